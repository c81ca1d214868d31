import PyProof.Rows.All
import Wide.All
import OpenK.AllK
import Wide.FinOn
import Lean
import PyProof.EqAt
import PyProof.EqKinds
import PyProof.TupleCall
import PySem.Challenge.RW_pursewright_k13_sizes_counts_and_order
set_option Elab.async false
set_option linter.all false
set_option maxRecDepth 100000
namespace L2
open PySem PySem.Spec PyProof.Rows
abbrev Key := Sum Int Str
def keyIs : Key → Value → Bool
  | .inl k, v => Value.isInt k v
  | .inr x, v => Value.isStrOf x v
def keyH (w : World) : Key → Int
  | .inl k => hashInt k
  | .inr x => hashStr w x
theorem keyIs_shape : ∀ {k : Key} {v : Value}, keyIs k v = true → (∃ i t, k = Sum.inl i ∧ v = Value.int i t) ∨ (∃ x t, k = Sum.inr x ∧ v = Value.str x t)
  | .inl i, v, h => by
    obtain ⟨t, e⟩ := Value.isInt_shape (k := i) (v := v) h
    exact .inl ⟨i, t, rfl, e⟩
  | .inr x, v, h => by
    obtain ⟨t, e⟩ := Value.isStrOf_shape (x := x) (v := v) h
    exact .inr ⟨x, t, rfl, e⟩
theorem keyIs_int (i : Int) (t : Tok) : keyIs (.inl i) (.int i t) = true := by simp [keyIs, Value.isInt]
theorem keyIs_str (x : Str) (t : Tok) : keyIs (.inr x) (.str x t) = true := by simp [keyIs, Value.isStrOf]
theorem key_ll (a b : Int) : decide ((Sum.inl a : Key) = Sum.inl b) = (a == b) := by
  by_cases e : a = b
  · subst e; simp
  · have h : ¬ (Sum.inl a : Key) = Sum.inl b := fun q => e (Sum.inl.inj q)
    rw [decide_eq_false h]
    exact (beq_eq_false_iff_ne.mpr e).symm
theorem key_rr (a b : Str) : decide ((Sum.inr a : Key) = Sum.inr b) = decide (a = b) := by
  by_cases e : a = b
  · subst e; simp
  · have h : ¬ (Sum.inr a : Key) = Sum.inr b := fun q => e (Sum.inr.inj q)
    rw [decide_eq_false h, decide_eq_false e]
theorem key_lr (a : Int) (b : Str) : decide ((Sum.inl a : Key) = Sum.inr b) = false := decide_eq_false (fun q => nomatch q)
theorem key_rl (a : Str) (b : Int) : decide ((Sum.inr a : Key) = Sum.inl b) = false := decide_eq_false (fun q => nomatch q)
def mixKind (prog : Program) (w : World) : PySem.KeyKind prog w Key where
  is := keyIs
  hash := keyH w
  inj := fun v a b ha hb => by
    rcases keyIs_shape ha with ⟨i, t, rfl, rfl⟩ | ⟨x, t, rfl, rfl⟩
    · rcases keyIs_shape hb with ⟨j, u, rfl, e⟩ | ⟨y, u, rfl, e⟩
      · injection e with e1 _; rw [e1]
      · exact nomatch e
    · rcases keyIs_shape hb with ⟨j, u, rfl, e⟩ | ⟨y, u, rfl, e⟩
      · exact nomatch e
      · injection e with e1 _; rw [e1]
  byValue := fun k v h => by
    rcases keyIs_shape h with ⟨i, t, rfl, rfl⟩ | ⟨x, t, rfl, rfl⟩ <;> rfl
  pyHash := fun hv h => by
    rcases keyIs_shape hv with ⟨i, t, rfl, rfl⟩ | ⟨x, t, rfl, rfl⟩
    · exact wpAny_pyHash_int h
    · exact wpAny_pyHash_str h
  eqBool := fun hu hv h => by
    rcases keyIs_shape hu with ⟨i, t, rfl, rfl⟩ | ⟨x, t, rfl, rfl⟩
    · rcases keyIs_shape hv with ⟨j, u, rfl, rfl⟩ | ⟨y, u, rfl, rfl⟩
      · rw [key_ll] at h; exact wpAny_eqBool_int h
      · rw [key_lr] at h; exact SeqAt.EqAt.int_str i t y u _ _ _ _ h
    · rcases keyIs_shape hv with ⟨j, u, rfl, rfl⟩ | ⟨y, u, rfl, rfl⟩
      · rw [key_rl] at h; exact SeqAt.EqAt.str_int x t j u _ _ _ _ h
      · rw [key_rr] at h; exact wpAny_eqBool_str h
  «strs» := fun k x t v h => by
    rcases keyIs_shape h with ⟨i, u, rfl, e⟩ | ⟨y, u, rfl, e⟩
    · exact nomatch e
    · injection e with e1 _
      subst e1
      cases v <;> rfl
theorem mixKind_int (prog : Program) (w : World) (i : Int) (t : Tok) : (mixKind prog w).is (.inl i) (.int i t) = true := keyIs_int i t
theorem mixKind_str (prog : Program) (w : World) (x : Str) (t : Tok) : (mixKind prog w).is (.inr x) (.str x t) = true := keyIs_str x t
end L2
namespace L2
open PySem PySem.Spec PyProof.Rows
inductive V where
  | non | bl (b : Bool) | int (i : Int) | str (x : Str) | byt (b : Array UInt8) | flt (b : UInt64) | ref (a : Addr) | ty (n : String)
  deriving DecidableEq
def RelV : V → Value → Prop
  | .non, u => u = Value.none
  | .bl b, u => u = Value.bool b
  | .int i, u => ∃ t, u = Value.int i t
  | .str x, u => ∃ t, u = Value.str x t
  | .byt b, u => ∃ t, u = Value.bytes b t
  | .flt b, u => ∃ t, u = Value.float b t
  | .ref a, u => u = Value.ref a
  | .ty n, u => u = Value.type n
abbrev Vals : List V → List Value → Prop := Paired RelV
theorem Vals.length {xs : List V} {us : List Value} (r : Vals xs us) : xs.length = us.length := Paired.length r
theorem Vals.get : ∀ {xs : List V} {us : List Value} {i : Nat} {x : V}, Vals xs us → xs[i]? = some x → ∃ u, us[i]? = some u ∧ RelV x u
  | _, _, _, _, .nil, e => by simp at e
  | _, _, 0, _, .cons r _, e => by simp at e; subst e; exact ⟨_, rfl, r⟩
  | _, _, i + 1, x, .cons _ t, e => by
    obtain ⟨u, h1, h2⟩ := Vals.get (i := i) (x := x) t (by simpa using e)
    exact ⟨u, by simpa using h1, h2⟩
theorem Vals.set {x : V} {u : Value} (r : RelV x u) : ∀ {xs : List V} {us : List Value} (i : Nat), Vals xs us → Vals (xs.set i x) (us.set i u)
  | _, _, _, .nil => .nil
  | _, _, 0, .cons _ t => .cons r t
  | _, _, i + 1, .cons q t => .cons q (Vals.set r i t)
theorem Vals.append : ∀ {xs ys : List V} {us ws : List Value}, Vals xs us → Vals ys ws → Vals (xs ++ ys) (us ++ ws)
  | _, _, _, _, .nil, s => s
  | _, _, _, _, .cons r t, s => .cons r (Vals.append t s)
theorem Vals.take : ∀ {xs : List V} {us : List Value} (n : Nat), Vals xs us → Vals (xs.take n) (us.take n)
  | _, _, 0, _ => .nil
  | _, _, _ + 1, .nil => .nil
  | _, _, n + 1, .cons r t => .cons r (Vals.take n t)
theorem Vals.drop : ∀ {xs : List V} {us : List Value} (n : Nat), Vals xs us → Vals (xs.drop n) (us.drop n)
  | _, _, 0, r => r
  | _, _, _ + 1, .nil => .nil
  | _, _, n + 1, .cons _ t => Vals.drop n t
def RelO : Option V → Option Value → Prop
  | some v, some u => RelV v u
  | none, none => True
  | _, _ => False
def KV {κ : Type} : List (κ × V) → List (κ × Value) → Prop := Paired fun (p : κ × V) (q : κ × Value) => p.1 = q.1 ∧ RelV p.2 q.2
def kV : Key → V
  | .inl i => .int i
  | .inr x => .str x
inductive HO where
  | lst (xs : List V)
  | tup (xs : List V)
  | dK (kvs : List (Key × V)) | dT (kvs : List (List Key × V))
  | set (S : Int → Bool) (n : Nat)
  | ins (C dx : Addr) (fs : List (Str × V))
  | own (x : Addr)
  | xd (fs : List (Str × V))
  | met (f x : Addr)
  | rng (lo hi : Int)
  | frz (o : Obj) (u : HO)
  | tbl (ps : Array Value)
  | ext (φ : Heap → Prop)
abbrev Hp := Addr → Option HO
def upd (H : Hp) (a : Addr) (o : HO) : Hp := fun b => if b = a then some o else H b
theorem upd_same {H : Hp} {a : Addr} {o : HO} : upd H a o a = some o := by unfold upd; rw [if_pos rfl]
theorem upd_ne {H : Hp} {a b : Addr} {o : HO} (h : b ≠ a) : upd H a o b = H b := by unfold upd; rw [if_neg h]
theorem ne_of {H : Hp} {a b : Addr} {o u : HO} (h : H a = some o) (h' : H b = some u) (d : o ≠ u) : a ≠ b := by
  intro e; subst e; rw [h] at h'; exact d (Option.some.inj h')
theorem ne_of_none {H : Hp} {a b : Addr} {o : HO} (h : H a = some o) (h' : H b = none) : a ≠ b := by
  intro e; subst e; rw [h] at h'; cases h'
def IsTupN (h : Heap) (a : Addr) (items : Array Value) : Prop := IsTup h a items ∧ ∃ o, h.get? a = some o ∧ o.dict = none
theorem IsTupN.new (h : Heap) (items : Array Value) : IsTupN (h.push { cls := .type "tuple", data := .seq items }) h.objs.size items := ⟨IsTup.new _ _, _, Heap.get?_push_size _ rfl, rfl⟩
section
variable (P : Program) (w : World)
def ObjOk (H : Hp) (h : Heap) (a : Addr) : HO → Prop
  | .lst xs => xs.length ≤ sizeLine ∧ ∃ (its : List Value) (n : Nat), Vals xs its ∧ h.get? a = some { cls := .type "list", data := .seq its.toArray n }
  | .tup xs => xs.length ≤ sizeLine ∧ ∃ its : List Value, Vals xs its ∧ IsTupN h a its.toArray
  | .dK kvs => kvs.length ≤ sizeLine ∧ (a == sysModules) = false ∧ ∃ vs, KV kvs vs ∧ h.DictOf (mixKind P w) a vs
  | .dT kvs => kvs.length ≤ sizeLine ∧ (a == sysModules) = false ∧ ∃ xs : List (List Key × Addr × Value),
      Paired (fun (p : List Key × V) (q : List Key × Addr × Value) => p.1 = q.1 ∧ H q.2.1 = some (.tup (p.1.map kV)) ∧ RelV p.2 q.2.2) kvs xs ∧
      ∃ o es ep, h.get? a = some o ∧ o.ExactDict ∧ o.data = .dict es ep ∧ es.toList = xs.map (entryOfKey (tupleKind (mixKind P w))) ∧ (xs.map (·.1)).Nodup
  | .set S n => h.SetOf (intKind P w) a S n
  | .ins C dx fs => H dx = some (.own a) ∧ fs.length ≤ 1000 ∧ dx ≠ a ∧ h.get? a = some (PySem.W.instObj C dx) ∧
      ∃ mA, h.Ns1 dx mA ∧ (∀ f, RelO (fs.lookup f) (mA f)) ∧ PySem.Within mA (fs.map (·.1))
  | .own _ => ∃ o, h.get? a = some o
  | .xd fs => ∃ mA, h.Ns1 a mA ∧ ∀ f, RelO (fs.lookup f) (mA f)
  | .rng lo hi => ∃ t u v, h.get? a = some { cls := .type "range", data := .fields #[.int lo t, .int hi u, .int 1 v] }
  | .frz o u => h.get? a = some o ∧ ObjOk H h a u
  | .tbl ps => h.get? a = some { cls := .none, data := .fields ps }
  | .met f x => h.get? a = some (PySem.W.methodObj (.ref f) (.ref x))
  | .ext φ => φ h ∧ (∃ o, h.get? a = some o) ∧ ∀ h1 h2 : Heap, φ h1 → (∀ o, h1.get? a = some o → h2.get? a = some o) → φ h2
def HOk (H : Hp) (h : Heap) : Prop := ∀ a o, H a = some o → ObjOk P w H h a o
end
section
variable {P : Program} {w : World} {H H' : Hp} {h h' : Heap} {a : Addr} {o : HO}
theorem ObjOk.lt (x : ObjOk P w H h a o) : a < h.objs.size := by
  cases o with
  | lst xs => obtain ⟨_, _, _, _, e⟩ := x; exact Heap.lt_size e
  | tup xs => obtain ⟨_, _, _, p⟩ := x; exact p.1.lt
  | dK kvs => obtain ⟨_, _, _, _, o, _, _, e, _⟩ := x; exact Heap.lt_size e
  | dT kvs => obtain ⟨_, _, _, _, o, _, _, e, _⟩ := x; exact Heap.lt_size e
  | set S n => obtain ⟨o, _, _, _, e, _⟩ := x; exact Heap.lt_size e
  | ins C dx fs => obtain ⟨_, _, _, e, _⟩ := x; exact Heap.lt_size e
  | own y => obtain ⟨_, e⟩ := x; exact Heap.lt_size e
  | xd fs => obtain ⟨_, ⟨_, _, _, e, _⟩, _⟩ := x; exact Heap.lt_size e
  | rng lo hi => obtain ⟨_, _, _, e⟩ := x; exact Heap.lt_size e
  | frz ob u => obtain ⟨e, _⟩ := x; exact Heap.lt_size e
  | tbl ps => exact Heap.lt_size (show h.get? a = some _ from x)
  | met f y => exact Heap.lt_size (show h.get? a = some _ from x)
  | ext φ => obtain ⟨_, ⟨_, e⟩, _⟩ := x; exact Heap.lt_size e
theorem Paired.mapP {α β : Type} {F G : α → β → Prop} : ∀ {l₁ : List α} {l₂ : List β}, Paired F l₁ l₂ → (∀ a b, F a b → G a b) → Paired G l₁ l₂
  | _, _, .nil, _ => .nil
  | _, _, .cons r t, f => .cons (f _ _ r) (Paired.mapP t f)
theorem ObjOk.stay (x : ObjOk P w H h a o) (k : ∀ b u, (b = a ∨ H b = some (.own a)) → h.get? b = some u → h'.get? b = some u)
    (ho : ∀ b, H b = some (.own a) → H' b = some (.own a)) (ht : ∀ b xs, H b = some (.tup xs) → H' b = some (.tup xs)) : ObjOk P w H' h' a o := by
  induction o with
  | lst xs => obtain ⟨z, its, n, r, e⟩ := x; exact ⟨z, its, n, r, k _ _ (.inl rfl) e⟩
  | tup xs => obtain ⟨z, its, r, ⟨ob, e, c⟩, o2, e2, d2⟩ := x; exact ⟨z, its, r, ⟨ob, k _ _ (.inl rfl) e, c⟩, o2, k _ _ (.inl rfl) e2, d2⟩
  | dK kvs => obtain ⟨z, y, vs, r, ob, es, ep, e, c⟩ := x; exact ⟨z, y, vs, r, ob, es, ep, k _ _ (.inl rfl) e, c⟩
  | dT kvs =>
    obtain ⟨z, y, xs, r, ob, es, ep, e, c⟩ := x
    exact ⟨z, y, xs, Paired.mapP r fun p q z => ⟨z.1, ht _ _ z.2.1, z.2.2⟩, ob, es, ep, k _ _ (.inl rfl) e, c⟩
  | set S n => obtain ⟨ob, es, ep, t, e, c⟩ := x; exact ⟨ob, es, ep, t, k _ _ (.inl rfl) e, c⟩
  | ins C dx fs =>
    obtain ⟨d, z, ne, e, mA, ⟨od, es, ep, e2, c⟩, r⟩ := x
    exact ⟨ho _ d, z, ne, k _ _ (.inl rfl) e, mA, ⟨od, es, ep, k _ _ (.inr d) e2, c⟩, r⟩
  | own y => obtain ⟨ob, e⟩ := x; exact ⟨ob, k _ _ (.inl rfl) e⟩
  | xd fs => obtain ⟨mA, ⟨od, es, ep, e, c⟩, r⟩ := x; exact ⟨mA, ⟨od, es, ep, k _ _ (.inl rfl) e, c⟩, r⟩
  | rng lo hi => obtain ⟨t, u, v, e⟩ := x; exact ⟨t, u, v, k _ _ (.inl rfl) e⟩
  | frz ob u ih => obtain ⟨e, q⟩ := x; exact ⟨k _ _ (.inl rfl) e, ih q⟩
  | tbl ps =>
    have e : h.get? a = some { cls := .none, data := .fields ps } := x
    show h'.get? a = some { cls := .none, data := .fields ps }
    exact k a _ (.inl rfl) e
  | met f y =>
    have e : h.get? a = some (PySem.W.methodObj (.ref f) (.ref y)) := x
    show h'.get? a = some (PySem.W.methodObj (.ref f) (.ref y))
    exact k a _ (.inl rfl) e
  | ext φ => obtain ⟨p, ⟨o, e⟩, st⟩ := x; exact ⟨st _ _ p fun o q => k _ _ (.inl rfl) q, ⟨o, k _ _ (.inl rfl) e⟩, st⟩
theorem HOk.lt (x : HOk P w H h) (e : H a = some o) : a < h.objs.size := (x a o e).lt
theorem HOk.fresh (x : HOk P w H h) (e : h.objs.size ≤ a) : H a = none := by
  cases q : H a with
  | none => rfl
  | some u => exact absurd (Nat.lt_of_lt_of_le (x.lt q) e) (Nat.lt_irrefl _)
theorem HOk.kept (x : HOk P w H h) (k : ∀ b u, h.get? b = some u → h'.get? b = some u) : HOk P w H h' := fun a o e =>
  (x a o e).stay (fun b u _ q => k b u q) (fun _ q => q) fun _ _ q => q
theorem HOk.laid (x : HOk P w H h) (k : ∀ b u, h.get? b = some u → h'.get? b = some u) (hp : h.objs.size ≤ a) (new : ObjOk P w (upd H a o) h' a o) : HOk P w (upd H a o) h' := fun b u e => by
  have hn := x.fresh hp
  by_cases hb : b = a
  · subst hb; rw [upd_same] at e; cases e; exact new
  · rw [upd_ne hb] at e
    exact (x b u e).stay (fun c v _ q => k c v q) (fun c q => by rw [upd_ne (ne_of_none q hn)]; exact q) fun c xs q => by rw [upd_ne (ne_of_none q hn)]; exact q
end
def Rd (H : Hp) (a : Addr) (u : HO) : Prop := H a = some u ∨ ∃ o, H a = some (.frz o u)
theorem Rd.of {H : Hp} {a : Addr} {u : HO} (h : H a = some u) : Rd H a u := .inl h
theorem Rd.ok {P : Program} {w : World} {H : Hp} {h : Heap} {a : Addr} {u : HO} (r : Rd H a u) (x : HOk P w H h) : ObjOk P w H h a u := by
  rcases r with r | ⟨o, r⟩
  · exact x a u r
  · obtain ⟨_, q⟩ := x a _ r
    exact q
def Mut : Option HO → Prop
  | some (.lst _) => True
  | some (.dK _) => True
  | some (.dT _) => True
  | some (.set _ _) => True
  | some (.ins _ _ _) => True
  | some (.ext _) => True
  | _ => False
section
variable {P : Program} {w : World} {H : Hp} {h h' : Heap} {x e : Addr} {o' : HO}
theorem HOk.write (ok : HOk P w H h) (mu : Mut (H x)) (he : e = x ∨ H e = some (.own x)) (k : ∀ b u, b ≠ e → h.get? b = some u → h'.get? b = some u) (heo : ∃ u, h'.get? e = some u)
    (new : ObjOk P w (upd H x o') h' x o') : HOk P w (upd H x o') h' := fun b u q => by
  have nown : ∀ c y, H c = some (.own y) → c ≠ x := fun c y r z => by subst z; rw [r] at mu; exact mu
  have ntup : ∀ c xs, H c = some (.tup xs) → c ≠ x := fun c xs r z => by subst z; rw [r] at mu; exact mu
  by_cases hb : b = x
  · subst hb; rw [upd_same] at q; cases q; exact new
  · rw [upd_ne hb] at q
    by_cases hbe : b = e
    · have q' : H b = some (.own x) := by
        rcases he with z | z
        · exact absurd (hbe.trans z) hb
        · rw [hbe]; exact z
      rw [q] at q'; cases q'
      obtain ⟨v, hv⟩ := heo
      exact ⟨v, by rw [hbe]; exact hv⟩
    · refine (ok b u q).stay (fun c v hc r => k c v ?_ r) (fun c r => by rw [upd_ne (nown c b r)]; exact r) fun c xs r => by rw [upd_ne (ntup c xs r)]; exact r
      rcases hc with rfl | hc
      · exact hbe
      · rintro rfl
        rcases he with z | z
        · exact nown c b hc z
        · rw [hc] at z; cases z; exact hb rfl
end
structure Un (fs ex : List Addr) (H H' : Hp) (h h' : Heap) : Prop where
  keep : ∀ b o, h.get? b = some o → H b = none → b ∉ fs → b ∉ ex → h'.get? b = some o
  slot : ∀ b o, h.get? b = some o → H b = none → b ∈ fs → b ∉ ex → ∃ sl, h'.get? b = some { o with slots := sl }
  free : ∀ b o, h.get? b = some o → H b = none → b ∉ ex → H' b = none
  there : ∀ b o, h.get? b = some o → b ∉ ex → ∃ o', h'.get? b = some o'
  tups : ∀ b xs, H b = some (.tup xs) → H' b = some (.tup xs)
  frzs : ∀ b o u, H b = some (.frz o u) → H' b = some (.frz o u)
  tbls : ∀ b ps, H b = some (.tbl ps) → ∃ more, H' b = some (.tbl (ps ++ more))
section
variable {fs fs' ex ex' : List Addr} {H H1 H2 : Hp} {h h1 h2 h' : Heap} {a x e : Addr} {o : HO}
theorem Un.any (u : Un fs ex H H1 h h1) {b : Addr} {ob : Obj} (q : h.get? b = some ob) (n : H b = none) (hx : b ∉ ex) : ∃ sl, h1.get? b = some { ob with slots := sl } := by
  by_cases hb : b ∈ fs
  · exact u.slot b ob q n hb hx
  · exact ⟨ob.slots, u.keep b ob q n hb hx⟩
theorem Un.trans (a : Un fs ex H H1 h h1) (b : Un fs ex H1 H2 h1 h2) : Un fs ex H H2 h h2 where
  keep := fun c ob q n hc hx => b.keep c ob (a.keep c ob q n hc hx) (a.free c ob q n hx) hc hx
  slot := fun c ob q n hc hx => by
    obtain ⟨sl, e1⟩ := a.slot c ob q n hc hx
    obtain ⟨sl', e2⟩ := b.slot c _ e1 (a.free c ob q n hx) hc hx
    exact ⟨sl', e2⟩
  free := fun c ob q n hx => by
    obtain ⟨o', e1⟩ := a.there c ob q hx
    exact b.free c o' e1 (a.free c ob q n hx) hx
  there := fun c ob q hx => by
    obtain ⟨o', e1⟩ := a.there c ob q hx
    exact b.there c o' e1 hx
  tups := fun c xs q => b.tups c xs (a.tups c xs q)
  frzs := fun c ob xs q => b.frzs c ob xs (a.frzs c ob xs q)
  tbls := fun c ps q => by
    obtain ⟨m1, e1⟩ := a.tbls c ps q
    obtain ⟨m2, e2⟩ := b.tbls c _ e1
    exact ⟨m1 ++ m2, by rw [e2, Array.append_assoc]⟩
theorem Un.kept (k : ∀ b u, h.get? b = some u → h'.get? b = some u) : Un fs ex H H h h' :=
  ⟨fun b ob q _ _ _ => k b ob q, fun b ob q _ _ _ => ⟨ob.slots, k b ob q⟩, fun _ _ _ n _ => n, fun b ob q _ => ⟨ob, k b ob q⟩, fun _ _ q => q, fun _ _ _ q => q, fun _ ps q => ⟨#[], by rw [q]; simp⟩⟩
theorem Un.refl : Un fs ex H H h h := Un.kept fun _ _ q => q
theorem Un.laid (k : ∀ b u, h.get? b = some u → h'.get? b = some u) (hp : h.objs.size ≤ a) (hn : H a = none) : Un fs ex H (upd H a o) h h' where
  keep := fun b u q _ _ _ => k b u q
  slot := fun b u q _ _ _ => ⟨u.slots, k b u q⟩
  free := fun b u q n _ => by rw [upd_ne (Nat.ne_of_lt (Nat.lt_of_lt_of_le (Heap.lt_size q) hp))]; exact n
  there := fun b u q _ => ⟨u, k b u q⟩
  tups := fun b xs q => by rw [upd_ne (ne_of_none q hn)]; exact q
  frzs := fun b u xs q => by rw [upd_ne (ne_of_none q hn)]; exact q
  tbls := fun b ps q => ⟨#[], by rw [upd_ne (ne_of_none q hn), q]; simp⟩
theorem Un.write (mu : Mut (H x)) (he : e = x ∨ H e = some (.own x)) (k : ∀ b u, b ≠ e → h.get? b = some u → h'.get? b = some u) (heo : ∃ u, h'.get? e = some u) : Un fs ex H (upd H x o) h h' := by
  have hx : ∀ b, H b = none → b ≠ x := fun b n z => by subst z; rw [n] at mu; exact mu
  have hb : ∀ b, H b = none → b ≠ e := fun b n z => by
    subst z
    rcases he with r | r
    · exact hx b n r
    · rw [n] at r; cases r
  have hm : ∀ b u, H b = some u → ¬ Mut (some u) → b ≠ x := fun b u q nm z => by subst z; rw [q] at mu; exact nm mu
  refine ⟨fun b u q n _ _ => k b u (hb b n) q, fun b u q n _ _ => ⟨u.slots, k b u (hb b n) q⟩, fun b u q n _ => by rw [upd_ne (hx b n)]; exact n, fun b u q _ => ?_,
    fun b xs q => by rw [upd_ne (hm b _ q fun z => z)]; exact q, fun b u xs q => by rw [upd_ne (hm b _ q fun z => z)]; exact q, fun b ps q => ⟨#[], by rw [upd_ne (hm b _ q fun z => z), q]; simp⟩⟩
  by_cases hbe : b = e
  · subst hbe; exact heo
  · exact ⟨u, k b u hbe q⟩
theorem Un.mono (u : Un fs ex H H1 h h1) (hs : ∀ b ∈ fs, b ∈ fs') (hx : ∀ b ∈ ex, b ∈ ex') : Un fs' ex' H H1 h h1 :=
  ⟨fun b ob q n hb he => u.keep b ob q n (fun z => hb (hs b z)) fun z => he (hx b z), fun _ _ q n _ he => u.any q n fun z => he (hx _ z), fun b ob q n he => u.free b ob q n fun z => he (hx b z), fun b ob q he => u.there b ob q fun z => he (hx b z), u.tups, u.frzs, u.tbls⟩
end
def trk (h : Heap) (H : Hp) : List Addr := (List.range h.objs.size).filter fun a => (H a).isSome
def hidT (h : Heap) (H : Hp) : Heap := PySem.W.hideAll h (trk h H)
theorem hidT_size (h : Heap) (H : Hp) : (hidT h H).objs.size = h.objs.size := PySem.W.hideAll_size _ _
theorem hidT_get {h : Heap} {H : Hp} {b : Addr} {o : Obj} (e : h.get? b = some o) (n : H b = none) : (hidT h H).get? b = some o :=
  PySem.W.hideAll_get _ e fun hm => by
    have q : (H b).isSome = true := (List.mem_filter.mp hm).2
    rw [n] at q; simp at q
theorem of_hidT {h : Heap} {H : Hp} {b : Addr} {o : Obj} (e : (hidT h H).get? b = some o) : h.get? b = some o ∧ H b = none := by
  have e' : h.get? b = some o := PySem.W.of_hideAll (trk h H) e
  refine ⟨e', ?_⟩
  cases q : H b with
  | none => rfl
  | some x =>
    have hm : b ∈ trk h H := List.mem_filter.mpr ⟨List.mem_range.mpr (Heap.lt_size e'), by simp [q]⟩
    have z : (hidT h H).get? b = none := PySem.W.hideAll_none (trk h H) hm
    rw [z] at e; cases e
def allNews (g h : Heap) (L : Addr) : List (Addr × Obj) := (List.range h.objs.size).filterMap fun a => if a = L ∨ (g.get? a).isSome = true then none else (h.get? a).map fun o => (a, o)
def rest (g h : Heap) (L d : Addr) : List (Addr × Obj) := (allNews g h L).filter fun p => decide (p.1 ≠ d)
end L2
namespace L2
open PySem PySem.Spec PyProof.Rows
structure Mod (K : PySem.W.Frag) (mg : Str → Option Value) (base : Heap) : Prop where
  kin : K.In base
  glob : base.Ns mainGlobals mg
  blt : ∃ mb, base.Ns builtinsNs mb ∧ ∀ x : Str, x ≠ "__name__" → mb x = bootBuiltins x
  nolimit : base.NoLimit
structure Cx where
  prog : Program
  w : World
  K : PySem.W.Frag
  mg : Str → Option Value
  base : Heap
  A : Around
  N : List Str
  s₀ : Shared
  H₀ : Hp
  env : Env
  outer : List Env
  stack : List Env
  ex : List Addr
  fn : Str → Bool
  calm : Bool
  pn : List (Addr × Obj)
  xe : Value → Shared → Prop
def frs (l : List Env) : List Addr := l.filterMap (·.frame)
abbrev Cx.fs (X : Cx) : List Addr := frs X.outer
def Vis (sc : Scope) (x : Str) : Prop := sc.names.lookup x = some .local ∨ sc.names.lookup x = some .cell ∨ sc.names.lookup x = some .free
def Loc (sc : Scope) (x : Str) : Prop := sc.names.lookup x = some .local ∨ sc.names.lookup x = some .cell
def Look (env : Env) (h : Heap) (m : Str → Option Value) (x : Str) (u : Value) : Prop :=
  (env.kindOf x = some .local ∧ m x = some u) ∨ ((env.kindOf x = some .cell ∨ env.kindOf x = some .free) ∧ ∃ c, env.cells.lookup x = some c ∧ h.IsCell c (some u))
structure Cx.Ok (X : Cx) : Prop where
  mod : Mod X.K X.mg X.base
  kind : X.env.scope.kind = .function
  glob : X.env.globals = mainGlobals
  blt : X.env.builtins = builtinsNs
  above : X.s₀.heap.objs.size ≤ X.env.locals
  inj : ∀ x y c, X.env.cells.lookup x = some c → X.env.cells.lookup y = some c → x = y
  has : ∀ x, (X.env.kindOf x = some .cell ∨ X.env.kindOf x = some .free) → ∃ c, X.env.cells.lookup x = some c
  cab : ∀ x c, X.fn x = true → X.env.cells.lookup x = some c → X.s₀.heap.objs.size ≤ c
  hd : X.calm = true → X.A.handled = none
  frames : X.A.frames = some X.stack
  stk : X.stack = X.outer ∨ (X.stack = X.env :: X.outer ∧ X.env.frame = some X.env.locals)
  exf : ∀ b ∈ X.ex, b ≠ X.env.locals ∧ ∀ x c, X.env.cells.lookup x = some c → c ≠ b
  bs : ∀ b o, X.base.get? b = some o → X.s₀.heap.get? b = some o ∧ X.H₀ b = none
  bsz : X.base.objs.size ≤ X.s₀.heap.objs.size
  noex : ∀ b o, X.base.get? b = some o → b ∉ X.ex
  exfs : ∀ b ∈ X.ex, b ∉ X.fs
  funs : X.s₀.heap.FunFrames X.base X.outer
  frf : ∀ b ∈ X.fs, X.H₀ b = none
structure Inv (X : Cx) (pins : List (Addr × Obj)) (σ : List (Option V)) (H : Hp) (s : Shared) : Prop where
  ok : X.Ok
  os : s.os = X.s₀.os
  bare : AllBare s.gens
  base : Un X.fs X.ex X.H₀ H X.s₀.heap s.heap
  loc : ∃ m, s.heap.Ns X.env.locals m ∧ ∀ (i : Nat) (x : Str) (v : V), X.N[i]? = some x → σ[i]? = some (some v) → Vis X.env.scope x → ∃ u, RelV v u ∧ Look X.env s.heap m x u
  cell : ∀ x c, X.env.cells.lookup x = some c → ∃ v, s.heap.IsCell c v
  free : H X.env.locals = none
  freeC : ∀ x c, X.env.cells.lookup x = some c → H c = none
  pin : ∀ p ∈ X.pn ++ pins, s.heap.get? p.1 = some p.2 ∧ H p.1 = none ∧ p.1 ≠ X.env.locals ∧ p.1 ∉ X.fs ∧ ∀ v, p.2.data ≠ .cell v
  hok : HOk X.prog X.w H s.heap
  len : σ.length = X.N.length
section
variable {X : Cx} {pins : List (Addr × Obj)} {σ : List (Option V)} {H H' : Hp} {s : Shared} {h' : Heap}
theorem Cx.Ok.nofr (ok : X.Ok) {b : Addr} {o : Obj} (e : X.base.get? b = some o) : b ∉ X.fs := fun hb => by
  have := (ok.funs.mem hb).1
  rw [e] at this; cases this
theorem Inv.bs (I : Inv X pins σ H s) : ∀ b o, X.base.get? b = some o → s.heap.get? b = some o ∧ H b = none := fun b o e =>
  ⟨I.base.keep b o (I.ok.bs b o e).1 (I.ok.bs b o e).2 (I.ok.nofr e) (I.ok.noex b o e), I.base.free b o (I.ok.bs b o e).1 (I.ok.bs b o e).2 (I.ok.noex b o e)⟩
theorem Inv.bk (I : Inv X pins σ H s) : ∀ b o, X.base.get? b = some o → s.heap.get? b = some o := fun b o e => (I.bs b o e).1
theorem Inv.mod (I : Inv X pins σ H s) : Mod X.K X.mg X.base := I.ok.mod
theorem Inv.kIn (I : Inv X pins σ H s) : X.K.In s.heap := I.ok.mod.kin.keeps I.bk
theorem Inv.nolimit (I : Inv X pins σ H s) : s.heap.NoLimit := I.ok.mod.nolimit.keeps I.bk
theorem Inv.fr (I : Inv X pins σ H s) : ∃ m, Fr X.base X.env.locals s.heap m :=
  let ⟨m, hn, _⟩ := I.loc
  ⟨m, hn, I.bk, Nat.le_trans I.ok.bsz I.ok.above⟩
theorem Inv.lt (I : Inv X pins σ H s) : X.env.locals < s.heap.objs.size := let ⟨_, hn, _⟩ := I.loc; hn.lt
theorem Inv.sz (I : Inv X pins σ H s) : X.s₀.heap.objs.size ≤ s.heap.objs.size := Nat.le_trans I.ok.above (Nat.le_of_lt I.lt)
theorem Inv.nofs (I : Inv X pins σ H s) {a : Addr} (h : s.heap.objs.size ≤ a) : a ∉ X.fs := fun hb => by
  obtain ⟨_, o, ho, _⟩ := I.ok.funs.mem hb
  exact absurd (Nat.lt_of_lt_of_le (Heap.lt_size ho) (Nat.le_trans I.sz h)) (Nat.lt_irrefl _)
theorem Inv.cne (I : Inv X pins σ H s) : ∀ x c, X.env.cells.lookup x = some c → c ≠ X.env.locals := fun x c e z => by
  obtain ⟨v, o, ho, hd⟩ := I.cell x c e
  obtain ⟨m, ⟨o', es, ep, ho', hd', _⟩, _⟩ := I.loc
  rw [z, ho'] at ho; cases ho; rw [hd'] at hd; cases hd
theorem Inv.funs (I : Inv X pins σ H s) : s.heap.FunFrames X.base X.outer := by
  have all : ∀ (l : List Env), (∀ b ∈ frs l, b ∈ X.fs) → X.s₀.heap.FunFrames X.base l → s.heap.FunFrames X.base l := by
    intro l
    induction l with
    | nil => intro _ _; trivial
    | cons env r ih =>
      intro hs hl
      obtain ⟨hk, ⟨L, o, hf, hn, ho, hd⟩, hr⟩ := hl
      have hL : L ∈ X.fs := hs L (by unfold frs; rw [List.filterMap_cons, hf]; exact List.mem_cons_self)
      obtain ⟨sl, e⟩ := I.base.slot L o ho (I.ok.frf L hL) hL fun z => I.ok.exfs L z hL
      exact ⟨hk, ⟨L, _, hf, hn, e, hd⟩, ih (fun b hb => hs b (by unfold frs; rw [List.filterMap_cons, hf]; exact List.mem_cons_of_mem _ hb)) hr⟩
  exact all X.outer (fun _ hb => hb) I.ok.funs
theorem Inv.stack (I : Inv X pins σ H s) : s.heap.FunFrames X.base X.stack := by
  rcases I.ok.stk with e | ⟨e, hf⟩
  · rw [e]; exact I.funs
  · rw [e]
    obtain ⟨m, hn, _⟩ := I.loc
    refine .cons (by rw [I.ok.kind]; decide) hf hn ?_ I.funs
    exact Heap.get?_none_of_le (Nat.le_trans I.ok.bsz I.ok.above)
theorem Inv.stkSub (I : Inv X pins σ H s) : ∀ b ∈ frs X.stack, b ∈ X.env.locals :: X.fs := fun b hb => by
  rcases I.ok.stk with e | ⟨e, hf⟩
  · rw [e] at hb; exact List.mem_cons_of_mem _ hb
  · rw [e] at hb
    unfold frs at hb
    rw [List.filterMap_cons, hf] at hb
    exact hb
theorem Inv.stkFree (I : Inv X pins σ H s) : ∀ b ∈ frs X.stack, H b = none := fun b hb => by
  rcases List.mem_cons.mp (I.stkSub b hb) with e | hb
  · rw [e]; exact I.free
  · obtain ⟨_, o, ho, _⟩ := I.ok.funs.mem hb
    exact I.base.free b o ho (I.ok.frf b hb) fun z => I.ok.exfs b z hb
theorem Inv.step {g' : Array GenState} {t' : Nat} {d' : Drawn} {ch : List Addr} (I : Inv X pins σ H s)
    (hch : ∀ b ∈ ch, (b ∈ X.ex ∨ X.s₀.heap.objs.size ≤ b) ∧ b ≠ X.env.locals ∧ (∀ x c, X.env.cells.lookup x = some c → c ≠ b) ∧ ∀ p ∈ X.pn ++ pins, p.1 ≠ b)
    (keep : ∀ b o, b ≠ X.env.locals → b ∉ X.fs → b ∉ ch → s.heap.get? b = some o → H b = none → h'.get? b = some o)
    (slot : ∀ b o, b ≠ X.env.locals → b ∈ X.fs → b ∉ ch → s.heap.get? b = some o → H b = none → ∃ sl, h'.get? b = some { o with slots := sl }) (free : ∀ b o, b ∉ ch → s.heap.get? b = some o → H b = none → H' b = none)
    (there : ∀ b o, b ∉ ch → s.heap.get? b = some o → ∃ o', h'.get? b = some o')
    (tups : ∀ b xs, H b = some (.tup xs) → H' b = some (.tup xs)) (frzs : ∀ b o u, H b = some (.frz o u) → H' b = some (.frz o u)) (tbls : ∀ b ps, H b = some (.tbl ps) → ∃ more, H' b = some (.tbl (ps ++ more)))
    (ns : ∀ m, s.heap.Ns X.env.locals m → h'.Ns X.env.locals m) (hok : HOk X.prog X.w H' h') (hg : AllBare g') :
    Inv X pins σ H' { s with heap := h', gens := g', drawn := d', toks := t' } := by
  have neL : ∀ b o, X.s₀.heap.get? b = some o → b ≠ X.env.locals := fun b o e => Nat.ne_of_lt (Nat.lt_of_lt_of_le (Heap.lt_size e) I.ok.above)
  have neC : ∀ b o, X.s₀.heap.get? b = some o → b ∉ X.ex → b ∉ ch := fun b o e hx hb => by
    rcases (hch b hb).1 with z | z
    · exact hx z
    · exact absurd (Nat.lt_of_lt_of_le (Heap.lt_size e) z) (Nat.lt_irrefl _)
  have cellK : ∀ x c, X.env.cells.lookup x = some c → ∀ v, s.heap.IsCell c v → h'.IsCell c v := fun x c e v ⟨o, ho, hd⟩ => by
    have nch : c ∉ ch := fun z => (hch c z).2.2.1 x c e rfl
    by_cases hc : c ∈ X.fs
    · obtain ⟨sl, q⟩ := slot c o (I.cne x c e) hc nch ho (I.freeC x c e)
      exact ⟨_, q, hd⟩
    · exact ⟨o, keep c o (I.cne x c e) hc nch ho (I.freeC x c e), hd⟩
  refine ⟨I.ok, I.os, hg, ⟨fun b o e n hb hx => ?_, fun b o e n hb hx => ?_, fun b o e n hx => ?_, fun b o e hx => ?_, fun b xs e => tups b xs (I.base.tups b xs e), fun b o xs e => frzs b o xs (I.base.frzs b o xs e), fun b ps e => ?_⟩, ?_, fun x c e => ?_, ?_, fun x c e => ?_, fun p hp => ?_, hok, I.len⟩
  · exact keep b o (neL b o e) hb (neC b o e hx) (I.base.keep b o e n hb hx) (I.base.free b o e n hx)
  · obtain ⟨sl, e1⟩ := I.base.slot b o e n hb hx
    obtain ⟨sl', e2⟩ := slot b _ (neL b o e) hb (neC b o e hx) e1 (I.base.free b o e n hx)
    exact ⟨sl', e2⟩
  · obtain ⟨o', e1⟩ := I.base.there b o e hx
    exact free b o' (neC b o e hx) e1 (I.base.free b o e n hx)
  · obtain ⟨o', e1⟩ := I.base.there b o e hx
    exact there b o' (neC b o e hx) e1
  · obtain ⟨m1, e1⟩ := I.base.tbls b ps e
    obtain ⟨m2, e2⟩ := tbls b _ e1
    exact ⟨m1 ++ m2, by rw [e2, Array.append_assoc]⟩
  · obtain ⟨m, hn, hl⟩ := I.loc
    refine ⟨m, ns m hn, fun i x v e1 e2 e3 => ?_⟩
    obtain ⟨u, r, l⟩ := hl i x v e1 e2 e3
    refine ⟨u, r, ?_⟩
    rcases l with l | ⟨k, c, e, z⟩
    · exact .inl l
    · exact .inr ⟨k, c, e, cellK x c e _ z⟩
  · obtain ⟨v, z⟩ := I.cell x c e
    exact ⟨v, cellK x c e v z⟩
  · obtain ⟨m, ⟨o, _, _, ho, _⟩, _⟩ := I.loc
    exact free _ o (fun z => (hch _ z).2.1 rfl) ho I.free
  · obtain ⟨v, o, ho, hd⟩ := I.cell x c e
    exact free c o (fun z => (hch c z).2.2.1 x c e rfl) ho (I.freeC x c e)
  · obtain ⟨e, n, ne, nf, d⟩ := I.pin p hp
    have nch : p.1 ∉ ch := fun z => (hch p.1 z).2.2.2 p hp rfl
    exact ⟨keep p.1 p.2 ne nf nch e n, free p.1 p.2 nch e n, ne, nf, d⟩
theorem Inv.un {t' : Nat} (I : Inv X pins σ H s) (u : Un X.fs [] H H' s.heap h') (hok : HOk X.prog X.w H' h') : Inv X pins σ H' { s with heap := h', toks := t' } := by
  obtain ⟨m, ⟨o, es, ep, ho, r⟩, _⟩ := id I.loc
  obtain ⟨sl, hL⟩ := u.any ho I.free (by simp)
  exact I.step (g' := s.gens) (d' := s.drawn) (ch := []) (fun _ z => nomatch z) (fun b o _ hb _ e n => u.keep b o e n hb (by simp)) (fun b o _ hb _ e n => u.slot b o e n hb (by simp)) (fun b o _ e n => u.free b o e n (by simp)) (fun b o _ e => u.there b o e (by simp)) u.tups u.frzs u.tbls (fun m' hm => by
    obtain ⟨o', es', ep', ho', r'⟩ := hm
    rw [ho] at ho'; cases ho'
    exact ⟨_, es', ep', hL, r'⟩) hok I.bare
theorem Inv.call {g' : Array GenState} {t' : Nat} {d' : Drawn} {ch : List Addr} (I : Inv X pins σ H s) (u : Un (frs X.stack) ch H H' s.heap h') (hok : HOk X.prog X.w H' h') (hg : AllBare g')
    (hch : ∀ b ∈ ch, (b ∈ X.ex ∨ X.s₀.heap.objs.size ≤ b) ∧ b ≠ X.env.locals ∧ (∀ x c, X.env.cells.lookup x = some c → c ≠ b) ∧ ∀ p ∈ X.pn ++ pins, p.1 ≠ b) :
    Inv X pins σ H' { s with heap := h', gens := g', drawn := d', toks := t' } := by
  obtain ⟨m, ⟨o, es, ep, ho, r⟩, _⟩ := id I.loc
  obtain ⟨sl, hL⟩ := u.any ho I.free fun z => (hch _ z).2.1 rfl
  exact I.step (ch := ch) hch (fun b o hL hb hc e n => u.keep b o e n (fun z => (List.mem_cons.mp (I.stkSub b z)).elim hL hb) hc) (fun b o _ _ hc e n => u.any e n hc) (fun b o hc e n => u.free b o e n hc) (fun b o hc e => u.there b o e hc) u.tups u.frzs u.tbls (fun m' hm => by
    obtain ⟨o', es', ep', ho', r'⟩ := hm
    rw [ho] at ho'; cases ho'
    exact ⟨_, es', ep', hL, r'⟩) hok hg
theorem Inv.turned {t' : Nat} {it : Addr} (I : Inv X pins σ H s) (k : ∀ b o, b ≠ it → s.heap.get? b = some o → h'.get? b = some o) (hn : H it = none) (hL : it ≠ X.env.locals)
    (h1 : it ∈ X.ex ∨ X.s₀.heap.objs.size ≤ it) (h2 : ∀ x c, X.env.cells.lookup x = some c → c ≠ it) (h3 : ∀ p ∈ X.pn ++ pins, p.1 ≠ it) : Inv X pins σ H { s with heap := h', toks := t' } := by
  have nit : ∀ b u, H b = some u → b ≠ it := fun b u e z => by rw [z, hn] at e; cases e
  refine I.step (g' := s.gens) (d' := s.drawn) (ch := [it]) (fun b hb => ?_) (fun b o _ _ hc e _ => k b o (fun z => hc (by simp [z])) e) (fun b o _ _ hc e _ => ⟨o.slots, k b o (fun z => hc (by simp [z])) e⟩) (fun _ _ _ _ n => n)
    (fun b o hc e => ⟨o, k b o (fun z => hc (by simp [z])) e⟩) (fun _ _ e => e) (fun _ _ _ e => e) (fun b ps e => ⟨#[], by rw [e]; simp⟩) (fun m hm => ?_) (fun b u e => ?_) I.bare
  · have e : b = it := by simpa using hb
    subst e
    exact ⟨h1, hL, h2, h3⟩
  · obtain ⟨o, es, ep, ho, r⟩ := hm
    exact ⟨o, es, ep, k _ o (Ne.symm hL) ho, r⟩
  · refine (I.hok b u e).stay (fun c v hc q => k c v ?_ q) (fun _ q => q) fun _ _ q => q
    rcases hc with z | z
    · rw [z]; exact nit b u e
    · exact nit c _ z
theorem Inv.tok (I : Inv X pins σ H s) (t : Nat) : Inv X pins σ H { s with toks := t } := I.un (h' := s.heap) (t' := t) Un.refl I.hok
theorem Inv.kept {t' : Nat} (I : Inv X pins σ H s) (k : ∀ b u, s.heap.get? b = some u → h'.get? b = some u) : Inv X pins σ H { s with heap := h', toks := t' } := I.un (Un.kept k) (I.hok.kept k)
theorem Inv.laid {a : Addr} {o : HO} {t' : Nat} (I : Inv X pins σ H s) (k : ∀ b u, s.heap.get? b = some u → h'.get? b = some u) (hp : s.heap.objs.size ≤ a) (new : ObjOk X.prog X.w (upd H a o) h' a o) :
    Inv X pins σ (upd H a o) { s with heap := h', toks := t' } := I.un (Un.laid k hp (I.hok.fresh hp)) (I.hok.laid k hp new)
theorem Inv.write {x e : Addr} {o : HO} {t' : Nat} (I : Inv X pins σ H s) (mu : Mut (H x)) (he : e = x ∨ H e = some (.own x)) (k : ∀ b u, b ≠ e → s.heap.get? b = some u → h'.get? b = some u) (heo : ∃ u, h'.get? e = some u)
    (new : ObjOk X.prog X.w (upd H x o) h' x o) : Inv X pins σ (upd H x o) { s with heap := h', toks := t' } := I.un (Un.write mu he k heo) (I.hok.write mu he k heo new)
theorem Inv.pins_of {pins' : List (Addr × Obj)} (I : Inv X pins σ H s) (h : ∀ p ∈ pins', s.heap.get? p.1 = some p.2 ∧ H p.1 = none ∧ p.1 ≠ X.env.locals ∧ p.1 ∉ X.fs ∧ ∀ v, p.2.data ≠ .cell v) : Inv X pins' σ H s :=
  ⟨I.ok, I.os, I.bare, I.base, I.loc, I.cell, I.free, I.freeC, fun p hp => (List.mem_append.mp hp).elim (fun z => I.pin p (List.mem_append_left _ z)) (h p), I.hok, I.len⟩
theorem nodup_ix {N : List Str} (hN : N.Nodup) {i j : Nat} {x : Str} (a : N[i]? = some x) (b : N[j]? = some x) : i = j := by
  obtain ⟨h1, e1⟩ := List.getElem?_eq_some_iff.mp a
  obtain ⟨h2, e2⟩ := List.getElem?_eq_some_iff.mp b
  exact (List.getElem_inj hN).mp (e1.trans e2.symm)
theorem store_ok2 {M : Model} {A : Around} {E : Value → Shared → Prop} {i : Nat} {x : Str} {v : V} {u : Value} {Q : Unit → Shared → Prop} (I : Inv X pins σ H s) (hN : X.N.Nodup) (hi : X.N[i]? = some x) (hx : Loc X.env.scope x) (r : RelV v u)
    (h : ∀ s', Inv X pins (σ.set i (some v)) H s' → (∃ a, Heap.SameBut a s.heap s'.heap ∧ (a = X.env.locals ∨ X.env.cells.lookup x = some a)) → Q () s') (hf : X.fn x = true ∨ X.env.scope.names.lookup x = some .local := by first | exact .inl rfl | exact .inr rfl | assumption) : wpAny M A (storeName X.env x u) Q E s := by
  obtain ⟨m, hn, hl⟩ := id I.loc
  have hcls : (X.env.scope.kind == .class || (X.env.scope.kind == .module && X.env.locals != X.env.globals)) = false := by rw [I.ok.kind]; rfl
  have hiσ : i < σ.length := by rw [I.len]; exact (List.getElem?_eq_some_iff.mp hi).1
  have cne := I.cne
  have tracked : ∀ {a : Addr} {h' : Heap}, (∃ o, s.heap.get? a = some o ∧ H a = none) → Heap.SameBut a s.heap h' → HOk X.prog X.w H h' := fun {a h'} ha hs b ob e => by
    obtain ⟨_, _, hfree⟩ := ha
    refine (I.hok b ob e).stay (fun c w' hc q => (hs.2 c ?_).trans q) (fun _ q => q) fun _ _ q => q
    rintro rfl
    rcases hc with rfl | hc
    · rw [hfree] at e; cases e
    · rw [hfree] at hc; cases hc
  rcases hx with hk | hk
  · refine wpAny_storeName_local hk hn (fun h' hn' hs => ?_) hcls
    obtain ⟨oL, _, _, hoL, _⟩ := id hn
    refine h _ ⟨I.ok, I.os, I.bare, ⟨fun b o e n hb hx => ?_, fun b o e n hb hx => ?_, I.base.free, fun b o e hx => ?_, I.base.tups, I.base.frzs, I.base.tbls⟩, ⟨_, hn', fun j y v' e1 e2 e3 => ?_⟩, fun y c e => ?_, I.free, I.freeC, fun p hp => ?_, tracked ⟨oL, hoL, I.free⟩ hs, by simpa using I.len⟩ ⟨_, hs, .inl rfl⟩
    · exact (hs.2 b (Nat.ne_of_lt (Nat.lt_of_lt_of_le (Heap.lt_size e) I.ok.above))).trans (I.base.keep b o e n hb hx)
    · obtain ⟨sl, e1⟩ := I.base.slot b o e n hb hx
      exact ⟨sl, (hs.2 b (Nat.ne_of_lt (Nat.lt_of_lt_of_le (Heap.lt_size e) I.ok.above))).trans e1⟩
    · obtain ⟨o', e1⟩ := I.base.there b o e hx
      exact ⟨o', (hs.2 b (Nat.ne_of_lt (Nat.lt_of_lt_of_le (Heap.lt_size e) I.ok.above))).trans e1⟩
    · by_cases hj : j = i
      · subst hj
        rw [hi] at e1; cases e1
        rw [List.getElem?_set_self hiσ] at e2
        cases e2
        exact ⟨u, r, .inl ⟨hk, by simp⟩⟩
      · rw [List.getElem?_set_ne (Ne.symm hj)] at e2
        obtain ⟨u', r', q⟩ := hl j y v' e1 e2 e3
        refine ⟨u', r', ?_⟩
        rcases q with ⟨k, e⟩ | ⟨k, c, e, z⟩
        · refine .inl ⟨k, ?_⟩
          have : y ≠ x := fun e => hj (nodup_ix hN e1 (e ▸ hi))
          simp [this, e]
        · exact .inr ⟨k, c, e, z.sameBut hs (cne y c e)⟩
    · obtain ⟨w', z⟩ := I.cell y c e
      exact ⟨w', z.sameBut hs (cne y c e)⟩
    · obtain ⟨e, n, ne, nf, d⟩ := I.pin p hp
      exact ⟨(hs.2 p.1 ne).trans e, n, ne, nf, d⟩
  · have hfn : X.fn x = true := by
      rcases hf with z | z
      · exact z
      · rw [z] at hk; cases hk
    obtain ⟨c, hc⟩ := I.ok.has x (.inl hk)
    obtain ⟨w', z⟩ := I.cell x c hc
    refine wpAny_storeName_cell I.ok.kind hk hc z (fun h' hc' hs => ?_)
    obtain ⟨oc, hoc, hocd⟩ := id z
    refine h { s with heap := h' } ⟨I.ok, I.os, I.bare, ⟨fun b o e n hb hx => ?_, fun b o e n hb hx => ?_, I.base.free, fun b o e hx => ?_, I.base.tups, I.base.frzs, I.base.tbls⟩, ⟨m, hn.sameBut hs (Ne.symm (cne x c hc)), fun j y v' e1 e2 e3 => ?_⟩, fun y c' e => ?_, I.free, I.freeC, fun p hp => ?_, tracked ⟨oc, hoc, I.freeC x c hc⟩ hs, by simpa using I.len⟩ ⟨c, hs, .inr hc⟩
    · exact (hs.2 b (Nat.ne_of_lt (Nat.lt_of_lt_of_le (Heap.lt_size e) (I.ok.cab x c hfn hc)))).trans (I.base.keep b o e n hb hx)
    · obtain ⟨sl, e1⟩ := I.base.slot b o e n hb hx
      exact ⟨sl, (hs.2 b (Nat.ne_of_lt (Nat.lt_of_lt_of_le (Heap.lt_size e) (I.ok.cab x c hfn hc)))).trans e1⟩
    · obtain ⟨o', e1⟩ := I.base.there b o e hx
      exact ⟨o', (hs.2 b (Nat.ne_of_lt (Nat.lt_of_lt_of_le (Heap.lt_size e) (I.ok.cab x c hfn hc)))).trans e1⟩
    · by_cases hj : j = i
      · subst hj
        rw [hi] at e1; cases e1
        rw [List.getElem?_set_self hiσ] at e2
        cases e2
        exact ⟨u, r, .inr ⟨.inl hk, c, hc, hc'⟩⟩
      · rw [List.getElem?_set_ne (Ne.symm hj)] at e2
        obtain ⟨u', r', q⟩ := hl j y v' e1 e2 e3
        refine ⟨u', r', ?_⟩
        rcases q with q | ⟨k, c', e, z'⟩
        · exact .inl q
        · refine .inr ⟨k, c', e, z'.sameBut hs ?_⟩
          rintro rfl
          exact hj (nodup_ix hN e1 (I.ok.inj _ _ _ e hc ▸ hi))
    · by_cases hcc : c' = c
      · subst hcc; exact ⟨_, hc'⟩
      · obtain ⟨w2, z2⟩ := I.cell y c' e
        exact ⟨w2, z2.sameBut hs hcc⟩
    · obtain ⟨e, n, ne, nf, d⟩ := I.pin p hp
      refine ⟨(hs.2 p.1 ?_).trans e, n, ne, nf, d⟩
      intro q
      rw [q, hoc] at e
      have q' : oc = p.2 := Option.some.inj e
      exact d w' (by rw [← q']; exact hocd)
theorem store_ok {M : Model} {A : Around} {E : Value → Shared → Prop} {i : Nat} {x : Str} {v : V} {u : Value} {Q : Unit → Shared → Prop} (I : Inv X pins σ H s) (hN : X.N.Nodup) (hi : X.N[i]? = some x) (hx : Loc X.env.scope x) (r : RelV v u)
    (h : ∀ s', Inv X pins (σ.set i (some v)) H s' → Q () s') (hf : X.fn x = true ∨ X.env.scope.names.lookup x = some .local := by first | exact .inl rfl | exact .inr rfl | assumption) : wpAny M A (storeName X.env x u) Q E s :=
  store_ok2 I hN hi hx r (fun s' I' _ => h s' I') hf
theorem Inv.call' {s' : Shared} {ch : List Addr} (I : Inv X pins σ H s) (ho : s'.os = s.os) (u : Un (frs X.stack) ch H H' s.heap s'.heap) (hok : HOk X.prog X.w H' s'.heap) (hg : AllBare s'.gens)
    (hch : ∀ b ∈ ch, (b ∈ X.ex ∨ X.s₀.heap.objs.size ≤ b) ∧ b ≠ X.env.locals ∧ (∀ x c, X.env.cells.lookup x = some c → c ≠ b) ∧ ∀ p ∈ X.pn ++ pins, p.1 ≠ b) : Inv X pins σ H' s' := by
  obtain ⟨h', g', d', t', o'⟩ := s'
  have e : o' = s.os := ho
  subst e
  exact I.call (g' := g') (t' := t') (d' := d') u hok hg hch
end
abbrev XK := Value → Option Addr → Hp → Prop
abbrev St := List (Option V)
abbrev VK := V → Hp → Prop
abbrev TE := St → Hp → VK → Prop
abbrev TT := St → Hp → (Bool → Hp → Prop) → Prop
abbrev TA := St → Hp → (List V → Hp → Prop) → Prop
structure Ends where
  nx : St → Hp → Prop
  rt : VK
  bk : St → Hp → Prop := fun _ _ => False
  ct : St → Hp → Prop := fun _ _ => False
abbrev TS := Ends → St → Hp → Prop
def EP (X : Cx) (pins : List (Addr × Obj)) (σ : St) (Q : VK) (u : Value) (s' : Shared) : Prop := ∃ v H', Inv X pins σ H' s' ∧ RelV v u ∧ Q v H'
def TP (X : Cx) (pins : List (Addr × Obj)) (σ : St) (Q : Bool → Hp → Prop) (b : Bool) (s' : Shared) : Prop := ∃ H', Inv X pins σ H' s' ∧ Q b H'
def AP (X : Cx) (pins : List (Addr × Obj)) (σ : St) (Q : List V → Hp → Prop) (us : List Value) (s' : Shared) : Prop := ∃ vs H', Inv X pins σ H' s' ∧ Vals vs us ∧ Q vs H'
def SP (X : Cx) (pins : List (Addr × Obj)) (D : Ends) (f : Flow) (s' : Shared) : Prop :=
  match f with
  | .next => ∃ σ' H', Inv X pins σ' H' s' ∧ D.nx σ' H'
  | .brk => ∃ σ' H', Inv X pins σ' H' s' ∧ D.bk σ' H'
  | .cont => ∃ σ' H', Inv X pins σ' H' s' ∧ D.ct σ' H'
  | .ret u => ∃ v σ' H', Inv X pins σ' H' s' ∧ RelV v u ∧ D.rt v H'
def PE (X : Cx) (e : Expr) (t : TE) : Prop :=
  ∀ (pins : List (Addr × Obj)) (s : Shared) (σ : St) (H : Hp) (Q : VK), Inv X pins σ H s → t σ H Q → wpAny (model X.prog X.w) X.A (eval e X.env) (EP X pins σ Q) X.xe s
def PT (X : Cx) (e : Expr) (t : TT) : Prop :=
  ∀ (pins : List (Addr × Obj)) (s : Shared) (σ : St) (H : Hp) (Q : Bool → Hp → Prop), Inv X pins σ H s → t σ H Q → wpAny (model X.prog X.w) X.A (isTrue e X.env (eval e X.env)) (TP X pins σ Q) X.xe s
def PW (X : Cx) (e : Expr) (t : TT) : Prop :=
  ∀ (whole : Sem Value) (pins : List (Addr × Obj)) (s : Shared) (σ : St) (H : Hp) (Q : Bool → Hp → Prop), Inv X pins σ H s → t σ H Q → wpAny (model X.prog X.w) X.A (isTrue e X.env whole) (TP X pins σ Q) X.xe s
theorem PW.pt {X : Cx} {e : Expr} {t : TT} (h : PW X e t) : PT X e t := h _
def PA (X : Cx) (es : List Expr) (t : TA) : Prop :=
  ∀ (pos : Pos) (pins : List (Addr × Obj)) (s : Shared) (σ : St) (H : Hp) (Q : List V → Hp → Prop), Inv X pins σ H s → t σ H Q → wpAny (model X.prog X.w) X.A (spliced (backTo pos (starEach es X.env))) (AP X pins σ Q) X.xe s
def PS (X : Cx) (st : Stmt) (t : TS) : Prop :=
  ∀ (pins : List (Addr × Obj)) (s : Shared) (σ : St) (H : Hp) (D : Ends), Inv X pins σ H s → t D σ H → wpAny (model X.prog X.w) X.A (exec st X.env) (SP X pins D) X.xe s
def PSs (X : Cx) (st : List Stmt) (t : TS) : Prop :=
  ∀ (pins : List (Addr × Obj)) (s : Shared) (σ : St) (H : Hp) (D : Ends), Inv X pins σ H s → t D σ H → wpAny (model X.prog X.w) X.A (execs st X.env) (SP X pins D) X.xe s
theorem thn {α : Type} {t : Sem α} {Q Q' : α → Shared → Prop} {M : Model} {A : Around} {E : Value → Shared → Prop} {s : Shared} (h : wpAny M A t Q E s) (hQ : ∀ a s, Q a s → Q' a s) : wpAny M A t Q' E s := wpAny_mono h hQ fun _ _ x => x
end L2
namespace L2
open PySem PySem.Spec PyProof.Rows
section
variable {X : Cx}
def tVar (i : Nat) : TE := fun σ H Q => ∃ v, σ[i]? = some (some v) ∧ Q v H
def tC (v : V) : TE := fun _ H Q => Q v H
theorem pe_var {i : Nat} {x : Str} {pos : Pos} (hN : X.N[i]? = some x) (hv : Vis X.env.scope x) (hd : (x == ("__debug__" : Str)) = false := by decide) (hcd : (x == ("__classdict__" : Str)) = false := by decide) : PE X (.Name x pos) (tVar i) := by
  intro pins s σ H Q I h
  obtain ⟨v, e, h⟩ := h
  obtain ⟨m, hn, hl⟩ := I.loc
  obtain ⟨u, r, l⟩ := hl i x v hN e hv
  have fin : EP X pins σ Q u s := ⟨v, H, I, r, h⟩
  rcases l with ⟨hk, hm⟩ | ⟨hk, c, hc, hcell⟩
  · exact wpAny_Name (wpAny_loadName_local I.ok.kind hk hn hm fin) hd
  · rcases hk with hk | hk
    · exact wpAny_Name (wpAny_loadName_cell I.ok.kind hk hc hcell fin) hd
    · exact wpAny_Name (wpAny_loadName_free I.ok.kind hk hc hcell fin hcd) hd
theorem pe_int {i j pos} : PE X (.Constant (.int i) j pos) (tC (.int i)) := fun _ _ _ H _ I h => wpAny_Constant_int ⟨.int i, H, I.tok _, ⟨_, rfl⟩, h⟩
theorem pe_bl {b j pos} : PE X (.Constant (.bool b) j pos) (tC (.bl b)) := fun _ _ _ H _ I h => Constant_bool ⟨.bl b, H, I, rfl, h⟩
theorem pe_str {x j pos} : PE X (.Constant (.str x) j pos) (tC (.str x)) := fun _ _ _ H _ I h => Calls.Constant_str ⟨.str x, H, I.tok _, ⟨_, rfl⟩, h⟩
def Gl (X : Cx) (x : Str) : Prop := X.env.kindOf x = some .globalImplicit
theorem ld_glob {E : Value → Shared → Prop} {pins : List (Addr × Obj)} {s : Shared} {σ : St} {H : Hp} {x : Str} {u : Value} {pos : Pos} {Q : Value → Shared → Prop} (I : Inv X pins σ H s) (hg : Gl X x) (hm : X.mg x = some u) (h : Q u s)
    (hd : (x == ("__debug__" : Str)) = false := by decide) : wpAny (model X.prog X.w) X.A (eval (.Name x pos) X.env) Q E s :=
  Calls.Name_function_global I.ok.kind hg (Calls.loadGlobal_global (by rw [I.ok.glob]; exact I.mod.glob.keeps I.bk) hm h) hd
theorem ld_blt {E : Value → Shared → Prop} {pins : List (Addr × Obj)} {s : Shared} {σ : St} {H : Hp} {x : Str} {u : Value} {pos : Pos} {Q : Value → Shared → Prop} (I : Inv X pins σ H s) (hg : Gl X x) (hm : X.mg x = none) (hv : bootBuiltins x = some u) (h : Q u s)
    (hn : x ≠ "__name__" := by decide) (hd : (x == ("__debug__" : Str)) = false := by decide) : wpAny (model X.prog X.w) X.A (eval (.Name x pos) X.env) Q E s := by
  obtain ⟨mb, h1, h2⟩ := I.mod.blt
  exact Calls.Name_function_global I.ok.kind hg (Calls.loadGlobal_builtin (by rw [I.ok.glob]; exact I.mod.glob.keeps I.bk) hm (by rw [I.ok.blt]; exact h1.keeps I.bk) ((h2 x hn).trans hv) h) hd
theorem pe_bltn {x : Str} {v : V} {u : Value} {pos : Pos} (hg : Gl X x) (hm : X.mg x = none) (hv : bootBuiltins x = some u) (r : RelV v u) (hn : x ≠ "__name__" := by decide) (hd : (x == ("__debug__" : Str)) = false := by decide) : PE X (.Name x pos) (tC v) :=
  fun _ _ _ H _ I h => ld_blt I hg hm hv ⟨v, H, I, r, h⟩ hn hd
variable {a b : Expr} {ta tb : TE} {pos : Pos}
def tB (t : TE) : TT := fun σ H Q => t σ H fun x H1 => ∃ c, x = .bl c ∧ Q c H1
variable {tA tB' : TT} {rest : List Expr}
def tAnd (t u : TT) : TT := fun σ H Q => t σ H fun c H1 => if c = true then u σ H1 Q else Q false H1
def tOr (t u : TT) : TT := fun σ H Q => t σ H fun c H1 => if c = true then Q true H1 else u σ H1 Q
def tNot (t : TT) : TT := fun σ H Q => t σ H fun c H1 => Q (!c) H1
theorem pw_and1 (ha : PT X a tA) : PW X (.BoolOp .And [a] pos) tA := by
  intro wh pins s σ H Q I h
  refine isTrue_and (thn (ha pins s σ H Q I h) fun c s1 e => ?_)
  cases c with
  | true => exact isTrue_and_nil e
  | false => exact e
theorem pw_or1 (ha : PT X a tA) : PW X (.BoolOp .Or [a] pos) tA := by
  intro wh pins s σ H Q I h
  refine isTrue_or (thn (ha pins s σ H Q I h) fun c s1 e => ?_)
  cases c with
  | false => exact isTrue_or_nil e
  | true => exact e
theorem pw_and (ha : PT X a tA) (hb : PW X (.BoolOp .And (b :: rest) pos) tB') : PW X (.BoolOp .And (a :: b :: rest) pos) (tAnd tA tB') := by
  intro wh pins s σ H Q I h
  refine isTrue_and (thn (ha pins s σ H _ I h) fun c s1 ⟨H1, I1, q1⟩ => ?_)
  cases c with
  | true => exact hb wh pins s1 σ H1 Q I1 q1
  | false => exact ⟨H1, I1, q1⟩
theorem pw_or (ha : PT X a tA) (hb : PW X (.BoolOp .Or (b :: rest) pos) tB') : PW X (.BoolOp .Or (a :: b :: rest) pos) (tOr tA tB') := by
  intro wh pins s σ H Q I h
  refine isTrue_or (thn (ha pins s σ H _ I h) fun c s1 ⟨H1, I1, q1⟩ => ?_)
  cases c with
  | true => exact ⟨H1, I1, q1⟩
  | false => exact hb wh pins s1 σ H1 Q I1 q1
theorem pt_not (ha : PT X a tA) : PT X (.UnaryOp .Not a pos) (tNot tA) := by
  intro pins s σ H Q I h
  exact isTrue_not (ha pins s σ H (fun c H1 => Q (!c) H1) I h)
def tAndV (ta tb : TE) : TE := fun σ H Q => ta σ H fun x H1 => ∃ c, x = .bl c ∧ if c = true then tb σ H1 Q else Q (.bl false) H1
def tNotV (ta : TE) : TE := fun σ H Q => ta σ H fun x H1 => ∃ c, x = .bl c ∧ Q (.bl (!c)) H1
theorem pe_one {op} {t : TE} (h : PE X a t) : PE X (.BoolOp op [a] pos) t := fun pins s σ H Q I hw => BoolOp_one (h pins s σ H Q I hw)
theorem pe_and (ha : PE X a ta) (hb : PE X (.BoolOp .And (b :: rest) pos) tb) : PE X (.BoolOp .And (a :: b :: rest) pos) (tAndV ta tb) := by
  intro pins s σ H Q I h
  refine BoolOp_and (thn (ha pins s σ H _ I h) fun v s1 ⟨x, H1, I1, r1, q1⟩ => ?_)
  obtain ⟨c, rfl, q1⟩ := q1
  cases r1
  refine wpAny_truthy_bool ?_
  cases c with
  | true => exact hb pins s1 σ H1 Q I1 q1
  | false => exact ⟨.bl false, H1, I1, rfl, q1⟩
theorem pe_not (ha : PE X a ta) : PE X (.UnaryOp .Not a pos) (tNotV ta) := by
  intro pins s σ H Q I h
  refine UnaryOp_ (thn (ha pins s σ H _ I h) fun v s1 ⟨x, H1, I1, r1, q1⟩ => ?_)
  obtain ⟨c, rfl, q1⟩ := q1
  cases r1
  exact not_of (wpAny_truthy_bool ⟨.bl (!c), H1, I1, rfl, q1⟩)
end
end L2
namespace L2
open PySem PySem.Spec PyProof.Rows
def SqL (K : PySem.W.Frag) (H : Hp) (a : Addr) (xs : List V) : Prop :=
  Rd H a (.lst xs) ∨
    ∃ (o : Obj) (its : Array Value) (n : Nat), K.lookup a = some o ∧ o.cls = .type "list" ∧ o.dict = none ∧ o.data = .seq its n ∧ its.size ≤ sizeLine ∧ Vals xs its.toList
def SqT (K : PySem.W.Frag) (H : Hp) (a : Addr) (xs : List V) : Prop :=
  Rd H a (.tup xs) ∨
    ∃ (o : Obj) (its : Array Value) (n : Nat), K.lookup a = some o ∧ o.cls = .type "tuple" ∧ o.data = .seq its n ∧ its.size ≤ sizeLine ∧ Vals xs its.toList
def absV : Value → Option V
  | .none => some .non
  | .bool b => some (.bl b)
  | .int i _ => some (.int i)
  | .str x _ => some (.str x)
  | .bytes b _ => some (.byt b)
  | .float b _ => some (.flt b)
  | .ref a => some (.ref a)
  | .type n => some (.ty n)
  | _ => none
theorem RelV.abs {x : V} {u : Value} (r : RelV x u) : absV u = some x := by
  cases x with
  | non => cases r; rfl
  | bl _ => cases r; rfl
  | int _ => obtain ⟨t, rfl⟩ := r; rfl
  | str _ => obtain ⟨t, rfl⟩ := r; rfl
  | byt _ => obtain ⟨t, rfl⟩ := r; rfl
  | flt _ => obtain ⟨t, rfl⟩ := r; rfl
  | ref _ => cases r; rfl
  | ty _ => cases r; rfl
theorem RelV.inj {x y : V} {u : Value} (r : RelV x u) (q : RelV y u) : x = y := Option.some.inj (r.abs.symm.trans q.abs)
theorem Vals.inj : ∀ {xs ys : List V} {us : List Value}, Vals xs us → Vals ys us → xs = ys
  | _, _, _, .nil, .nil => rfl
  | _, _, _, .cons r t, .cons r' t' => by rw [r.inj r', Vals.inj t t']
section
variable {X : Cx} {pins : List (Addr × Obj)} {σ : St} {H : Hp} {s : Shared} {a : Addr} {xs ys : List V}
theorem SqL.of {K : PySem.W.Frag} (h : H a = some (.lst xs)) : SqL K H a xs := .inl (.inl h)
theorem SqT.of {K : PySem.W.Frag} (h : H a = some (.tup xs)) : SqT K H a xs := .inl (.inl h)
theorem Inv.list (I : Inv X pins σ H s) (h : SqL X.K H a xs) : ∃ its : List Value, Vals xs its ∧ PlainL s.heap a its.toArray ∧ xs.length ≤ sizeLine := by
  rcases h with h | ⟨o, its, n, hk, hc, hd, hs, hz, r⟩
  · obtain ⟨z, its, n, r, e⟩ := h.ok I.hok
    exact ⟨its, r, ⟨_, n, e, rfl, rfl, rfl⟩, z⟩
  · refine ⟨its.toList, r, ⟨o, n, I.kIn a o hk, hc, hd, by simpa using hs⟩, ?_⟩
    have e := r.length
    simp only [Array.length_toList] at e
    omega
theorem Inv.tuple (I : Inv X pins σ H s) (h : SqT X.K H a xs) : ∃ its : List Value, Vals xs its ∧ IsTup s.heap a its.toArray ∧ xs.length ≤ sizeLine := by
  rcases h with h | ⟨o, its, n, hk, hc, hs, hz, r⟩
  · obtain ⟨z, its, r, p⟩ := h.ok I.hok
    exact ⟨its, r, p.1, z⟩
  · refine ⟨its.toList, r, ⟨o, I.kIn a o hk, hc, n, by simpa using hs⟩, ?_⟩
    have e := r.length
    simp only [Array.length_toList] at e
    omega
theorem Inv.list_inj (I : Inv X pins σ H s) (h : SqL X.K H a xs) (h' : SqL X.K H a ys) : xs = ys := by
  obtain ⟨its, r, ⟨o, n, e, _, _, d⟩, _⟩ := I.list h
  obtain ⟨its', r', ⟨o', n', e', _, _, d'⟩, _⟩ := I.list h'
  rw [e] at e'; cases e'
  rw [d] at d'
  injection d' with d1 _
  have : its = its' := by simpa using congrArg Array.toList d1
  subst this
  exact r.inj r'
theorem Inv.tuple_inj (I : Inv X pins σ H s) (h : SqT X.K H a xs) (h' : SqT X.K H a ys) : xs = ys := by
  obtain ⟨its, r, ⟨o, e, _, n, d⟩, _⟩ := I.tuple h
  obtain ⟨its', r', ⟨o', e', _, n', d'⟩, _⟩ := I.tuple h'
  rw [e] at e'; cases e'
  rw [d] at d'
  injection d' with d1 _
  have : its = its' := by simpa using congrArg Array.toList d1
  subst this
  exact r.inj r'
end
abbrev Cx.wish (X : Cx) (E : Value → Shared → Prop) : Cx := { X with xe := E }
abbrev Cx.nox (X : Cx) : Cx := X.wish fun _ _ => False
theorem Cx.Ok.wish {X : Cx} (ok : X.Ok) (E : Value → Shared → Prop) : (X.wish E).Ok :=
  ⟨ok.mod, ok.kind, ok.glob, ok.blt, ok.above, ok.inj, ok.has, ok.cab, ok.hd, ok.frames, ok.stk, ok.exf, ok.bs, ok.bsz, ok.noex, ok.exfs, ok.funs, ok.frf⟩
theorem Cx.Ok.unwish {X : Cx} {E : Value → Shared → Prop} (ok : (X.wish E).Ok) : X.Ok :=
  ⟨ok.mod, ok.kind, ok.glob, ok.blt, ok.above, ok.inj, ok.has, ok.cab, ok.hd, ok.frames, ok.stk, ok.exf, ok.bs, ok.bsz, ok.noex, ok.exfs, ok.funs, ok.frf⟩
section
variable {X : Cx} {pins : List (Addr × Obj)} {σ : St} {H : Hp} {s : Shared} {E : Value → Shared → Prop}
theorem Inv.wish (I : Inv X pins σ H s) (E : Value → Shared → Prop) : Inv (X.wish E) pins σ H s := ⟨I.ok.wish E, I.os, I.bare, I.base, I.loc, I.cell, I.free, I.freeC, I.pin, I.hok, I.len⟩
theorem Inv.unwish (I : Inv (X.wish E) pins σ H s) : Inv X pins σ H s := ⟨I.ok.unwish, I.os, I.bare, I.base, I.loc, I.cell, I.free, I.freeC, I.pin, I.hok, I.len⟩
theorem SP.unwish {D : Ends} {f : Flow} {s' : Shared} (h : SP (X.wish E) pins D f s') : SP X pins D f s' := by
  cases f with
  | next => obtain ⟨σ', H', I, q⟩ := h; exact ⟨σ', H', I.unwish, q⟩
  | brk => obtain ⟨σ', H', I, q⟩ := h; exact ⟨σ', H', I.unwish, q⟩
  | cont => obtain ⟨σ', H', I, q⟩ := h; exact ⟨σ', H', I.unwish, q⟩
  | ret u => obtain ⟨v, σ', H', I, r, q⟩ := h; exact ⟨v, σ', H', I.unwish, r, q⟩
theorem PE.nox {e : Expr} {t : TE} (h : PE X.nox e t) : PE X e t := fun pins s σ H Q I hw =>
  wpAny_mono (h pins s σ H Q (I.wish _) hw) (fun _ _ ⟨v, H', I', r, q⟩ => ⟨v, H', I'.unwish, r, q⟩) fun _ _ z => False.elim z
theorem PT.nox {e : Expr} {t : TT} (h : PT X.nox e t) : PT X e t := fun pins s σ H Q I hw =>
  wpAny_mono (h pins s σ H Q (I.wish _) hw) (fun _ _ ⟨H', I', q⟩ => ⟨H', I'.unwish, q⟩) fun _ _ z => False.elim z
theorem PSs.nox {st : List Stmt} {t : TS} (h : PSs X.nox st t) : PSs X st t := fun pins s σ H D I hw =>
  wpAny_mono (h pins s σ H D (I.wish _) hw) (fun _ _ q => q.unwish) fun _ _ z => False.elim z
end
section
variable {X : Cx} {st : Stmt} {rest : List Stmt} {t u : TS} {e : Expr} {te : TE} {pos : Pos}
def tNext : TS := fun D σ H => D.nx σ H
def tSeq (t u : TS) : TS := fun D σ H => t { D with nx := u D } σ H
theorem pss_nil : PSs X [] tNext := fun _ _ σ H _ I h => wpAny_execs_nil ⟨σ, H, I, h⟩
theorem pss_cons (h1 : PS X st t) (h2 : PSs X rest u) : PSs X (st :: rest) (tSeq t u) := by
  intro pins s σ H D I h
  refine wpAny_execs_cons (thn (h1 pins s σ H { D with nx := u D } I h) fun f s1 q => ?_)
  cases f with
  | next =>
    obtain ⟨σ', H', I', q⟩ := q
    exact h2 pins s1 σ' H' D I' q
  | ret v => exact q
  | brk => exact q
  | cont => exact q
theorem pss_one (h1 : PS X st t) : PSs X [st] t := by
  intro pins s σ H D I h
  refine wpAny_execs_cons (thn (h1 pins s σ H D I h) fun f s1 q => ?_)
  cases f with
  | next => exact wpAny_execs_nil q
  | ret v => exact q
  | brk => exact q
  | cont => exact q
theorem Inv.quiet {pins : List (Addr × Obj)} {σ : St} {H : Hp} {s : Shared} (I : Inv X pins σ H s) : interactive X.env = false := by simp [interactive, I.ok.kind]
def tDrop (te : TE) : TS := fun D σ H => te σ H fun _ H1 => D.nx σ H1
theorem ps_expr (he : PE X e te) (hs : swapsWith e none pos.line X.env = pure false := by rfl) : PS X (.Expr e pos) (tDrop te) := by
  intro pins s σ H D I h
  exact wpAny_Expr_any (thn (he pins s σ H _ I h) fun v s1 ⟨x, H1, I1, r1, q1⟩ => ⟨σ, H1, I1, q1⟩) I.quiet hs
def tRet (te : TE) : TS := fun D σ H => te σ H D.rt
theorem ps_ret (he : PE X e te) : PS X (.Return (some e) pos) (tRet te) := by
  intro pins s σ H D I h
  exact wpAny_Return_some (thn (he pins s σ H _ I h) fun v s1 ⟨x, H1, I1, r1, q1⟩ => ⟨x, σ, H1, I1, r1, q1⟩)
def tIfS (c : TT) (t u : TS) : TS := fun D σ H => c σ H fun b H1 => if b = true then t D σ H1 else u D σ H1
theorem ps_if {c : Expr} {a b : List Stmt} {tc : TT} (hc : PT X c tc) (ha : PSs X a t) (hb : PSs X b u) : PS X (.If c a b pos) (tIfS tc t u) := by
  intro pins s σ H D I h
  refine wpAny_If (thn (hc pins s σ H _ I h) fun d s1 ⟨H1, I1, q1⟩ => ?_)
  cases d with
  | true => exact ha pins s1 σ H1 D I1 q1
  | false => exact hb pins s1 σ H1 D I1 q1
end
abbrev TG := V → St → Hp → (St → Hp → Prop) → Prop
abbrev TGs := List V → St → Hp → (St → Hp → Prop) → Prop
def PG (X : Cx) (target : Expr) (t : TG) : Prop :=
  ∀ (pins : List (Addr × Obj)) (s : Shared) (σ : St) (H : Hp) (v : V) (u : Value) (Q : St → Hp → Prop), Inv X pins σ H s → RelV v u → t v σ H Q →
    wpAny (model X.prog X.w) X.A (assign target X.env u) (fun _ s' => ∃ σ' H', Inv X pins σ' H' s' ∧ Q σ' H') X.xe s
def PGs (X : Cx) (ts : List Expr) (t : TGs) : Prop :=
  ∀ (pins : List (Addr × Obj)) (s : Shared) (σ : St) (H : Hp) (vs : List V) (us : List Value) (Q : St → Hp → Prop), Inv X pins σ H s → Vals vs us → t vs σ H Q →
    wpAny (model X.prog X.w) X.A (assignInOrder ((assignEach ts X.env).map (·.2)) us) (fun _ s' => ∃ σ' H', Inv X pins σ' H' s' ∧ Q σ' H') X.xe s
abbrev TSet := V → V → V → Hp → (Hp → Prop) → Prop
def PSet (X : Cx) (t : TSet) : Prop :=
  ∀ (pins : List (Addr × Obj)) (s : Shared) (σ : St) (H : Hp) (o i v : V) (ov iv u : Value) (Q : Hp → Prop), Inv X pins σ H s → RelV o ov → RelV i iv → RelV v u → t o i v H Q →
    wpAny (model X.prog X.w) X.A (setItem ov iv u) (fun _ s' => ∃ H', Inv X pins σ H' s' ∧ Q H') X.xe s
section
variable {X : Cx} {pos : Pos}
def gName (i : Nat) : TG := fun v σ H Q => Q (σ.set i (some v)) H
theorem pg_name {i : Nat} {x : Str} (hN : X.N.Nodup) (hi : X.N[i]? = some x) (hx : Loc X.env.scope x) (hf : X.fn x = true ∨ X.env.scope.names.lookup x = some .local := by first | exact .inl rfl | exact .inr rfl | assumption) : PG X (.Name x pos) (gName i) := by
  intro pins s σ H v u Q I r h
  exact wpAny_assign_Name (store_ok I hN hi hx r (fun s' I' => ⟨_, H, I', h⟩) hf)
def gNil : TGs := fun vs σ H Q => vs = [] ∧ Q σ H
def gCons (t : TG) (u : TGs) : TGs := fun vs σ H Q => ∃ v r, vs = v :: r ∧ t v σ H fun σ' H' => u r σ' H' Q
theorem pgs_nil : PGs X [] gNil := by
  intro pins s σ H vs us Q I r h
  obtain ⟨e, h⟩ := h
  subst e
  cases r
  exact assignInOrder_nil ⟨σ, H, I, h⟩
theorem pgs_cons {e : Expr} {es : List Expr} {t : TG} {u : TGs} (h1 : PG X e t) (h2 : PGs X es u)
    (hs : (assignEach (e :: es) X.env).map (·.2) = assign e X.env :: (assignEach es X.env).map (·.2) := by rfl) : PGs X (e :: es) (gCons t u) := by
  intro pins s σ H vs us Q I r h
  obtain ⟨v, vr, e1, h⟩ := h
  subst e1
  cases r with
  | cons r rr =>
    rw [hs]
    refine assignInOrder_cons (thn (h1 pins s σ H _ _ _ I r h) fun _ s1 ⟨σ1, H1, I1, q1⟩ => ?_)
    exact h2 pins s1 σ1 H1 _ _ Q I1 rr q1
def gTup (K : PySem.W.Frag) (n : Nat) (t : TGs) : TG := fun v σ H Q => ∃ a xs, v = .ref a ∧ SqT K H a xs ∧ xs.length = n ∧ t xs σ H Q
theorem pg_tup {es : List Expr} {k : Nat} {t : TGs} {n : Nat} (hc : X.calm = true) (h : PGs X es t)
    (hn : (assignEach es X.env).length = n := by rfl) (hst : (assignEach es X.env).findIdx? (·.1) = none := by rfl) : PG X (.Tuple es k pos) (gTup X.K n t) := by
  intro pins s σ H v u Q I r hw
  obtain ⟨a, xs, e1, hq, hl, hw⟩ := hw
  subst e1
  cases r
  obtain ⟨its, rv, ht, hz⟩ := I.tuple hq
  refine assign_Tuple_tuple (I.ok.hd hc) ht (by simp [hn, ← hl, rv.length]) hst fun h' hx => ?_
  have I1 : Inv X pins σ H { s with heap := h' } := I.kept (t' := s.toks) fun b o e => hx b o (Nat.ne_of_lt (Heap.lt_size e)) e
  exact h pins _ σ H xs _ Q I1 (by simpa using rv) hw
def gSub (to ti : TE) (t : TSet) : TG := fun v σ H Q => to σ H fun o H1 => ti σ H1 fun i H2 => t o i v H2 fun H3 => Q σ H3
theorem pg_sub {o i : Expr} {to ti : TE} {t : TSet} (ho : PE X o to) (hi : PE X i ti) (hs : PSet X t)
    (ha : ∀ v, assign (.Subscript o i pos) X.env v = (do
      let ov ← holding [v] (eval o X.env)
      let iv ← holding [v, ov] (eval i X.env)
      standAt pos
      holding [v, ov, iv] (setItem ov iv v)
      release [v, ov, iv] []) := by intro _; rfl) : PG X (.Subscript o i pos) (gSub to ti t) := by
  intro pins s σ H v u Q I r h
  rw [ha]
  refine wpAny_bind (wpAny_holding (thn (ho pins s σ H _ I h) fun ov s1 ⟨x, H1, I1, r1, q1⟩ => ?_))
  refine wpAny_bind (wpAny_holding (thn (hi pins s1 σ H1 _ I1 q1) fun iv s2 ⟨y, H2, I2, r2, q2⟩ => ?_))
  refine wpAny_bind (wpAny_standAt (wpAny_bind (wpAny_holding (thn (hs pins s2 σ H2 x y v ov iv u _ I2 r1 r2 r q2) fun _ s3 ⟨H3, I3, q3⟩ => ?_))))
  exact wpAny_release ⟨σ, H3, I3, q3⟩
def tAsg (te : TE) (g : TG) : TS := fun D σ H => te σ H fun x H1 => g x σ H1 D.nx
theorem ps_asg {tg e : Expr} {te : TE} {g : TG} (he : PE X e te) (hg : PG X tg g) (hs : swapsWithSole [tg] e pos.line X.env = pure false := by rfl) (hw : swappedStores [tg] e X.env = pure none := by rfl)
    (h1 : (assignEach [tg] X.env).map (·.2) = [assign tg X.env] := by rfl) : PS X (.Assign [tg] e pos) (tAsg te g) := by
  intro pins s σ H D I h
  refine wpAny_Assign_stores (thn (he pins s σ H _ I h) fun v s1 ⟨x, H1, I1, r1, q1⟩ => ?_) hs hw
  rw [h1]
  exact thn (hg pins s1 σ H1 x v _ I1 r1 q1) fun _ s2 q => q
theorem ps_set {i : Nat} {x : Str} {e : Expr} {te : TE} {pos' : Pos} (hN : X.N.Nodup) (hi : X.N[i]? = some x) (hx : Loc X.env.scope x) (he : PE X e te) (hs : swapsWith e (some (.Name x pos')) pos.line X.env = pure false := by rfl) (hf : X.fn x = true ∨ X.env.scope.names.lookup x = some .local := by first | exact .inl rfl | exact .inr rfl | assumption) :
    PS X (.Assign [.Name x pos'] e pos) (tAsg te (gName i)) := by
  intro pins s σ H D I h
  refine wpAny_Assign_Name (thn (he pins s σ H _ I h) fun v s1 ⟨y, H1, I1, r1, q1⟩ => ?_) hs
  exact store_ok I1 hN hi hx r1 (fun s2 I2 => ⟨_, H1, I2, q1⟩) hf
def tPar (i j : Nat) (ta : TA) : TS := fun D σ H => ta σ H fun vs H1 => ∃ v w, vs = [v, w] ∧ D.nx ((σ.set i (some v)).set j (some w)) H1
theorem ps_par {i j : Nat} {x y : Str} {a b : Expr} {ta : TA} {px py pt : Pos} {kt k2 pt2} (hc : X.calm = true) (hN : X.N.Nodup) (hi : X.N[i]? = some x) (hj : X.N[j]? = some y) (hij : i ≠ j)
    (hx : X.env.scope.names.lookup x = some .local) (hy : X.env.scope.names.lookup y = some .local) (ha : PA X [a, b] ta)
    (hw : swappedStores [.Tuple [.Name x px, .Name y py] kt pt] (.Tuple [a, b] k2 pt2) X.env = pure (some [x, y]))
    (hs : swapsWithSole [.Tuple [.Name x px, .Name y py] kt pt] (.Tuple [a, b] k2 pt2) pos.line X.env = pure false := by rfl) :
    PS X (.Assign [.Tuple [.Name x px, .Name y py] kt pt] (.Tuple [a, b] k2 pt2) pos) (tPar i j ta) := by
  intro pins s σ H D I h
  rw [exec_Assign_arm]
  refine wpAny_bind (wpAny_standAt ?_)
  rw [hs]
  refine wpAny_bind (wpAny_pure ?_)
  rw [if_neg (by decide)]
  refine wpAny_bind (Tuple_ (thn (ha _ pins s σ H _ I h) fun us s1 ⟨vs, H1, I1, r1, q1⟩ => ?_))
  obtain ⟨v, w, e1, q1⟩ := q1
  subst e1
  obtain ⟨u1, u2, rfl, rv, rw'⟩ : ∃ u1 u2, us = [u1, u2] ∧ RelV v u1 ∧ RelV w u2 := by
    cases r1 with
    | cons p q =>
      cases q with
      | cons p' q' =>
        cases q'
        exact ⟨_, _, rfl, p, p'⟩
  refine wpAny_newObj_type ?_ (by show 2 ≤ sizeLine; decide)
  have I2 : Inv X pins σ H1 { s1 with heap := s1.heap.push { cls := .type "tuple", data := .seq [u1, u2].toArray } } := I1.kept (t' := s1.toks) fun b o e => Heap.get?_push_of_some _ e
  rw [hw]
  refine wpAny_bind (wpAny_pure ?_)
  show wpAny (model X.prog X.w) X.A (do rule "assign.swapped-stores"; let items ← unpackItems (.ref s1.heap.objs.size) 2 none; assignInOrder [fun v => bindName X.env y v, fun v => bindName X.env x v] items.reverse; pure Flow.next) _ _ _
  refine wpAny_bind (wpAny_rule (wpAny_bind (unpackItems_tuple (items := #[u1, u2]) (I.ok.hd hc) (IsTup.new s1.heap _) fun h' hx' => ?_)))
  have I3 := I2.kept (h' := h') (t' := s1.toks) fun b o e => hx' b o (Nat.ne_of_lt (Heap.lt_size e)) e
  show wpAny _ _ (assignInOrder [fun v => bindName X.env y v, fun v => bindName X.env x v] [u2, u1] >>= fun _ => pure Flow.next) _ _ _
  refine wpAny_bind (assignInOrder_cons (wpAny_bindName (store_ok I3 hN hj (.inl hy) rw' (fun s2 I4 => ?_) (.inr hy))))
  refine assignInOrder_cons (wpAny_bindName (store_ok I4 hN hi (.inl hx) rv (fun s3 I5 => assignInOrder_nil (wpAny_pure ?_)) (.inr hx)))
  rw [List.set_comm _ _ (Ne.symm hij)] at I5
  exact ⟨_, H1, I5, q1⟩
end
section
variable {X : Cx} {pos : Pos}
def tWhile (c : TT) (tb : TS) : TS := fun D σ H => ∃ W : Nat → St → Hp → Prop, (∃ m, W m σ H) ∧ ∀ m σ H, W m σ H →
  c σ H fun b H1 => if b = true then ∃ N : St → Hp → Prop, (∀ σ' H', N σ' H' → ∃ m', m' < m ∧ W m' σ' H') ∧ tb { D with nx := N, ct := N, bk := D.nx } σ H1 else D.nx σ H1
theorem ps_while {c : Expr} {body : List Stmt} {tc : TT} {tb : TS} (hp : PassesOwn (model X.prog X.w) X.A X.env X.xe) (hc : PT X c tc) (hb : PSs X body tb) : PS X (.While c body [] pos) (tWhile tc tb) := by
  intro pins s σ H D I h
  obtain ⟨W, ⟨m0, w0⟩, turn⟩ := h
  refine wpAny_While (codeAny_whileLoop (fun n s' => ∃ σ' H', Inv X pins σ' H' s' ∧ W n σ' H') ?_ m0 ⟨σ, H, I, w0⟩)
  rintro n s1 ⟨σ1, H1, I1, w1⟩
  refine wpAny_passesOwn hp (thn (hc pins s1 σ1 H1 _ I1 (turn n σ1 H1 w1)) fun b s2 ⟨H2, I2, q2⟩ => ?_)
  cases b with
  | true =>
    obtain ⟨N, hN, q2⟩ := q2
    rw [if_pos rfl]
    refine wpAny_passesOwn hp (thn (hb pins s2 σ1 H2 _ I2 q2) fun f s3 q3 => ?_)
    cases f with
    | next =>
      obtain ⟨σ3, H3, I3, n3⟩ := q3
      obtain ⟨m', hm, w3⟩ := hN σ3 H3 n3
      exact ⟨m', hm, σ3, H3, I3, w3⟩
    | cont =>
      obtain ⟨σ3, H3, I3, n3⟩ := q3
      obtain ⟨m', hm, w3⟩ := hN σ3 H3 n3
      exact ⟨m', hm, σ3, H3, I3, w3⟩
    | brk => exact q3
    | ret v => exact q3
  | false =>
    rw [if_neg Bool.false_ne_true]
    exact wpAny_execs_nil ⟨σ1, H2, I2, q2⟩
end
structure It where
  go : Nat → Hp → Prop
  yld : Nat → Hp → V → Hp → Prop
  stop : Nat → Hp → Prop
def FpOk (X : Cx) (pins : List (Addr × Obj)) (H : Hp) (b : Addr) : Prop :=
  H b = none ∧ b ≠ X.env.locals ∧ b ∉ X.fs ∧ (b ∈ X.ex ∨ X.s₀.heap.objs.size ≤ b) ∧ (∀ x c, X.env.cells.lookup x = some c → c ≠ b) ∧ ∀ p ∈ X.pn ++ pins, p.1 ≠ b
theorem Inv.fpOk {X : Cx} {pins : List (Addr × Obj)} {σ : St} {H H' : Hp} {s : Shared} {b : Addr} (I : Inv X pins σ H s) (hb : s.heap.objs.size ≤ b) (hn : H' b = none) : FpOk X pins H' b := by
  refine ⟨hn, Nat.ne_of_gt (Nat.lt_of_lt_of_le I.lt hb), I.nofs hb, .inr (Nat.le_trans I.sz hb), fun x c e z => ?_, fun p hp z => ?_⟩
  · obtain ⟨v, q⟩ := I.cell x c e
    exact absurd (Nat.lt_of_lt_of_le q.lt (by rw [z]; exact hb)) (Nat.lt_irrefl _)
  · exact absurd (Nat.lt_of_lt_of_le (Heap.lt_size (I.pin p hp).1) (by rw [z]; exact hb)) (Nat.lt_irrefl _)
structure Turn (P : Program) (w : World) (K : PySem.W.Frag) (tg : Expr) (J : It) (fp : List Addr) (it : Addr) (tn : Nat → Heap → Prop) : Prop where
  mem : it ∈ fp
  obj : ∀ i h, tn i h → ∀ b ∈ fp, ∃ o, h.get? b = some o ∧ ∀ v, o.data ≠ .cell v
  keep : ∀ i h h', tn i h → (∀ b ∈ fp, ∀ o, h.get? b = some o → h'.get? b = some o) → tn i h'
  item : ∀ (X : Cx), X.prog = P → X.w = w → X.K = K → X.calm = true → ∀ (i : Nat) (pins : List (Addr × Obj)) (s : Shared) (σ : St) (H : Hp) (E : Value → Shared → Prop), Inv X pins σ H s → (∀ b ∈ fp, FpOk X pins H b) → tn i s.heap → J.go i H →
    wpAny (model P w) X.A (pyNext (.ref it)) (fun r s1 => ∃ u, r = some u ∧
      wpAny (model P w) X.A (letOwnedTupleGo tg (.ref it) u) (fun _ s2 => ∃ x H', Inv X pins σ H' s2 ∧ RelV x u ∧ J.yld i H x H' ∧ tn (i + 1) s2.heap ∧ ∀ b ∈ fp, H' b = none) E s1) E s
  done : ∀ (X : Cx), X.prog = P → X.w = w → X.K = K → X.calm = true → ∀ (i : Nat) (pins : List (Addr × Obj)) (s : Shared) (σ : St) (H : Hp) (E : Value → Shared → Prop), Inv X pins σ H s → (∀ b ∈ fp, FpOk X pins H b) → tn i s.heap → J.stop i H →
    wpAny (model P w) X.A (pyNext (.ref it)) (fun r s1 => r = none ∧ Inv X pins σ H s1) E s
  self : ∀ (A : Around) (i : Nat) (s : Shared) (Q : Value → Shared → Prop) (E : Value → Shared → Prop), tn i s.heap → Q (.ref it) s → wpAny (model P w) A (pyIter (.ref it)) Q E s
abbrev TI := St → Hp → (It → Hp → Prop) → Prop
def PIE (X : Cx) (pins : List (Addr × Obj)) (σ : St) (tg : Expr) (R : It → Hp → Prop) (itv : Value) (s2 : Shared) : Prop :=
  ∃ (it : Addr) (fp : List Addr) (tn : Nat → Heap → Prop) (J : It) (H' : Hp), itv = .ref it ∧ Inv X pins σ H' s2 ∧ Turn X.prog X.w X.K tg J fp it tn ∧ tn 0 s2.heap ∧ (∀ b ∈ fp, FpOk X pins H' b) ∧ R J H'
def PI (X : Cx) (tg iter : Expr) (wi : TI) : Prop :=
  ∀ (pins : List (Addr × Obj)) (s : Shared) (σ : St) (H : Hp) (R : It → Hp → Prop), Inv X pins σ H s → wi σ H R →
    wpAny (model X.prog X.w) X.A (eval iter X.env) (fun v s1 => wpAny (model X.prog X.w) X.A (pyIter v) (PIE X pins σ tg R) X.xe s1) X.xe s
theorem go_of {M : Model} {A : Around} {E : Value → Shared → Prop} {s : Shared} {tg : Expr} {it : Addr} {u : Value} {o : Obj} {n : String} {vs : Array Value} {Q : Unit → Shared → Prop} (ho : s.heap.get? it = some o) (hc : o.cls = .type n) (hd : o.data = .fields vs)
    (hn : ["enumerate", "zip", "dict_itemiterator", "dict_reverseitemiterator", "odict_iterator", "itertools.zip_longest", "itertools.pairwise"].contains n = false) (hQ : Q () s) : wpAny M A (letOwnedTupleGo tg (.ref it) u) Q E s := by
  unfold letOwnedTupleGo
  cases tg <;> first
    | exact wpAny_pure hQ
    | (cases u <;> first
        | exact wpAny_pure hQ
        | (refine wpAny_bind (wpAny_load ho ?_)
           rw [hc, hd]
           show wpAny M A (if (["enumerate", "zip", "dict_itemiterator", "dict_reverseitemiterator", "odict_iterator", "itertools.zip_longest", "itertools.pairwise"].contains n && vs[0]? == some (rawInt _)) = true then _ else _) Q E s
           rw [if_neg (by intro h; rw [hn, Bool.false_and] at h; cases h)]
           exact wpAny_pure hQ))
def Itl (K : PySem.W.Frag) (a : Addr) : It :=
  ⟨fun i H => ∃ xs x, SqL K H a xs ∧ xs[i]? = some x, fun i H x H' => H' = H ∧ ∀ xs, SqL K H a xs → xs[i]? = some x, fun i H => ∃ xs, SqL K H a xs ∧ xs.length ≤ i⟩
def Itt (K : PySem.W.Frag) (a : Addr) : It :=
  ⟨fun i H => ∃ xs x, SqT K H a xs ∧ xs[i]? = some x, fun i H x H' => H' = H ∧ ∀ xs, SqT K H a xs → xs[i]? = some x, fun i H => ∃ xs, SqT K H a xs ∧ xs.length ≤ i⟩
def Itr (lo : Int) (n : Nat) : It := ⟨fun i _ => i < n, fun i H x H' => H' = H ∧ x = .int (lo + i), fun i _ => n ≤ i⟩
theorem turn_list {P : Program} {w : World} {K : PySem.W.Frag} {tg : Expr} (a it : Addr) : Turn P w K tg (Itl K a) [it] it (fun i h => h.IsListIter it a i) where
  mem := by simp
  obj := fun i h st b hb => by
    have e : b = it := by simpa using hb
    subst e
    obtain ⟨o, e, c, d⟩ := st
    exact ⟨o, e, fun v z => by rw [d] at z; cases z⟩
  keep := fun i h h' st k => st.at fun o e => k it (by simp) o e
  item := by
    intro X hP hw hK hc i pins s σ H E I hf st hg
    subst hP hw hK
    obtain ⟨xs, x, hq, hx⟩ := hg
    obtain ⟨its, rv, p, hz⟩ := I.list hq
    obtain ⟨u, hu, ru⟩ := rv.get hx
    obtain ⟨f0, f1, f2, f3, f4, f5⟩ := hf it (by simp)
    refine wpAny_pyNext_list_item st p.isList (x := u) (by simpa using hu) fun h' st' sb => ?_
    have I1 : Inv X pins σ H { s with heap := h' } := I.turned (t' := s.toks) (fun b o hb e => (sb.2 b hb).trans e) f0 f1 f3 f4 f5
    obtain ⟨o, e, c, d⟩ := id st'
    exact ⟨u, rfl, go_of (s := { s with heap := h' }) e c d (by decide) ⟨x, H, I1, ru, ⟨rfl, fun ys hy => by rw [I.list_inj hy hq]; exact hx⟩, st', fun b hb => (hf b hb).1⟩⟩
  done := by
    intro X hP hw hK hc i pins s σ H E I hf st hg
    subst hP hw hK
    obtain ⟨xs, hq, hx⟩ := hg
    obtain ⟨its, rv, p, hz⟩ := I.list hq
    obtain ⟨f0, f1, f2, f3, f4, f5⟩ := hf it (by simp)
    have hl := rv.length
    exact wpAny_pyNext_list_end (I.ok.hd hc) st p.isList (by simp; omega) fun h' eb => ⟨rfl, I.turned (t' := s.toks) (fun b o hb e => eb b o hb e) f0 f1 f3 f4 f5⟩
  self := fun _ _ _ _ _ st h => wpAny_pyIter_listiter st h
theorem turn_tuple {P : Program} {w : World} {K : PySem.W.Frag} {tg : Expr} (a it : Addr) : Turn P w K tg (Itt K a) [it] it (fun i h => h.IsTupleIter it a i) where
  mem := by simp
  obj := fun i h st b hb => by
    have e : b = it := by simpa using hb
    subst e
    obtain ⟨o, e, c, d⟩ := st
    exact ⟨o, e, fun v z => by rw [d] at z; cases z⟩
  keep := fun i h h' st k => st.at fun o e => k it (by simp) o e
  item := by
    intro X hP hw hK hc i pins s σ H E I hf st hg
    subst hP hw hK
    obtain ⟨xs, x, hq, hx⟩ := hg
    obtain ⟨its, rv, p, hz⟩ := I.tuple hq
    obtain ⟨u, hu, ru⟩ := rv.get hx
    obtain ⟨f0, f1, f2, f3, f4, f5⟩ := hf it (by simp)
    refine wpAny_pyNext_tuple_item st (show s.heap.IsTuple a its.toArray from p) (x := u) (by simpa using hu) fun h' st' sb => ?_
    have I1 : Inv X pins σ H { s with heap := h' } := I.turned (t' := s.toks) (fun b o hb e => (sb.2 b hb).trans e) f0 f1 f3 f4 f5
    obtain ⟨o, e, c, d⟩ := id st'
    exact ⟨u, rfl, go_of (s := { s with heap := h' }) e c d (by decide) ⟨x, H, I1, ru, ⟨rfl, fun ys hy => by rw [I.tuple_inj hy hq]; exact hx⟩, st', fun b hb => (hf b hb).1⟩⟩
  done := by
    intro X hP hw hK hc i pins s σ H E I hf st hg
    subst hP hw hK
    obtain ⟨xs, hq, hx⟩ := hg
    obtain ⟨its, rv, p, hz⟩ := I.tuple hq
    obtain ⟨f0, f1, f2, f3, f4, f5⟩ := hf it (by simp)
    have hl := rv.length
    exact wpAny_pyNext_tuple_end (I.ok.hd hc) st (show s.heap.IsTuple a its.toArray from p) (by simp; omega) fun h' eb => ⟨rfl, I.turned (t' := s.toks) (fun b o hb e => eb b o hb e) f0 f1 f3 f4 f5⟩
  self := fun _ _ _ _ _ st h => wpAny_pyIter_tupleiter st h
theorem turn_range {P : Program} {w : World} {K : PySem.W.Frag} {tg : Expr} (it : Addr) (lo : Int) (n : Nat) : Turn P w K tg (Itr lo n) [it] it (fun i h => IsRangeIter h it (lo + (i : Nat) * 1) ((n : Int) - (i : Nat)) 1) where
  mem := by simp
  obj := fun i h st b hb => by
    have e : b = it := by simpa using hb
    subst e
    exact ⟨_, st, fun v z => by
      have z' : Data.fields _ = Data.cell v := z
      cases z'⟩
  keep := fun i h h' st k => k it (by simp) _ st
  item := by
    intro X hP hw hK hc i pins s σ H E I hf st hg
    subst hP hw hK
    obtain ⟨f0, f1, f2, f3, f4, f5⟩ := hf it (by simp)
    have W := Walks.range (prog := X.prog) (w := X.w) (I.ok.hd hc) it lo 1 n
    refine W.item i s _ _ hg st fun v h' tk hv st' kk => ?_
    obtain ⟨t, rfl⟩ := hv
    have I1 : Inv X pins σ H { s with heap := h', toks := tk } := I.turned (fun b o hb e => kk b o (by simpa using hb) e) f0 f1 f3 f4 f5
    refine ⟨_, rfl, go_of (s := { s with heap := h', toks := tk }) (n := "range_iterator") st' rfl rfl (by decide) ⟨.int (lo + i), H, I1, ⟨t, ?_⟩, ⟨rfl, rfl⟩, st', fun b hb => (hf b hb).1⟩⟩
    rw [Int.mul_one]
  done := by
    intro X hP hw hK hc i pins s σ H E I hf st hg
    subst hP hw hK
    obtain ⟨f0, f1, f2, f3, f4, f5⟩ := hf it (by simp)
    exact wpAny_pyNext_range_end (I.ok.hd hc) st (by have : n ≤ i := hg; omega) fun h' eb => ⟨rfl, I.turned (t' := s.toks) (fun b o hb e => eb b o hb e) f0 f1 f3 f4 f5⟩
  self := fun _ _ _ _ _ st h => wpAny_pyIter_rangeiter st h
end L2
namespace L2
open PySem PySem.Spec PyProof.Rows
section
variable {X : Cx} {tg : Expr}
def iList (K : PySem.W.Frag) (tl : TE) : TI := fun σ H R => tl σ H fun x H1 => ∃ a, x = .ref a ∧ (∃ xs, SqL K H1 a xs) ∧ R (Itl K a) H1
def iTup (K : PySem.W.Frag) (tl : TE) : TI := fun σ H R => tl σ H fun x H1 => ∃ a, x = .ref a ∧ (∃ xs, SqT K H1 a xs) ∧ R (Itt K a) H1
theorem pi_list {l : Expr} {tl : TE} (hl : PE X l tl) : PI X tg l (iList X.K tl) := by
  intro pins s σ H R I h
  refine thn (hl pins s σ H _ I h) fun v s1 ⟨x, H1, I1, r1, q1⟩ => ?_
  obtain ⟨a, e, ⟨xs, hq⟩, q⟩ := q1
  subst e
  cases r1
  obtain ⟨its, rv, p, hz⟩ := I1.list hq
  refine wpAny_pyIter_list p.isList ?_
  refine ⟨s1.heap.objs.size, [s1.heap.objs.size], _, _, H1, rfl, I1.kept (t' := s1.toks) fun b o e => Heap.get?_push_of_some _ e, turn_list a _, ⟨_, Heap.get?_push_size _ rfl, rfl, rfl⟩, fun b hb => ?_, q⟩
  have e : b = s1.heap.objs.size := by simpa using hb
  subst e
  exact I1.fpOk (Nat.le_refl _) (I1.hok.fresh (Nat.le_refl _))
theorem pi_tup {l : Expr} {tl : TE} (hl : PE X l tl) : PI X tg l (iTup X.K tl) := by
  intro pins s σ H R I h
  refine thn (hl pins s σ H _ I h) fun v s1 ⟨x, H1, I1, r1, q1⟩ => ?_
  obtain ⟨a, e, ⟨xs, hq⟩, q⟩ := q1
  subst e
  cases r1
  obtain ⟨its, rv, p, hz⟩ := I1.tuple hq
  refine wpAny_pyIter_tuple (show s1.heap.IsTuple a its.toArray from p) ?_
  refine ⟨s1.heap.objs.size, [s1.heap.objs.size], _, _, H1, rfl, I1.kept (t' := s1.toks) fun b o e => Heap.get?_push_of_some _ e, turn_tuple a _, ⟨_, Heap.get?_push_size _ rfl, rfl, rfl⟩, fun b hb => ?_, q⟩
  have e : b = s1.heap.objs.size := by simpa using hb
  subst e
  exact I1.fpOk (Nat.le_refl _) (I1.hok.fresh (Nat.le_refl _))
theorem range_it {pins : List (Addr × Obj)} {σ : St} {H : Hp} {s : Shared} {R : It → Hp → Prop} {E : Value → Shared → Prop} {lo hi : Int} {t u v : Tok} {tk : Nat} (I : Inv X pins σ H s) (h1 : -(2 ^ 62) ≤ lo) (h2 : lo < 2 ^ 62) (h3 : -(2 ^ 62) ≤ hi) (h4 : hi < 2 ^ 62)
    (q : R (Itr lo (hi - lo).toNat) H) : wpAny (model X.prog X.w) X.A (pyIter (.ref s.heap.objs.size)) (PIE X pins σ tg R) E { s with heap := s.heap.push { cls := .type "range", data := .fields #[.int lo t, .int hi u, .int 1 v] }, toks := tk } := by
  refine wpAny_pyIter_range (IsRange.new ..) (small_one h1 h2 h3 h4) ?_
  have I1 : Inv X pins σ H { s with heap := s.heap.push { cls := .type "range", data := .fields #[.int lo t, .int hi u, .int 1 v] }, toks := tk } := I.kept fun b o e => Heap.get?_push_of_some _ e
  refine ⟨(s.heap.push { cls := .type "range", data := .fields #[.int lo t, .int hi u, .int 1 v] }).objs.size, [(s.heap.push { cls := .type "range", data := .fields #[.int lo t, .int hi u, .int 1 v] }).objs.size], _, _, H, rfl,
    I1.kept (t' := tk) fun b o e => Heap.get?_push_of_some _ e, turn_range _ lo (hi - lo).toNat, ?_, fun b hb => ?_, q⟩
  · have e1 : lo + ((0 : Nat) : Int) * 1 = lo := by simp
    have e2 : (((hi - lo).toNat : Nat) : Int) - ((0 : Nat) : Int) = Builtin.Range.rangeSize lo hi 1 := by rw [rangeSize_one]; split <;> omega
    show IsRangeIter _ _ (lo + ((0 : Nat) : Int) * 1) ((((hi - lo).toNat : Nat) : Int) - ((0 : Nat) : Int)) 1
    rw [e1, e2]
    exact Heap.get?_push_size _ rfl
  · have e : b = (s.heap.push { cls := .type "range", data := .fields #[.int lo t, .int hi u, .int 1 v] }).objs.size := by simpa using hb
    subst e
    exact I1.fpOk (Nat.le_refl _) (I1.hok.fresh (Nat.le_refl _))
def iRng1 (ta : TA) : TI := fun σ H R => ta σ H fun vs H1 => ∃ j : Int, vs = [.int j] ∧ -(2 ^ 62) ≤ j ∧ j < 2 ^ 62 ∧ R (Itr 0 j.toNat) H1
theorem pi_range1 {a : Expr} {ta : TA} {p pos : Pos} (hg : Gl X "range") (hm : X.mg "range" = none) (ha : PA X [a] ta) (hs : starEach [a] X.env = [(false, eval a X.env)] := by rfl) : PI X tg (.Call (.Name "range" p) [a] [] pos) (iRng1 ta) := by
  intro pins s σ H R I h
  refine Call_ (ld_blt I hg hm boot_range (PyProof.Rows.callWith_type1 (thn (ha pos pins s σ H _ I h) fun us s1 ⟨vs, H1, I1, r1, q1⟩ => ?_) hs rfl))
  obtain ⟨j, e, q1, q2, q⟩ := q1
  subst e
  cases r1 with
  | cons r rr =>
    cases rr
    obtain ⟨t, rfl⟩ := r
    exact call_range_1 (range_it I1 (by omega) (by omega) q1 q2 (by simpa using q))
def tFor (wi : TI) (g : TG) (tb : TS) : TS := fun D σ H => wi σ H fun J H1 => ∃ W : Nat → Nat → St → Hp → Prop, (∃ m, W 0 m σ H1) ∧ ∀ i m σ H, W i m σ H →
  (J.stop i H ∧ D.nx σ H) ∨ (J.go i H ∧ ∃ N : St → Hp → Prop, (∀ σ' H', N σ' H' → ∃ m', m' < m ∧ W (i + 1) m' σ' H') ∧ ∀ x H', J.yld i H x H' → g x σ H' fun σ2 H2 => tb { D with nx := N, ct := N, bk := D.nx } σ2 H2)
def pinsAt (fp : List Addr) (h : Heap) : List (Addr × Obj) := fp.filterMap fun b => (h.get? b).map fun o => (b, o)
theorem mem_pinsAt {fp : List Addr} {h : Heap} {b : Addr} {o : Obj} (hb : b ∈ fp) (e : h.get? b = some o) : (b, o) ∈ pinsAt fp h := List.mem_filterMap.mpr ⟨b, hb, by rw [e]; rfl⟩
theorem of_pinsAt {fp : List Addr} {h : Heap} {p : Addr × Obj} (hp : p ∈ pinsAt fp h) : p.1 ∈ fp ∧ h.get? p.1 = some p.2 := by
  obtain ⟨b, hb, e⟩ := List.mem_filterMap.mp hp
  cases q : h.get? b with
  | none => rw [q] at e; cases e
  | some o =>
    rw [q] at e
    have e' : (b, o) = p := Option.some.inj e
    subst e'
    exact ⟨hb, q⟩
theorem Inv.pinned {pins : List (Addr × Obj)} {σ : St} {H : Hp} {s : Shared} {fp : List Addr} (I : Inv X pins σ H s) (hf : ∀ b ∈ fp, FpOk X pins H b) (ho : ∀ b ∈ fp, ∃ o, s.heap.get? b = some o ∧ ∀ v, o.data ≠ .cell v) : Inv X (pins ++ pinsAt fp s.heap) σ H s :=
  I.pins_of fun p hp => (List.mem_append.mp hp).elim (fun z => I.pin p (List.mem_append_right _ z)) fun z => by
    obtain ⟨hb, e⟩ := of_pinsAt z
    obtain ⟨f0, f1, f2, _⟩ := hf p.1 hb
    obtain ⟨o, e', d⟩ := ho p.1 hb
    rw [e] at e'; cases e'
    exact ⟨e, f0, f1, f2, d⟩
theorem Inv.unpinned {pins pl : List (Addr × Obj)} {σ : St} {H : Hp} {s : Shared} (I : Inv X (pins ++ pl) σ H s) : Inv X pins σ H s := I.pins_of fun p hp => I.pin p (List.mem_append_right _ (List.mem_append_left _ hp))
theorem ps_for {iter : Expr} {body : List Stmt} {wi : TI} {g : TG} {tb : TS} {pos : Pos} (hp : PassesOwn (model X.prog X.w) X.A X.env X.xe) (hc : X.calm = true) (hi : PI X tg iter wi) (hg : PG X tg g) (hb : PSs X body tb)
    (hs : ∀ x, foldedSetIterable iter X.env x = pure x := by intro _; rfl) : PS X (.For tg iter body [] pos) (tFor wi g tb) := by
  intro pins s σ H D I h
  refine wpAny_For (thn (hi pins s σ H _ I h) fun v s1 h1 => thn h1 fun itv s2 h2 => ?_) hs
  obtain ⟨it, fp, tn, J, H2, e, I2, T, st2, f2, W, ⟨m0, w0⟩, turn⟩ := h2
  subst e
  have stat : ∀ {H' : Hp}, (∀ b ∈ fp, H' b = none) → ∀ b ∈ fp, FpOk X pins H' b := fun hn b hb => ⟨hn b hb, (f2 b hb).2⟩
  refine codeAny_forLoop_any (fun n s' => ∃ i σ' H', Inv X pins σ' H' s' ∧ tn i s'.heap ∧ (∀ b ∈ fp, H' b = none) ∧ W i n σ' H') ?_ m0 ⟨0, σ, H2, I2, st2, fun b hb => (f2 b hb).1, w0⟩
  rintro n s3 ⟨i, σ3, H3, I3, st3, fr3, w3⟩
  rcases turn i n σ3 H3 w3 with ⟨stop, qn⟩ | ⟨go, N, hN, step⟩
  · refine wpAny_passesOwn hp (thn (T.done X rfl rfl rfl hc i pins s3 σ3 H3 X.xe I3 (stat fr3) st3 stop) fun r s4 ⟨hr, I4⟩ => ?_)
    subst hr
    exact wpAny_execs_nil ⟨σ3, H3, I4, qn⟩
  · refine wpAny_passesOwn hp (thn (T.item X rfl rfl rfl hc i pins s3 σ3 H3 X.xe I3 (stat fr3) st3 go) fun r s4 ⟨u, hr, h4⟩ => ?_)
    subst hr
    refine wpAny_passesOwn hp (thn h4 fun _ s5 ⟨x, H5, I5, r5, y5, st5, fr5⟩ => ?_)
    have I5' := I5.pinned (stat fr5) (T.obj _ _ st5)
    refine wpAny_passesOwn hp (thn (hg _ s5 σ3 H5 x u _ I5' r5 (step x H5 y5)) fun _ s6 ⟨σ6, H6, I6, q6⟩ => ?_)
    refine wpAny_passesOwn hp (thn (hb _ s6 σ6 H6 _ I6 q6) fun f s7 q7 => ?_)
    have again : ∀ {σ7 : St} {H7 : Hp}, Inv X (pins ++ pinsAt fp s5.heap) σ7 H7 s7 → N σ7 H7 → ∃ m, m < n ∧ ∃ i σ' H', Inv X pins σ' H' s7 ∧ tn i s7.heap ∧ (∀ b ∈ fp, H' b = none) ∧ W i m σ' H' := fun {σ7 H7} I7 n7 => by
      obtain ⟨m', hm, w7⟩ := hN σ7 H7 n7
      refine ⟨m', hm, i + 1, σ7, H7, I7.unpinned, T.keep _ _ _ st5 fun b hb o e => (I7.pin (b, o) (List.mem_append_right _ (List.mem_append_right _ (mem_pinsAt hb e)))).1, fun b hb => ?_, w7⟩
      obtain ⟨o, e, d⟩ := T.obj _ _ st5 b hb
      exact (I7.pin (b, o) (List.mem_append_right _ (List.mem_append_right _ (mem_pinsAt hb e)))).2.1
    cases f with
    | next => obtain ⟨σ7, H7, I7, n7⟩ := q7; exact again I7 n7
    | cont => obtain ⟨σ7, H7, I7, n7⟩ := q7; exact again I7 n7
    | brk => obtain ⟨σ7, H7, I7, q7⟩ := q7; exact ⟨σ7, H7, I7.unpinned, q7⟩
    | ret v => obtain ⟨x7, σ7, H7, I7, r7, q7⟩ := q7; exact ⟨x7, σ7, H7, I7.unpinned, r7, q7⟩
end
theorem for_list {K : PySem.W.Frag} {a : Addr} {xs : List V} {g : TG} {tb : TS} {D : Ends} {σ : St} {H : Hp} (Pv : Nat → St → Hp → Prop) (h0 : Pv 0 σ H) (hl : ∀ i σ H, i ≤ xs.length → Pv i σ H → SqL K H a xs)
    (hs : ∀ i x σ H, xs[i]? = some x → Pv i σ H → g x σ H fun σ2 H2 => tb { D with nx := Pv (i + 1), ct := Pv (i + 1), bk := D.nx } σ2 H2) (hd : ∀ σ H, Pv xs.length σ H → D.nx σ H) :
    ∃ W : Nat → Nat → St → Hp → Prop, (∃ m, W 0 m σ H) ∧ ∀ i m σ H, W i m σ H →
      ((Itl K a).stop i H ∧ D.nx σ H) ∨ ((Itl K a).go i H ∧ ∃ N : St → Hp → Prop, (∀ σ' H', N σ' H' → ∃ m', m' < m ∧ W (i + 1) m' σ' H') ∧ ∀ x H', (Itl K a).yld i H x H' → g x σ H' fun σ2 H2 => tb { D with nx := N, ct := N, bk := D.nx } σ2 H2) := by
  refine ⟨fun i m σ H => m = xs.length - i ∧ i ≤ xs.length ∧ Pv i σ H, ⟨xs.length, by simp, Nat.zero_le _, h0⟩, ?_⟩
  rintro i m σ H ⟨rfl, hi, p⟩
  have q := hl i σ H hi p
  by_cases hlt : i < xs.length
  · refine .inr ⟨⟨xs, xs[i], q, by simp [hlt]⟩, Pv (i + 1), fun σ' H' p' => ⟨xs.length - (i + 1), by omega, rfl, hlt, p'⟩, fun x H' y => ?_⟩
    obtain ⟨e, y⟩ := y
    subst e
    exact hs i x σ _ (y xs q) p
  · have e : i = xs.length := by omega
    subst e
    exact .inl ⟨⟨xs, q, Nat.le_refl _⟩, hd σ H p⟩
end L2
namespace L2
open PySem PySem.Spec PyProof.Rows
abbrev R2 := V → V → Hp → VK → Prop
def OpR (X : Cx) (f : Value → Value → Sem Value) (r : R2) : Prop :=
  ∀ (pins : List (Addr × Obj)) (s : Shared) (σ : St) (H : Hp) (x y : V) (v u : Value) (Q : VK), Inv X pins σ H s → RelV x v → RelV y u → r x y H Q →
    wpAny (model X.prog X.w) X.A (f v u) (EP X pins σ Q) X.xe s
def UnR (X : Cx) (f : Value → Sem Value) (r : V → Hp → VK → Prop) : Prop :=
  ∀ (pins : List (Addr × Obj)) (s : Shared) (σ : St) (H : Hp) (x : V) (v : Value) (Q : VK), Inv X pins σ H s → RelV x v → r x H Q →
    wpAny (model X.prog X.w) X.A (f v) (EP X pins σ Q) X.xe s
def CallR (X : Cx) (f : Value) (r : List V → Hp → VK → Prop) : Prop :=
  ∀ (pins : List (Addr × Obj)) (s : Shared) (σ : St) (H : Hp) (xs : List V) (us : List Value) (Q : VK), Inv X pins σ H s → Vals xs us → r xs H Q →
    wpAny (model X.prog X.w) X.A (call f us) (EP X pins σ Q) X.xe s
def TruR (X : Cx) (r : V → Hp → (Bool → Hp → Prop) → Prop) : Prop :=
  ∀ (pins : List (Addr × Obj)) (s : Shared) (σ : St) (H : Hp) (x : V) (v : Value) (Q : Bool → Hp → Prop), Inv X pins σ H s → RelV x v → r x H Q →
    wpAny (model X.prog X.w) X.A (truthy v) (TP X pins σ Q) X.xe s
def tOp (r : R2) (ta tb : TE) : TE := fun σ H Q => ta σ H fun x H1 => tb σ H1 fun y H2 => r x y H2 Q
def tUn (r : V → Hp → VK → Prop) (ta : TE) : TE := fun σ H Q => ta σ H fun x H1 => r x H1 Q
def rI (C : Int → Int → Prop) (g : Int → Int → V) : R2 := fun x y H Q => ∃ i j, x = .int i ∧ y = .int j ∧ C i j ∧ Q (g i j) H
def rI0 (g : Int → Int → V) : R2 := fun x y H Q => ∃ i j, x = .int i ∧ y = .int j ∧ Q (g i j) H
def rU (g : Int → V) : V → Hp → VK → Prop := fun x H Q => ∃ i, x = .int i ∧ Q (g i) H
section
variable {X : Cx} {a b c : Expr} {ta tb tc : TE} {pos : Pos}
theorem binT (ha : PE X a ta) (hb : PE X b tb) {pins : List (Addr × Obj)} {s : Shared} {σ : St} {H : Hp} {R : V → V → Hp → Prop} (I : Inv X pins σ H s)
    (h : ta σ H fun x H1 => tb σ H1 fun y H2 => R x y H2) {Q : Value → Shared → Prop} {f : Value → Value → Sem Value}
    (hf : ∀ v u s2 x y H2, Inv X pins σ H2 s2 → RelV x v → RelV y u → R x y H2 → wpAny (model X.prog X.w) X.A (f v u) Q X.xe s2) :
    wpAny (model X.prog X.w) X.A (eval a X.env) (fun v s₁ => wpAny (model X.prog X.w) X.A (eval b X.env) (fun u s₂ => wpAny (model X.prog X.w) X.A (f v u) Q X.xe s₂) X.xe s₁) X.xe s := by
  refine thn (ha pins s σ H _ I h) fun v s1 ⟨x, H1, I1, r1, q1⟩ => ?_
  refine thn (hb pins s1 σ H1 _ I1 q1) fun u s2 ⟨y, H2, I2, r2, q2⟩ => ?_
  exact hf v u s2 x y H2 I2 r1 r2 q2
theorem pe_op {op : Operator} {r : R2} (ho : OpR X (binaryOp op) r) (ha : PE X a ta) (hb : PE X b tb) : PE X (.BinOp a op b pos) (tOp r ta tb) := by
  intro pins s σ H Q I h
  exact wpAny_BinOp (binT ha hb I h fun v u s2 x y H2 I2 rx ry q => ho pins s2 σ H2 x y v u Q I2 rx ry q)
theorem pe_un {op : UnaryOp} {r : V → Hp → VK → Prop} (ho : UnR X (unaryOp op) r) (ha : PE X a ta) : PE X (.UnaryOp op a pos) (tUn r ta) := by
  intro pins s σ H Q I h
  exact UnaryOp_ (thn (ha pins s σ H _ I h) fun v s1 ⟨x, H1, I1, r1, q1⟩ => ho pins s1 σ H1 x v Q I1 r1 q1)
theorem opI {f : Value → Value → Sem Value} {C : Int → Int → Prop} {g : Int → Int → Int}
    (rule : ∀ (i j : Int) (t u : Tok) (s : Shared) (Q : Value → Shared → Prop) (E : Value → Shared → Prop), C i j → Q (.int (g i j) s.toks) { s with toks := s.toks + 1 } → wpAny (model X.prog X.w) X.A (f (.int i t) (.int j u)) Q E s) :
    OpR X f (rI C fun i j => .int (g i j)) := by
  intro pins s σ H x y v u Q I rx ry h
  obtain ⟨i, j, rfl, rfl, hc, q⟩ := h
  obtain ⟨t, rfl⟩ := rx
  obtain ⟨t', rfl⟩ := ry
  exact rule i j t t' s _ _ hc ⟨.int (g i j), H, I.tok _, ⟨_, rfl⟩, q⟩
theorem opI0 {f : Value → Value → Sem Value} {g : Int → Int → Int}
    (rule : ∀ (i j : Int) (t u : Tok) (s : Shared) (Q : Value → Shared → Prop) (E : Value → Shared → Prop), Q (.int (g i j) s.toks) { s with toks := s.toks + 1 } → wpAny (model X.prog X.w) X.A (f (.int i t) (.int j u)) Q E s) :
    OpR X f (rI0 fun i j => .int (g i j)) := by
  intro pins s σ H x y v u Q I rx ry h
  obtain ⟨i, j, rfl, rfl, q⟩ := h
  obtain ⟨t, rfl⟩ := rx
  obtain ⟨t', rfl⟩ := ry
  exact rule i j t t' s _ _ ⟨.int (g i j), H, I.tok _, ⟨_, rfl⟩, q⟩
theorem opB0 {f : Value → Value → Sem Value} {g : Int → Int → Bool}
    (rule : ∀ (i j : Int) (t u : Tok) (s : Shared) (Q : Value → Shared → Prop) (E : Value → Shared → Prop), Q (.bool (g i j)) s → wpAny (model X.prog X.w) X.A (f (.int i t) (.int j u)) Q E s) :
    OpR X f (rI0 fun i j => .bl (g i j)) := by
  intro pins s σ H x y v u Q I rx ry h
  obtain ⟨i, j, rfl, rfl, q⟩ := h
  obtain ⟨t, rfl⟩ := rx
  obtain ⟨t', rfl⟩ := ry
  exact rule i j t t' s _ _ ⟨.bl (g i j), H, I, rfl, q⟩
def CPow (i j : Int) : Prop := 0 ≤ j ∧ j ≤ 1000000 ∧ i.natAbs < 2 ^ 64
def CMul (i j : Int) : Prop := (-(2 ^ 64) < i ∧ i < 2 ^ 64) ∨ (-(2 ^ 64) < j ∧ j < 2 ^ 64)
theorem CMul.ok {i j : Int} (h : CMul i j) : IntMulOk i j := by
  rcases h with ⟨h1, h2⟩ | ⟨h1, h2⟩
  · exact .of_left (intBits_le_64 h1 h2)
  · exact .of_right (intBits_le_64 h1 h2)
theorem op_add : OpR X (binaryOp .Add) (rI0 fun i j => .int (i + j)) := opI0 fun _ _ _ _ _ _ _ q => add_int q
theorem op_sub : OpR X (binaryOp .Sub) (rI0 fun i j => .int (i - j)) := opI0 fun _ _ _ _ _ _ _ q => sub_int q
theorem op_mul : OpR X (binaryOp .Mult) (rI CMul fun i j => .int (i * j)) := opI fun _ _ _ _ _ _ _ hc q => mul_int q hc.ok
theorem op_mod : OpR X (binaryOp .Mod) (rI (fun _ j => 0 < j) fun i j => .int (i % j)) := opI fun i j _ _ _ _ _ hc q => by
  have h1 : (0 : Int) < j := hc
  exact mod_int' (by omega) (by rw [Int.fmod_eq_emod_of_nonneg i (by omega)]; exact q)
theorem op_pow : OpR X (binaryOp .Pow) (rI CPow fun i j => .int (i ^ j.toNat)) := opI fun _ _ _ _ _ _ _ hc q => pow_int_small hc.1 hc.2.1 hc.2.2 q
theorem unI {f : Value → Sem Value} {g : Int → Int}
    (rule : ∀ (i : Int) (t : Tok) (s : Shared) (Q : Value → Shared → Prop) (E : Value → Shared → Prop), Q (.int (g i) s.toks) { s with toks := s.toks + 1 } → wpAny (model X.prog X.w) X.A (f (.int i t)) Q E s) :
    UnR X f (rU fun i => .int (g i)) := by
  intro pins s σ H x v Q I rx h
  obtain ⟨i, rfl, q⟩ := h
  obtain ⟨t, rfl⟩ := rx
  exact rule i t s _ _ ⟨.int (g i), H, I.tok _, ⟨_, rfl⟩, q⟩
theorem un_neg : UnR X (unaryOp .USub) (rU fun i => .int (-i)) := unI fun _ _ _ _ _ q => neg_int q
end
def scal : V → V → Bool
  | .non, .non => true | .non, .int _ => true | .int _, .non => true | .non, .bl _ => true | .bl _, .non => true | .non, .str _ => true | .str _, .non => true
  | .int _, .int _ => true | .bl _, .bl _ => true | .str _, .str _ => true | .byt _, .byt _ => true
  | .int _, .str _ => true | .str _, .int _ => true | .bl _, .str _ => true | .str _, .bl _ => true
  | _, _ => false
def rEq : R2 := fun x y H Q => scal x y = true ∧ Q (.bl (decide (x = y))) H
def rNe : R2 := fun x y H Q => scal x y = true ∧ Q (.bl (!decide (x = y))) H
theorem dec_int {i j : Int} : decide (V.int i = V.int j) = (i == j) := by
  rw [Bool.eq_iff_iff]
  simp
theorem dec_bl {i j : Bool} : decide (V.bl i = V.bl j) = (i == j) := by
  rw [Bool.eq_iff_iff]
  simp
theorem dec_str {i j : Str} : decide (V.str i = V.str j) = (i == j) := by
  rw [Bool.eq_iff_iff]
  simp
theorem dec_byt {i j : Array UInt8} : decide (V.byt i = V.byt j) = (i.toList == j.toList) := by
  rw [Bool.eq_iff_iff]
  cases i
  cases j
  simp
section
variable {X : Cx} {a b c : Expr} {ta tb tc : TE} {pos : Pos}
theorem fin_bl {pins : List (Addr × Obj)} {σ : St} {H : Hp} {s : Shared} {Q : VK} {k k' : Bool} (I : Inv X pins σ H s) (q : Q (.bl k) H) (e : k = k') : EP X pins σ Q (.bool k') s := by
  subst e
  exact ⟨.bl k, H, I, rfl, q⟩
theorem op_eq : OpR X (compareOp .Eq) rEq := by
  intro pins s σ H x y v u Q I rx ry h
  obtain ⟨hs, q⟩ := h
  cases x with
  | non =>
    cases rx
    cases y with
    | non => cases ry; exact PySem.EqNone.eq_none_none (fin_bl I q (by simp))
    | bl j => cases ry; exact PySem.EqNone.eq_none_bool (fin_bl I q (by simp))
    | int j => obtain ⟨t', rfl⟩ := ry; exact PySem.EqNone.eq_none_int (fin_bl I q (by simp))
    | str j => obtain ⟨t', rfl⟩ := ry; exact PySem.EqNone.eq_none_str (fin_bl I q (by simp))
    | _ => exact absurd (show false = true from hs) Bool.false_ne_true
  | bl i =>
    cases rx
    cases y with
    | non => cases ry; exact PySem.EqNone.eq_bool_none (fin_bl I q (by simp))
    | bl j => cases ry; exact eq_bool (fin_bl I q dec_bl)
    | str j => obtain ⟨t', rfl⟩ := ry; exact PySem.EqMixed.eq_bool_str (fin_bl I q (by simp))
    | _ => exact absurd (show false = true from hs) Bool.false_ne_true
  | int i =>
    obtain ⟨t, rfl⟩ := rx
    cases y with
    | non => cases ry; exact PySem.EqNone.eq_int_none (fin_bl I q (by simp))
    | int j => obtain ⟨t', rfl⟩ := ry; exact eq_int (fin_bl I q dec_int)
    | str j => obtain ⟨t', rfl⟩ := ry; exact PySem.EqMixed.eq_int_str (fin_bl I q (by simp))
    | _ => exact absurd (show false = true from hs) Bool.false_ne_true
  | str i =>
    obtain ⟨t, rfl⟩ := rx
    cases y with
    | non => cases ry; exact PySem.EqNone.eq_str_none (fin_bl I q (by simp))
    | bl j => cases ry; exact PySem.EqMixed.eq_str_bool (fin_bl I q (by simp))
    | int j => obtain ⟨t', rfl⟩ := ry; exact PySem.EqMixed.eq_str_int (fin_bl I q (by simp))
    | str j => obtain ⟨t', rfl⟩ := ry; exact eq_str (fin_bl I q dec_str)
    | _ => exact absurd (show false = true from hs) Bool.false_ne_true
  | byt i =>
    obtain ⟨t, rfl⟩ := rx
    cases y with
    | byt j => obtain ⟨t', rfl⟩ := ry; exact PySem.W.eq_bytes (fin_bl I q dec_byt)
    | _ => exact absurd (show false = true from hs) Bool.false_ne_true
  | _ => cases y <;> exact absurd (show false = true from hs) Bool.false_ne_true
theorem op_ne : OpR X (compareOp .NotEq) rNe := by
  intro pins s σ H x y v u Q I rx ry h
  obtain ⟨hs, q⟩ := h
  cases x with
  | non =>
    cases rx
    cases y with
    | non => cases ry; exact PySem.EqNone.ne_none_none (fin_bl I q (by simp))
    | bl j => cases ry; exact PySem.EqNone.ne_none_bool (fin_bl I q (by simp))
    | int j => obtain ⟨t', rfl⟩ := ry; exact PySem.EqNone.ne_none_int (fin_bl I q (by simp))
    | str j => obtain ⟨t', rfl⟩ := ry; exact PySem.EqNone.ne_none_str (fin_bl I q (by simp))
    | _ => exact absurd (show false = true from hs) Bool.false_ne_true
  | bl i =>
    cases rx
    cases y with
    | non => cases ry; exact PySem.EqNone.ne_bool_none (fin_bl I q (by simp))
    | bl j => cases ry; exact ne_bool (fin_bl I q (congrArg not dec_bl))
    | str j => obtain ⟨t', rfl⟩ := ry; exact PySem.EqMixed.ne_bool_str (fin_bl I q (by simp))
    | _ => exact absurd (show false = true from hs) Bool.false_ne_true
  | int i =>
    obtain ⟨t, rfl⟩ := rx
    cases y with
    | non => cases ry; exact PySem.EqNone.ne_int_none (fin_bl I q (by simp))
    | int j => obtain ⟨t', rfl⟩ := ry; exact ne_int (fin_bl I q (congrArg not dec_int))
    | str j => obtain ⟨t', rfl⟩ := ry; exact PySem.EqMixed.ne_int_str (fin_bl I q (by simp))
    | _ => exact absurd (show false = true from hs) Bool.false_ne_true
  | str i =>
    obtain ⟨t, rfl⟩ := rx
    cases y with
    | non => cases ry; exact PySem.EqNone.ne_str_none (fin_bl I q (by simp))
    | bl j => cases ry; exact PySem.EqMixed.ne_str_bool (fin_bl I q (by simp))
    | int j => obtain ⟨t', rfl⟩ := ry; exact PySem.EqMixed.ne_str_int (fin_bl I q (by simp))
    | str j => obtain ⟨t', rfl⟩ := ry; exact ne_str (fin_bl I q (congrArg not dec_str))
    | _ => exact absurd (show false = true from hs) Bool.false_ne_true
  | byt i =>
    obtain ⟨t, rfl⟩ := rx
    cases y with
    | byt j => obtain ⟨t', rfl⟩ := ry; exact PySem.W.ne_bytes (fin_bl I q (congrArg not dec_byt))
    | _ => exact absurd (show false = true from hs) Bool.false_ne_true
  | _ => cases y <;> exact absurd (show false = true from hs) Bool.false_ne_true
theorem op_lt : OpR X (compareOp .Lt) (rI0 fun i j => .bl (decide (i < j))) := opB0 fun _ _ _ _ _ _ _ q => lt_int q
theorem op_le : OpR X (compareOp .LtE) (rI0 fun i j => .bl (decide (i ≤ j))) := opB0 fun _ _ _ _ _ _ _ q => le_int q
theorem op_gt : OpR X (compareOp .Gt) (rI0 fun i j => .bl (decide (j < i))) := opB0 fun _ _ _ _ _ _ _ q => gt_int q
theorem op_ge : OpR X (compareOp .GtE) (rI0 fun i j => .bl (decide (j ≤ i))) := opB0 fun _ _ _ _ _ _ _ q => ge_int q
theorem op_in_str : OpR X (compareOp .In) (fun x y H Q => ∃ i j, x = .str i ∧ y = .str j ∧ Q (.bl (!(Builtin.Str.occurrences j i 0 j.length 1).isEmpty)) H) := by
  intro pins s σ H x y v u Q I rx ry h
  obtain ⟨i, j, rfl, rfl, q⟩ := h
  obtain ⟨t, rfl⟩ := rx
  obtain ⟨t', rfl⟩ := ry
  exact in_str (fin_bl I q rfl)
theorem op_notin_str : OpR X (compareOp .NotIn) (fun x y H Q => ∃ i j, x = .str i ∧ y = .str j ∧ Q (.bl (!(!(Builtin.Str.occurrences j i 0 j.length 1).isEmpty))) H) := by
  intro pins s σ H x y v u Q I rx ry h
  obtain ⟨i, j, rfl, rfl, q⟩ := h
  obtain ⟨t, rfl⟩ := rx
  obtain ⟨t', rfl⟩ := ry
  exact notIn_str (fin_bl I q rfl)
theorem OpR.or {f : Value → Value → Sem Value} {r r' : R2} (h : OpR X f r) (h' : OpR X f r') : OpR X f (fun x y H Q => r x y H Q ∨ r' x y H Q) := by
  intro pins s σ H x y v u Q I rx ry q
  rcases q with q | q
  · exact h pins s σ H x y v u Q I rx ry q
  · exact h' pins s σ H x y v u Q I rx ry q
theorem nomark (b : Expr) {op : CmpOp} (h : op ≠ .In := by decide) (h2 : op ≠ .NotIn := by decide) : behindInMarks op b = false := by
  have e1 : (op == CmpOp.In) = false := by cases op <;> first | rfl | exact absurd rfl h
  have e2 : (op == CmpOp.NotIn) = false := by cases op <;> first | rfl | exact absurd rfl h2
  cases b <;> simp [behindInMarks, e1, e2]
theorem pe_cmpR {op : CmpOp} {r : R2} (ho : OpR X (compareOp op) r) (ha : PE X a ta) (hb : PE X b tb) (hm : behindInMarks op b = false) : PE X (.Compare a [op] [b] pos) (tOp r ta tb) := by
  intro pins s σ H Q I h
  exact wpAny_Compare1 (binT ha hb I h fun v u s2 x y H2 I2 rx ry q => ho pins s2 σ H2 x y v u Q I2 rx ry q) hm
def tTest (t : TE) : TT := fun σ H Q => t σ H fun x H' => ∃ k, x = .bl k ∧ Q k H'
theorem pt_cmpR {op : CmpOp} {r : R2} (ho : OpR X (compareOp op) r) (ha : PE X a ta) (hb : PE X b tb) (hm : behindInMarks op b = false) : PT X (.Compare a [op] [b] pos) (tTest (tOp r ta tb)) := by
  intro pins s σ H Q I h
  refine wpAny_isTrue_Compare1 (thn (ha pins s σ H _ I h) fun v s1 ⟨x, H1, I1, r1, q1⟩ => thn (hb pins s1 σ H1 _ I1 q1) fun u s2 ⟨y, H2, I2, r2, q2⟩ =>
    thn (ho pins s2 σ H2 x y v u _ I2 r1 r2 q2) fun c s3 ⟨z, H3, I3, r3, k, e, q3⟩ => ?_) hm
  subst e
  cases r3
  exact wpAny_truthy_bool ⟨H3, I3, q3⟩
def TruV (K : PySem.W.Frag) (x : V) (H : Hp) (k : Bool) : Prop :=
  match x with
  | .non => k = false
  | .bl b => k = b
  | .int i => k = (i != 0)
  | .str y => y.length ≤ sizeLine ∧ k = ((y.length : Int) != 0)
  | .byt y => y.size ≤ sizeLine ∧ k = ((y.size : Int) != 0)
  | .ref p => (∃ xs, SqL K H p xs ∧ k = !xs.isEmpty) ∨ (∃ xs, SqT K H p xs ∧ k = !xs.isEmpty) ∨ ∃ kvs, H p = some (.dK kvs) ∧ k = !kvs.isEmpty
  | _ => False
theorem isEmpty_kv {κ : Type} {kvs : List (κ × V)} {vs : List (κ × Value)} (r : KV kvs vs) : (!vs.isEmpty) = !kvs.isEmpty := by
  cases r <;> rfl
theorem isEmpty_of {xs : List V} {its : List Value} (r : Vals xs its) : (!its.toArray.isEmpty) = !xs.isEmpty := by
  cases r <;> simp
theorem line63 : (sizeLine : Nat) < 2 ^ 63 := by rw [sizeLine_eq]; decide
theorem tru_ok : TruR X (fun x H Q => ∃ k, TruV X.K x H k ∧ Q k H) := by
  intro pins s σ H x v Q I rx h
  obtain ⟨k, e, q⟩ := h
  have hl := line63
  have hs : sizeLine = 16777216 := sizeLine_eq
  cases x with
  | non =>
    cases rx
    have e' : k = false := e
    subst e'
    exact truthy_none ⟨H, I, q⟩
  | bl b =>
    cases rx
    have e' : k = b := e
    subst e'
    exact wpAny_truthy_bool ⟨H, I, q⟩
  | int i =>
    obtain ⟨t, rfl⟩ := rx
    have e' : k = (i != 0) := e
    subst e'
    exact PySem.P.truthy_int ⟨H, I, q⟩
  | str y =>
    obtain ⟨t, rfl⟩ := rx
    obtain ⟨hy, e'⟩ : y.length ≤ sizeLine ∧ k = ((y.length : Int) != 0) := e
    subst e'
    exact PySem.P.truthy_str (by omega) ⟨H, I.tok _, q⟩
  | byt y =>
    obtain ⟨t, rfl⟩ := rx
    obtain ⟨hy, e'⟩ : y.size ≤ sizeLine ∧ k = ((y.size : Int) != 0) := e
    subst e'
    exact PySem.W.truthy_bytes (by omega) ⟨H, I.tok _, q⟩
  | ref p =>
    cases rx
    have e' : (∃ xs, SqL X.K H p xs ∧ k = !xs.isEmpty) ∨ (∃ xs, SqT X.K H p xs ∧ k = !xs.isEmpty) ∨ ∃ kvs, H p = some (.dK kvs) ∧ k = !kvs.isEmpty := e
    rcases e' with ⟨xs, hx, e'⟩ | ⟨xs, hx, e'⟩ | ⟨kvs, hx, e'⟩
    · subst e'
      obtain ⟨its, r, pl, hz⟩ := I.list hx
      have hlen := r.length
      exact wpAny_truthy_list pl.isList (by simp only [List.size_toArray]; omega) ⟨H, I.tok _, by rw [isEmpty_of r]; exact q⟩
    · subst e'
      obtain ⟨its, r, pl, hz⟩ := I.tuple hx
      have hlen := r.length
      exact truthy_tuple pl (by simp only [List.size_toArray]; omega) ⟨H, I.tok _, by rw [isEmpty_of r]; exact q⟩
    · subst e'
      obtain ⟨hz, hS, vs, r, m⟩ : kvs.length ≤ sizeLine ∧ (p == sysModules) = false ∧ ∃ vs, KV kvs vs ∧ s.heap.DictOf (mixKind X.prog X.w) p vs := I.hok p _ hx
      have hlen : kvs.length = vs.length := Paired.length r
      exact wpAny_truthy_dict hS m (by omega) ⟨H, I.tok _, by rw [isEmpty_kv r]; exact q⟩
  | _ => exact (show False from e).elim
theorem pt_truth (ha : PE X a ta) (he : ∀ whole, isTrue a X.env whole = (do let v ← whole; standAt a.pos; holding [v] (truthy v))) :
    PT X a (fun σ H Q => ta σ H fun x H' => ∃ k, TruV X.K x H' k ∧ Q k H') := by
  intro pins s σ H Q I h
  exact isTrue_plain (thn (ha pins s σ H _ I h) fun v s1 ⟨x, H1, I1, r1, q1⟩ => tru_ok pins s1 σ H1 x v Q I1 r1 q1) (he _)
theorem op_add_str : OpR X (binaryOp .Add) (fun x y H Q => ∃ i j, x = .str i ∧ y = .str j ∧ i.length + j.length ≤ sizeLine ∧ Q (.str (i ++ j)) H) := by
  intro pins s σ H x y v u Q I rx ry h
  obtain ⟨i, j, rfl, rfl, hz, q⟩ := h
  obtain ⟨t, rfl⟩ := rx
  obtain ⟨t', rfl⟩ := ry
  exact add_str (fun t' tk => ⟨.str (i ++ j), H, I.tok _, ⟨_, rfl⟩, q⟩) hz
theorem vals1 {x : V} {us : List Value} (r : Vals [x] us) : ∃ u, us = [u] ∧ RelV x u := by
  cases r with
  | cons r1 r2 => cases r2; exact ⟨_, rfl, r1⟩
theorem vals2 {x y : V} {us : List Value} (r : Vals [x, y] us) : ∃ u w', us = [u, w'] ∧ RelV x u ∧ RelV y w' := by
  cases r with
  | cons r1 r2 =>
    cases r2 with
    | cons r3 r4 => cases r4; exact ⟨_, _, rfl, r1, r3⟩
theorem call_max2 (hc : X.calm = true) : CallR X (.builtin "max") (fun xs H Q => ∃ i j, xs = [.int i, .int j] ∧ Q (.int (if j > i then j else i)) H) := by
  intro pins s σ H xs us Q I r h
  obtain ⟨i, j, rfl, q⟩ := h
  obtain ⟨u, w', rfl, ⟨t, rfl⟩, ⟨t', rfl⟩⟩ := vals2 r
  refine max_two_ints (I.ok.hd hc) fun h' tk k => ⟨_, H, I.kept k, ?_, q⟩
  by_cases hj : j > i
  · rw [if_pos hj, if_pos hj]; exact ⟨_, rfl⟩
  · rw [if_neg hj, if_neg hj]; exact ⟨_, rfl⟩
theorem call_min2 (hc : X.calm = true) : CallR X (.builtin "min") (fun xs H Q => ∃ i j, xs = [.int i, .int j] ∧ Q (.int (if j < i then j else i)) H) := by
  intro pins s σ H xs us Q I r h
  obtain ⟨i, j, rfl, q⟩ := h
  obtain ⟨u, w', rfl, ⟨t, rfl⟩, ⟨t', rfl⟩⟩ := vals2 r
  refine min_two_ints (I.ok.hd hc) fun h' tk k => ⟨_, H, I.kept k, ?_, q⟩
  by_cases hj : j < i
  · rw [if_pos hj, if_pos hj]; exact ⟨_, rfl⟩
  · rw [if_neg hj, if_neg hj]; exact ⟨_, rfl⟩
theorem call_int1 : CallR X (.type "int") (fun xs H Q => (∃ i, xs = [.int i] ∧ Q (.int i) H) ∨ ∃ k, xs = [.bl k] ∧ Q (.int (if k then 1 else 0)) H) := by
  intro pins s σ H xs us Q I r h
  rcases h with ⟨i, rfl, q⟩ | ⟨k, rfl, q⟩
  · obtain ⟨u, rfl, t, rfl⟩ := vals1 r
    exact call_int_int ⟨.int i, H, I, ⟨_, rfl⟩, q⟩
  · obtain ⟨u, rfl, r1⟩ := vals1 r
    cases r1
    exact call_int_bool ⟨.int (if k then 1 else 0), H, I.tok _, ⟨_, rfl⟩, q⟩
end
end L2
namespace L2
open PySem PySem.Spec PyProof.Rows
structure ObjM (h : Heap) (x dx C : Addr) (mA : Str → Option Value) : Prop where
  obj : h.get? x = some (PySem.W.instObj C dx)
  ns : h.Ns1 dx mA
  ne : dx ≠ x
theorem lookIn_ns {h : Heap} {dx : Addr} {mA : Str → Option Value} (n : h.Ns1 dx mA) : ∃ od, h.get? dx = some od ∧ ∀ name, PySem.W.lookIn name od = some (mA name) := by
  obtain ⟨o, es, ep, ho, hd, hk, _, hm⟩ := n
  refine ⟨o, ho, fun name => ?_⟩
  have e := hm name
  unfold nsFind findBy at e
  rw [← Array.find?_toList] at e
  unfold PySem.W.lookIn
  rw [hd]
  dsimp only
  split
  · rename_i y q
    rw [q] at e
    exact congrArg some e
  · rename_i q
    rw [q] at e
    have a : es.toList.any (·.refKey) = false := by
      rw [List.any_eq_false]
      intro y hy
      obtain ⟨z, t, hkey⟩ := hk y (Array.mem_toList_iff.mp hy)
      simp [DictEntry.refKey, hkey]
    have a' : ¬ es.toList.any (·.refKey) = true := by rw [a]; exact Bool.false_ne_true
    rw [if_neg a']
    exact congrArg some e
theorem ObjM.look {h : Heap} {x dx C : Addr} {mA : Str → Option Value} (I : ObjM h x dx C mA) : ∃ od, PySem.W.InstAt h x (PySem.W.instObj C dx) C (some od) ∧ ∀ name, PySem.W.lookIn name od = some (mA name) :=
  let ⟨od, ho, hl⟩ := lookIn_ns I.ns
  ⟨od, ⟨I.obj, rfl, rfl, ho⟩, hl⟩
section
variable {prog : Program} {w : World} {A : Around} {E : Value → Shared → Prop} {s : Shared} {K : PySem.W.Frag} {x dx C f : Addr} {mA : Str → Option Value} {name : Str} {v : Value}
end
theorem RelO.some_of {v : V} {o : Option Value} (r : RelO (some v) o) : ∃ u, o = some u ∧ RelV v u := by
  cases o with
  | none => exact (show False from r).elim
  | some u => exact ⟨u, rfl, r⟩
section
variable {P : Program} {w : World} {H H' : Hp} {h h' : Heap} {a C dx : Addr} {fs fs' : List (Str × V)}
theorem ins_get (hok : HOk P w H h) (e : H a = some (.ins C dx fs)) : ∃ mA, ObjM h a dx C mA ∧ (∀ f, RelO (fs.lookup f) (mA f)) ∧ PySem.Within mA (fs.map (·.1)) ∧ fs.length ≤ 1000 ∧ H dx = some (.own a) := by
  obtain ⟨d, z, ne, ob, mA, n, r, q⟩ := (show ObjOk P w H h a (.ins C dx fs) from hok a _ e)
  exact ⟨mA, ⟨ob, n, ne⟩, r, q, z, d⟩
end
structure Cls (K : PySem.W.Frag) (C : Addr) : Prop where
  pg : PySem.W.plainGet K C Str.empty = true
  hd : PySem.W.hasDictIn K C = true
  po : PySem.W.plainOver K C = true
  sa : PySem.W.findIn K (.ref C) "__setattr__" = some (some (.builtin "object.__setattr__"))
theorem Cls.get {K : PySem.W.Frag} {C : Addr} (c : Cls K C) (f : Str) : PySem.W.plainGet K C f = true := c.pg
section
variable {X : Cx} {pins : List (Addr × Obj)} {σ : St} {H : Hp} {s : Shared} {a C dx : Addr} {fs : List (Str × V)} {f : Str} {v : V} {A : Around} {E : Value → Shared → Prop}
theorem Inv.made (I : Inv X pins σ H s) : Inv X pins σ (upd (upd H s.heap.objs.size (.own (s.heap.objs.size + 1))) (s.heap.objs.size + 1) (.ins C s.heap.objs.size []))
    { s with heap := (s.heap.push PySem.W.emptyDict).push (PySem.W.instObj C s.heap.objs.size) } := by
  have e1 : (s.heap.push PySem.W.emptyDict).get? s.heap.objs.size = some PySem.W.emptyDict := Heap.get?_push_size s.heap rfl
  have e2 : ((s.heap.push PySem.W.emptyDict).push (PySem.W.instObj C s.heap.objs.size)).get? (s.heap.objs.size + 1) = some (PySem.W.instObj C s.heap.objs.size) := by
    have := Heap.get?_push_size (s.heap.push PySem.W.emptyDict) (o := PySem.W.instObj C s.heap.objs.size) rfl
    rwa [Heap.size_push] at this
  have e3 : (s.heap.push PySem.W.emptyDict).Ns s.heap.objs.size (fun _ => none) := ⟨PySem.W.emptyDict, #[], _, e1, rfl, (fun e he => absurd he (by simp)), fun _ => rfl⟩
  have I1 := I.laid (a := s.heap.objs.size) (o := .own (s.heap.objs.size + 1)) (h' := s.heap.push PySem.W.emptyDict) (t' := s.toks) (fun b u q => Heap.get?_push_of_some _ q) (Nat.le_refl _) ⟨_, e1⟩
  refine I1.laid (a := s.heap.objs.size + 1) (o := .ins C s.heap.objs.size []) (t' := s.toks) (fun b u q => Heap.get?_push_of_some _ q) (Nat.le_of_eq (Heap.size_push _ _)) ?_
  have ne : s.heap.objs.size ≠ s.heap.objs.size + 1 := Nat.ne_of_lt (Nat.lt_succ_self _)
  refine ⟨by rw [upd_ne ne, upd_same], Nat.zero_le _, ne, e2, fun _ => none, (Heap.Ns1.of_empty e3).at fun o q => Heap.get?_push_of_some _ q, fun _ => True.intro, fun y hy => absurd rfl hy⟩
end
section
variable {X : Cx} {o e value : Expr} {f : Str} {pos pos' tpos : Pos} {ta tv : TE}
end
section
variable {X : Cx} {pins : List (Addr × Obj)} {σ : St} {H : Hp} {s : Shared} {A : Around} {E : Value → Shared → Prop} {Q : Value → Shared → Prop} {c : Value} {b : Bool}
inductive TyOf (K : PySem.W.Frag) (H : Hp) : V → Value → Prop where
  | non : TyOf K H .non (.type "NoneType")
  | bl (x : Bool) : TyOf K H (.bl x) (.type "bool")
  | int (i : Int) : TyOf K H (.int i) (.type "int")
  | str (x : Str) : TyOf K H (.str x) (.type "str")
  | flt (x : UInt64) : TyOf K H (.flt x) (.type "float")
  | lst {a : Addr} {xs : List V} (e : H a = some (.lst xs)) : TyOf K H (.ref a) (.type "list")
  | frz {a : Addr} {o : Obj} {xs : List V} (e : H a = some (.frz o (.lst xs))) : TyOf K H (.ref a) (.type "list")
  | tup {a : Addr} {xs : List V} (e : H a = some (.tup xs)) : TyOf K H (.ref a) (.type "tuple")
  | dK {a : Addr} {kvs : List (Key × V)} (e : H a = some (.dK kvs)) : TyOf K H (.ref a) (.type "dict")
  | dT {a : Addr} {kvs : List (List Key × V)} (e : H a = some (.dT kvs)) : TyOf K H (.ref a) (.type "dict")
  | ins {a C dx : Addr} {fs : List (Str × V)} (e : H a = some (.ins C dx fs)) (cl : Cls K C) (ha : PySem.W.findIn K (.ref C) "__class__" = some (some (.builtin "object.__class__")))
      (hn : PySem.W.specialIn K (.builtin "object.__class__") "__get__" = some (some (.builtin "getset_descriptor.__get__"))) (htk : PySem.W.takesIn K (.builtin "object.__class__") = some true)
      (hm : PySem.W.mroIn K C (.type "object") = some true) : TyOf K H (.ref a) (.ref C)
theorem isinst_ok {x : V} {u t : Value} (I : Inv X pins σ H s) (rx : RelV x u) (ty : TyOf X.K H x t) (e : PySem.W.kitOne X.K t c = some b) (h : ∀ tk, Q (.bool b) { s with toks := tk }) :
    wpAny (model X.prog X.w) A (call (.builtin "isinstance") [u, c]) Q E s := by
  cases ty with
  | non => cases (show u = Value.none from rx); exact PySem.W.kia_one PySem.W.kitx_none I.kIn True.intro e (fun z => nomatch z) h
  | bl y => cases (show u = Value.bool y from rx); exact PySem.W.kia_one PySem.W.kitx_bool I.kIn True.intro e (fun z => nomatch z) h
  | int i => obtain ⟨t, q⟩ := (show ∃ t, u = Value.int i t from rx); cases q; exact PySem.W.kia_one PySem.W.kitx_int I.kIn True.intro e (fun z => nomatch z) h
  | str y => obtain ⟨t, q⟩ := (show ∃ t, u = Value.str y t from rx); cases q; exact PySem.W.kia_one PySem.W.kitx_str I.kIn True.intro e (fun z => nomatch z) h
  | flt y => obtain ⟨t, q⟩ := (show ∃ t, u = Value.float y t from rx); cases q; exact PySem.W.kia_one PySem.W.kitx_float I.kIn True.intro e (fun z => nomatch z) h
  | @lst a xs ea =>
    cases (show u = Value.ref a from rx)
    obtain ⟨_, _, n, _, h1⟩ := (show ObjOk X.prog X.w H s.heap a (.lst xs) from I.hok a _ ea)
    exact PySem.W.kia_one PySem.W.kitx_list I.kIn ⟨_, h1, rfl⟩ e (fun z => nomatch z) h
  | @frz a ob xs ea =>
    cases (show u = Value.ref a from rx)
    obtain ⟨_, _, _, n, _, h1⟩ := (show ObjOk X.prog X.w H s.heap a (.frz ob (.lst xs)) from I.hok a _ ea)
    exact PySem.W.kia_one PySem.W.kitx_list I.kIn ⟨_, h1, rfl⟩ e (fun z => nomatch z) h
  | @tup a xs ea =>
    cases (show u = Value.ref a from rx)
    obtain ⟨_, _, _, p⟩ := (show ObjOk X.prog X.w H s.heap a (.tup xs) from I.hok a _ ea)
    obtain ⟨o, h1, h2, _⟩ := p.1
    exact PySem.W.kia_one PySem.W.kitx_tuple I.kIn ⟨o, h1, h2⟩ e (fun z => nomatch z) h
  | @dK a kvs ea =>
    cases (show u = Value.ref a from rx)
    obtain ⟨_, _, vs, _, p⟩ := (show ObjOk X.prog X.w H s.heap a (.dK kvs) from I.hok a _ ea)
    obtain ⟨o, es, ep, h1, h2, _⟩ := p
    exact PySem.W.kia_one PySem.W.kitx_dict I.kIn ⟨o, h1, h2.1⟩ e (fun z => nomatch z) h
  | @dT a kvs ea =>
    cases (show u = Value.ref a from rx)
    obtain ⟨_, _, xs, _, o, es, ep, h1, h2, _⟩ := (show ObjOk X.prog X.w H s.heap a (.dT kvs) from I.hok a _ ea)
    exact PySem.W.kia_one PySem.W.kitx_dict I.kIn ⟨o, h1, h2.1⟩ e (fun z => nomatch z) h
  | @ins a C dx fs ea cl ha hn htk hm =>
    cases (show u = Value.ref a from rx)
    obtain ⟨mA, O, _⟩ := ins_get I.hok ea
    obtain ⟨od, J, _⟩ := O.look
    exact PySem.W.kia_one (PySem.W.kitx_own (cl.get _) cl.hd ha hn htk hm) I.kIn J e (fun z => nomatch z) h
end
end L2
namespace L2
open PySem PySem.Spec PyProof.Rows
structure Room (k : Nat) (A : Around) : Prop where
  hd : A.handled = none
  dp : A.depth + 3 * k + 5 < recursionLimit
  un : A.units + 16 * k + 200 < cLine
theorem Room.mono {j k : Nat} {A : Around} (r : Room k A) (h : j ≤ k) : Room j A := ⟨r.hd, by have := r.dp; omega, by have := r.un; omega⟩
theorem Room.deeper {k : Nat} {A : Around} (r : Room (k + 1) A) (env : Env) : Room k (A.deeper env) :=
  ⟨r.hd, by have := r.dp; show A.depth + 1 + 3 * k + 5 < _; omega, by have := r.un; show A.units + 3 + 16 * k + 200 < _; omega⟩
theorem Room.in1 {k : Nat} {A : Around} (r : Room (k + 1) A) : Room k A.in1 :=
  ⟨r.hd, by have := r.dp; show A.depth + 3 * k + 5 < _; omega, by have := r.un; show A.units + 1 + 16 * k + 200 < _; omega⟩
theorem make_depth {A : Around} {C : Addr} {us : List Value} {kw : List (Str × Value)} : (A.under (.builtin "type.__call__" ⟨.ref C :: us, kw⟩)).depth = A.depth + 1 := by
  first | rfl | simp [Around.under, Code.weight, Code.isCreation, Code.isGuard, Code.isCaller, Code.frames, Code.isFrame, guardIds]
theorem make_units {A : Around} {C : Addr} {us : List Value} {kw : List (Str × Value)} : (A.under (.builtin "type.__call__" ⟨.ref C :: us, kw⟩)).units = A.units + 1 := by
  first | rfl | simp [Around.under, Code.cUnits, Code.frames, Code.isFrame]
theorem Room.make {k : Nat} {A : Around} (r : Room (k + 1) A) (C : Addr) (us : List Value) (kw : List (Str × Value)) : Room k (A.under (.builtin "type.__call__" ⟨.ref C :: us, kw⟩)) :=
  ⟨r.hd, by have := r.dp; rw [make_depth]; omega, by have := r.un; rw [make_units]; omega⟩
theorem Room.depth {k : Nat} {A : Around} (r : Room k A) : A.depth < recursionLimit := by have := r.dp; omega
theorem Room.units {k : Nat} {A : Around} (r : Room k A) : A.units + 64 < cLine := by have := r.un; omega
def tNil : TA := fun _ H Q => Q [] H
def tCons (ta : TE) (tr : TA) : TA := fun σ H Q => ta σ H fun x H1 => tr σ H1 fun xs H2 => Q (x :: xs) H2
section
variable {X : Cx} {e : Expr} {es : List Expr} {te : TE} {t : TA} {pos : Pos}
theorem pa_nil : PA X [] tNil := fun _ _ _ _ H Q I h => Calls.spliced_nil ⟨[], H, I, .nil, h⟩
theorem pa_cons (ha : PE X e te) (hr : PA X es t) (hs : starEach (e :: es) X.env = (false, eval e X.env) :: starEach es X.env := by rfl) : PA X (e :: es) (tCons te t) := by
  intro pos pins s σ H Q I h
  rw [hs]
  show wpAny _ _ (spliced ((false, eval e X.env) :: backTo pos (starEach es X.env))) _ _ s
  refine Calls.spliced_cons (thn (ha pins s σ H _ I h) fun u s1 ⟨x, H1, I1, r1, q1⟩ => ?_)
  exact thn (hr pos pins s1 σ H1 _ I1 q1) fun us s2 ⟨xs, H2, I2, r2, q2⟩ => ⟨x :: xs, H2, I2, .cons r1 r2, q2⟩
def tTup (t : TA) : TE := fun σ H Q => t σ H fun xs H1 => xs.length ≤ sizeLine ∧ ∀ p, H1 p = none → Q (.ref p) (upd H1 p (.tup xs))
def tLst (t : TA) : TE := fun σ H Q => t σ H fun xs H1 => xs.length ≤ sizeLine ∧ ∀ p, H1 p = none → Q (.ref p) (upd H1 p (.lst xs))
theorem pe_tup {x1} (h : PA X es t) : PE X (.Tuple es x1 pos) (tTup t) := by
  intro pins s σ H Q I hq
  refine wpAny_Tuple_spliced (thn (h pos pins s σ H _ I hq) fun us s1 ⟨xs, H1, I1, r, z, q⟩ => ⟨by rw [← r.length]; exact z, ?_⟩)
  have hf : H1 s1.heap.objs.size = none := I1.hok.fresh (Nat.le_refl _)
  refine ⟨.ref s1.heap.objs.size, upd H1 s1.heap.objs.size (.tup xs), I1.laid (t' := s1.toks) (fun b u e => Heap.get?_push_of_some _ e) (Nat.le_refl _) ?_, rfl, q _ hf⟩
  exact ⟨z, us, r, ⟨⟨_, Heap.get?_push_size _ rfl, rfl, _, rfl⟩, _, Heap.get?_push_size _ rfl, rfl⟩⟩
theorem pe_lst (h : PA X es t) : PE X (.List es pos) (tLst t) := by
  intro pins s σ H Q I hq
  refine wpAny_List_spliced (thn (h pos pins s σ H _ I hq) fun us s1 ⟨xs, H1, I1, r, z, q⟩ => ⟨by rw [← r.length]; exact z, ?_⟩)
  have hf : H1 s1.heap.objs.size = none := I1.hok.fresh (Nat.le_refl _)
  refine ⟨.ref s1.heap.objs.size, upd H1 s1.heap.objs.size (.lst xs), I1.laid (t' := s1.toks) (fun b u e => Heap.get?_push_of_some _ e) (Nat.le_refl _) ?_, rfl, q _ hf⟩
  exact ⟨z, us, 0, r, Heap.get?_push_size _ rfl⟩
end
abbrev Sp := List V → Hp → VK → XK → Prop
abbrev CXT := List Env → Hp → Shared → XK → Value → Shared → Prop
structure Env0 (P : Program) (w : World) (K : PySem.W.Frag) (mg : Str → Option Value) (base : Heap) (A : Around) (outer : List Env) (s : Shared) (H : Hp) : Prop where
  frames : A.frames = some outer
  mod : Mod K mg base
  bs : ∀ b o, base.get? b = some o → s.heap.get? b = some o ∧ H b = none
  bsz : base.objs.size ≤ s.heap.objs.size
  funs : s.heap.FunFrames base outer
  frf : ∀ b ∈ frs outer, H b = none
  hok : HOk P w H s.heap
  bare : AllBare s.gens
def CE (outer : List Env) (P : Program) (w : World) (H : Hp) (s : Shared) (Q : VK) (u : Value) (s' : Shared) : Prop :=
  ∃ v H', s'.os = s.os ∧ AllBare s'.gens ∧ Un (frs outer) [] H H' s.heap s'.heap ∧ HOk P w H' s'.heap ∧ RelV v u ∧ Q v H'
def CR (CX : CXT) (outer : List Env) (P : Program) (w : World) (H : Hp) (s : Shared) (Q : VK) (E : XK) (r : Result) (s' : Shared) : Prop :=
  match r with
  | .ok (.ret u) => CE outer P w H s Q u s'
  | .ok _ => False
  | .error e => CX outer H s E e s'
structure FnOk (P : Program) (w : World) (K : PySem.W.Frag) (mg : Str → Option Value) (base : Heap) (CX : CXT) (k : Nat) (f : Addr) (fd : FuncData) (ps : List Str) (sp : Sp) : Prop where
  len : ∀ vs H Q E, sp vs H Q E → vs.length = ps.length
  run : ∀ (A : Around) (outer : List Env) (s : Shared) (H : Hp) (args : Args) (us : List Value) (vs : List V) (Q : VK) (E : XK), Room k A → Env0 P w K mg base A outer s H → BindsTo s fd args (ps.zip us) → Vals vs us → sp vs H Q E →
    codeAny (model P w) A (.call (.ref f) args) (CR CX outer P w H s Q E) s
theorem FnOk.mono {P : Program} {w : World} {K : PySem.W.Frag} {mg : Str → Option Value} {base : Heap} {CX : CXT} {j k : Nat} {f : Addr} {fd : FuncData} {ps : List Str} {sp : Sp} (F : FnOk P w K mg base CX j f fd ps sp) (h : j ≤ k) :
    FnOk P w K mg base CX k f fd ps sp := ⟨F.len, fun A outer s H args us vs Q E hr => F.run A outer s H args us vs Q E (hr.mono h)⟩
theorem FnOk.imp {P : Program} {w : World} {K : PySem.W.Frag} {mg : Str → Option Value} {base : Heap} {CX : CXT} {k : Nat} {f : Addr} {fd : FuncData} {ps : List Str} {sp sp' : Sp} (F : FnOk P w K mg base CX k f fd ps sp)
    (h : ∀ vs H Q E, sp' vs H Q E → sp vs H Q E) : FnOk P w K mg base CX k f fd ps sp' :=
  ⟨fun vs H Q E q => F.len vs H Q E (h _ _ _ _ q), fun A outer s H args us vs Q E hr he hb hv hs => F.run A outer s H args us vs Q E hr he hb hv (h _ _ _ _ hs)⟩
theorem Env0.make {P : Program} {w : World} {K : PySem.W.Frag} {mg : Str → Option Value} {base : Heap} {A : Around} {outer : List Env} {s : Shared} {H : Hp} (e : Env0 P w K mg base A outer s H) (C : Addr) (us : List Value) (kw : List (Str × Value)) :
    Env0 P w K mg base (A.under (.builtin "type.__call__" ⟨.ref C :: us, kw⟩)) outer s H := ⟨by first | exact e.frames | (simpa [Around.under, Code.envs, Code.isFrame, pushEnvs] using e.frames), e.mod, e.bs, e.bsz, e.funs, e.frf, e.hok, e.bare⟩
theorem Env0.in1 {P : Program} {w : World} {K : PySem.W.Frag} {mg : Str → Option Value} {base : Heap} {A : Around} {outer : List Env} {s : Shared} {H : Hp} (e : Env0 P w K mg base A outer s H) :
    Env0 P w K mg base A.in1 outer s H := ⟨e.frames, e.mod, e.bs, e.bsz, e.funs, e.frf, e.hok, e.bare⟩
section
variable {X : Cx} {pins : List (Addr × Obj)} {σ : St} {H : Hp} {s s' : Shared}
theorem Inv.env0 (I : Inv X pins σ H s) : Env0 X.prog X.w X.K X.mg X.base X.A X.stack s H :=
  ⟨I.ok.frames, I.ok.mod, I.bs, Nat.le_trans I.ok.bsz I.sz, I.stack, I.stkFree, I.hok, I.bare⟩
theorem Inv.after {Q : VK} {u : Value} (I : Inv X pins σ H s) (h : CE X.stack X.prog X.w H s Q u s') : EP X pins σ Q u s' := by
  obtain ⟨v, H', os, bare, un, hok, r, q⟩ := h
  obtain ⟨hh, g, d, t, os'⟩ := s'
  obtain rfl : os' = s.os := os
  exact ⟨v, H', I.call (h' := hh) (g' := g) (d' := d) (t' := t) (ch := []) un hok bare (fun b z => absurd z (by simp)), r, q⟩
end
def tCall (sp : Sp) (dvs : List V) (E : XK) (t : TA) : TE := fun σ H Q => t σ H fun vs H1 => sp (vs ++ dvs) H1 Q E
def Binds (K : PySem.W.Frag) (fd : FuncData) (ps : List Str) (ds : List Value) : Prop :=
  ∀ (s : Shared) (us : List Value), K.In s.heap → (us ++ ds).length = ps.length → BindsTo s fd ⟨us, []⟩ (ps.zip (us ++ ds))
theorem Binds.all {K : PySem.W.Frag} {fd : FuncData} {ps : List Str} (h : ∀ us : List Value, us.length = ps.length → bindArgs fd ⟨us, []⟩ = pure (ps.zip us)) : Binds K fd ps [] := fun s us _ hl => by
  rw [List.append_nil] at hl ⊢
  exact .of_eq (h us hl)
def Passes (CX : CXT) (X : Cx) (E : XK) : Prop := ∀ (pins : List (Addr × Obj)) (σ : St) (H : Hp) (s : Shared) (e : Value) (s' : Shared), Inv X pins σ H s → CX X.stack H s E e s' → X.xe e s'
section
variable {X : Cx} {CX : CXT} {k : Nat} {f C : Addr} {fd : FuncData} {ps : List Str} {sp : Sp} {dvs : List V} {ds : List Value} {E : XK} {x m : Str} {p pos apos : Pos} {e o : Expr} {es : List Expr} {ta : TE} {t : TA}
theorem run_fn {pins : List (Addr × Obj)} {σ : St} {H : Hp} {s : Shared} {Q : VK} {us : List Value} {vs : List V} (F : FnOk X.prog X.w X.K X.mg X.base CX k f fd ps sp) (hr : Room k X.A) (hb : Binds X.K fd ps ds) (hd : Vals dvs ds) (hx : Passes CX X E)
    (I : Inv X pins σ H s) (r : Vals vs us) (h : sp (vs ++ dvs) H Q E) : wpAny (model X.prog X.w) X.A (call (.ref f) us) (EP X pins σ Q) X.xe s := by
  have r2 : Vals (vs ++ dvs) (us ++ ds) := r.append hd
  have hl : (us ++ ds).length = ps.length := by rw [← r2.length]; exact F.len _ _ _ _ h
  refine wpAny_call (codeAny_mono (F.run X.A X.stack s H ⟨us, []⟩ (us ++ ds) (vs ++ dvs) Q E hr I.env0 (hb s us I.kIn hl) r2 h) fun r s' hq => ?_)
  cases r with
  | error e => exact hx pins σ H s e s' I hq
  | ok fl =>
    cases fl with
    | ret u => exact I.after hq
    | next => exact False.elim hq
    | brk => exact False.elim hq
    | cont => exact False.elim hq
theorem pe_call (F : FnOk X.prog X.w X.K X.mg X.base CX k f fd ps sp) (hr : Room k X.A) (hg : Gl X x) (hm : X.mg x = some (.ref f)) (hk : PySem.W.keepIn X.K (.ref f) = true) (hb : Binds X.K fd ps ds) (hd : Vals dvs ds) (hx : Passes CX X E)
    (ha : PA X (e :: es) t) (hdb : (x == ("__debug__" : Str)) = false := by decide) (he : starEach (e :: es) X.env = (false, eval e X.env) :: starEach es X.env := by rfl) (hpl : (backTo pos (starEach es X.env)).any (·.1) = false := by rfl) :
    PE X (.Call (.Name x p) (e :: es) [] pos) (tCall sp dvs E t) := by
  intro pins s σ H Q I h
  refine wpAny_Call_Name_kw (ld_glob I hg hm ?_ hdb)
  refine PySem.W.callWith_K (h₀ := X.base) I.ok.mod.kin hk (thn (ha pos pins s σ H _ I h) fun us s1 ⟨vs, H1, I1, r, q⟩ => ⟨I1.kIn, ?_⟩) he hpl
  exact run_fn F hr hb hd hx I1 r q
end
section
variable {X : Cx} {CX : CXT} {k : Nat} {f C : Addr} {fd : FuncData} {ps ks : List Str} {sp : Sp} {E : XK} {x m : Str} {p pos apos kpos : Pos} {e o : Expr} {es : List Expr} {kws : List Keyword} {te ta : TE} {t tk : TA} {nm : Option Str}
variable {g : List Value → List Value → List Value} {gV : List V → List V → List V}
end
structure FnScope (N P : List Str) (sc : Scope) : Prop where
  kind : sc.kind = .function
  co : sc.isCoroutine = false
  gen : sc.isGenerator = false
  nd : N.Nodup
  pre : N.take P.length = P
  par : ∀ x ∈ P, sc.names.lookup x = some .local ∨ sc.names.lookup x = some .cell
  nofree : ∀ y ∈ sc.names, y.2 ≠ .free
theorem bindL_out {kindOf : Str → Option NameKind} {x : Str} : ∀ {binds : List (Str × Value)} {m : Str → Option Value}, (∀ v, (x, v) ∉ binds) → bindL kindOf binds m x = m x
  | [], _, _ => rfl
  | (n, v) :: r, m, h => by
    unfold bindL
    rw [bindL_out fun w hw => h w (List.mem_cons_of_mem _ hw)]
    split
    · have : x ≠ n := by rintro rfl; exact h v List.mem_cons_self
      simp [this]
    · rfl
theorem bindC_out {kindOf : Str → Option NameKind} {x : Str} : ∀ {binds : List (Str × Value)} {m : Str → Option Value}, (∀ v, (x, v) ∉ binds) → bindC kindOf binds m x = m x
  | [], _, _ => rfl
  | (n, v) :: r, m, h => by
    unfold bindC
    rw [bindC_out fun w hw => h w (List.mem_cons_of_mem _ hw)]
    split
    · rfl
    · have : x ≠ n := by rintro rfl; exact h v List.mem_cons_self
      simp [this]
theorem bindL_get {kindOf : Str → Option NameKind} {x : Str} {v : Value} : ∀ {P : List Str} {vs : List Value} {i : Nat} {m : Str → Option Value}, P.Nodup → P[i]? = some x → vs[i]? = some v → kindOf x = some .local →
    bindL kindOf (P.zip vs) m x = some v
  | [], _, _, _, _, h, _, _ => by simp at h
  | _ :: _, [], _, _, _, _, h, _ => by simp at h
  | p :: P, w :: vs, 0, m, nd, h1, h2, hk => by
    simp at h1 h2; subst h1; subst h2
    show bindL kindOf ((p, w) :: P.zip vs) m p = _
    unfold bindL
    rw [bindL_out fun v hv => (List.nodup_cons.mp nd).1 (List.of_mem_zip hv).1, if_pos hk]
    simp
  | p :: P, w :: vs, i + 1, m, nd, h1, h2, hk => by
    show bindL kindOf ((p, w) :: P.zip vs) m x = _
    unfold bindL
    exact bindL_get (i := i) (List.nodup_cons.mp nd).2 (by simpa using h1) (by simpa using h2) hk
theorem bindC_get {kindOf : Str → Option NameKind} {x : Str} {v : Value} : ∀ {P : List Str} {vs : List Value} {i : Nat} {m : Str → Option Value}, P.Nodup → P[i]? = some x → vs[i]? = some v → kindOf x ≠ some .local →
    bindC kindOf (P.zip vs) m x = some v
  | [], _, _, _, _, h, _, _ => by simp at h
  | _ :: _, [], _, _, _, _, h, _ => by simp at h
  | p :: P, w :: vs, 0, m, nd, h1, h2, hk => by
    simp at h1 h2; subst h1; subst h2
    show bindC kindOf ((p, w) :: P.zip vs) m p = _
    unfold bindC
    rw [bindC_out fun v hv => (List.nodup_cons.mp nd).1 (List.of_mem_zip hv).1, if_neg hk]
    simp
  | p :: P, w :: vs, i + 1, m, nd, h1, h2, hk => by
    show bindC kindOf ((p, w) :: P.zip vs) m x = _
    unfold bindC
    exact bindC_get (i := i) (List.nodup_cons.mp nd).2 (by simpa using h1) (by simpa using h2) hk
def start (N : List Str) (vs : List V) : St := vs.map some ++ List.replicate (N.length - vs.length) none
def cxOf (CX : CXT) (P : Program) (w : World) (K : PySem.W.Frag) (mg : Str → Option Value) (base : Heap) (N : List Str) (qual : Str) (scope : Scope) (f : Addr) (cd : Value) (A : Around) (outer : List Env) (s : Shared) (H : Hp) (E : XK) : Cx where
  prog := P
  w := w
  K := K
  mg := mg
  base := base
  A := A.deeper (envOfC qual scope s.heap.objs.size f cd)
  N := N
  s₀ := s
  H₀ := H
  env := envOfC qual scope s.heap.objs.size f cd
  outer := outer
  stack := envOfC qual scope s.heap.objs.size f cd :: outer
  ex := []
  calm := true
  fn := fun _ => true
  pn := []
  xe := fun e s' => wpAny (model P w) (A.deeper (envOfC qual scope s.heap.objs.size f cd)) (leaving (envOfC qual scope s.heap.objs.size f cd) e) (fun _ s'' => CX outer H s E e s'') (fun e' s'' => CX outer H s E e' s'') s'
theorem cell_has {sc : Scope} {n : Nat} {x : Str} (h : sc.names.lookup x = some .cell) : ∃ c, (cellsFrom n sc.names []).lookup x = some c := by
  have q := PySem.W.cellsFrom_some sc.names n [] (.inl h)
  exact Option.isSome_iff_exists.mp q
theorem inv_start {CX : CXT} {P : Program} {w : World} {K : PySem.W.Frag} {mg : Str → Option Value} {base : Heap} {N ps : List Str} {qual : Str} {scope : Scope} {f : Addr} {cd : Value} {A : Around} {outer : List Env} {s s1 : Shared} {H : Hp} {E : XK} {us : List Value} {vs : List V}
    (S : FnScope N ps scope) (hd : A.handled = none) (e0 : Env0 P w K mg base A outer s H) (hl : vs.length = ps.length) (r : Vals vs us)
    (x : InCallC s s.heap.objs.size (bindL (envOfC qual scope s.heap.objs.size f cd).kindOf (ps.zip us) fun _ => none) (cellsFrom (s.heap.objs.size + 1) scope.names []) (bindC (envOfC qual scope s.heap.objs.size f cd).kindOf (ps.zip us) fun _ => none) s1) :
    Inv (cxOf CX P w K mg base N qual scope f cd A outer s H E) [] (start N vs) H s1 := by
  have hpl : ps.length ≤ N.length := by have := congrArg List.length S.pre; rw [List.length_take] at this; omega
  obtain ⟨h1, tk, rfl, hk⟩ := x.done
  have noA : ∀ b : Addr, b ∉ (cxOf CX P w K mg base N qual scope f cd A outer s H E).ex := fun b z => absurd (show b ∈ ([] : List Addr) from z) (by simp)
  refine ⟨⟨e0.mod, S.kind, rfl, rfl, Nat.le_refl _, fun y z c h1 h2 => ?_, fun y hy => ?_, fun y c _ h => ?_, fun _ => hd, Around.frames_deeper e0.frames, .inr ⟨rfl, rfl⟩, fun b z => absurd z (noA b), e0.bs, e0.bsz, fun b _ _ => noA b, fun b z => absurd z (noA b), e0.funs, e0.frf⟩,
    rfl, e0.bare, Un.kept hk, ⟨_, x.toInCall.ns, fun i y v h1 h2 h3 => ?_⟩, fun y c h => ⟨_, x.cell y c h⟩, e0.hok.fresh (Nat.le_refl _), fun y c h => ?_, fun p hp => absurd (show p ∈ ([] : List (Addr × Obj)) from hp) (by simp), e0.hok.kept hk, ?_⟩
  · exact name_of_addr x.apart (PySem.mem_of_lookup h1) (PySem.mem_of_lookup h2)
  · have hy : scope.names.lookup y = some .cell ∨ scope.names.lookup y = some .free := hy
    rcases hy with hy | hy
    · exact cell_has hy
    · exact absurd rfl (S.nofree _ (PySem.mem_of_lookup hy))
  · exact Nat.le_of_lt (x.above y c (PySem.mem_of_lookup h))
  · have hi : i < vs.length := by
      unfold start at h2
      by_cases hi : i < vs.length
      · exact hi
      · rw [List.getElem?_append_right (by simpa using hi)] at h2
        rw [List.getElem?_replicate] at h2
        split at h2 <;> cases h2
    have ha : vs[i]? = some v := by
      unfold start at h2
      rw [List.getElem?_append_left (by simpa using hi), List.getElem?_map] at h2
      cases e : vs[i]? with
      | none => rw [e] at h2; cases h2
      | some a => rw [e] at h2; cases h2; rfl
    obtain ⟨u, hu, rv⟩ := r.get ha
    have hp : ps[i]? = some y := by
      rw [← S.pre, List.getElem?_take_of_lt (by omega)]; exact h1
    have ndP : ps.Nodup := by rw [← S.pre]; exact S.nd.sublist (List.take_sublist _ _)
    refine ⟨u, rv, ?_⟩
    rcases S.par y (List.mem_of_getElem? hp) with k | k
    · exact .inl ⟨k, bindL_get ndP hp hu k⟩
    · obtain ⟨c, e⟩ := cell_has (n := s.heap.objs.size + 1) k
      refine .inr ⟨.inl k, c, e, ?_⟩
      have q := x.cell y c e
      rw [bindC_get ndP hp hu (by show scope.names.lookup y ≠ _; rw [k]; decide)] at q
      exact q
  · exact e0.hok.fresh (Nat.le_of_lt (x.above y c (PySem.mem_of_lookup h)))
  · unfold start
    show _ = N.length
    rw [List.length_append, List.length_map, List.length_replicate]
    omega
theorem fn_of {CX : CXT} {P : Program} {w : World} {K : PySem.W.Frag} {mg : Str → Option Value} {base : Heap} {k : Nat} {f : Addr} {name qual : Str} {params : Arguments} {body : List Stmt} {scope : Scope} {dV kV doc pm cdv ct oc : Value} {an od : Option Addr}
    {osl : Array (Option Value)} {N ps : List Str} {sp : Sp} (lk : K.lookup f = some ⟨oc, od, .func (PySem.W.fnOf name qual params body scope dV kV doc pm an cdv ct), osl⟩) (hcd : PySem.W.codeIn K cdv qual = true) (S : FnScope N ps scope)
    (len : ∀ vs H Q E, sp vs H Q E → vs.length = ps.length)
    (hbody : ∀ (A : Around) (outer : List Env) (s : Shared) (H : Hp) (vs : List V) (Q : VK) (E : XK), Room k (A.deeper (envOfC qual scope s.heap.objs.size f cdv)) → sp vs H Q E →
      ∃ t, PSs (cxOf CX P w K mg base N qual scope f cdv A outer s H E) body t ∧ t { nx := fun _ H' => Q .non H', rt := Q } (start N vs) H) :
    FnOk P w K mg base CX (k + 1) f (PySem.W.fnOf name qual params body scope dV kV doc pm an cdv ct) ps sp := by
  refine ⟨len, fun A outer s H args us vs Q E hr e0 hb r hsp => ?_⟩
  have hl := len _ _ _ _ hsp
  have KX : K.In s.heap := e0.mod.kin.keeps fun b o e => (e0.bs b o e).1
  have lim : s.heap.NoLimit := e0.mod.nolimit.keeps fun b o e => (e0.bs b o e).1
  have hkind : ∀ y ∈ ps.zip us, scope.names.lookup y.1 = some .local ∨ (scope.names.lookup y.1 = some .cell ∧ ((cellsFrom (s.heap.objs.size + 1) scope.names []).lookup y.1).isSome = true) := fun ⟨n, v⟩ hy => by
    rcases S.par n (List.of_mem_zip hy).1 with q | q
    · exact .inl q
    · exact .inr ⟨q, PySem.W.cellsFrom_some _ _ _ (.inl q)⟩
  refine codeAny_call_function hr.depth (KX _ _ lk) rfl S.co S.gen rfl (PySem.W.codeRec_of KX hcd) (hb _ _ _ _ ?_)
  refine wpAny_newFunctionEnv_cells S.kind hkind fun env he s1 x => ?_
  subst he
  refine ⟨lim.keeps x.toInCall.keep, codeAny_func ?_⟩
  obtain ⟨t, ht, hq⟩ := hbody A outer s H vs Q E (hr.deeper _) hsp
  have I : Inv (cxOf CX P w K mg base N qual scope f cdv A outer s H E) [] (start N vs) H s1 := inv_start S hr.hd e0 hl r x
  refine wpAny_mono (ht [] s1 (start N vs) H _ I hq) (fun fl s' hs => ?_) fun e s' hs => hs
  have fin : ∀ {σ' : St} {H' : Hp} {v : V} {u : Value}, Inv (cxOf CX P w K mg base N qual scope f cdv A outer s H E) [] σ' H' s' → RelV v u → Q v H' → CE outer P w H s Q u s' :=
    fun {σ' H' v u} J rv q => ⟨v, H', J.os, J.bare, J.base, J.hok, rv, q⟩
  cases fl with
  | ret u =>
    obtain ⟨v, σ', H', J, rv, q⟩ := hs
    exact fin J rv q
  | next =>
    obtain ⟨σ', H', J, q⟩ := hs
    exact fin (v := V.non) (u := Value.none) J rfl q
  | brk =>
    obtain ⟨_, _, _, q⟩ := hs
    exact False.elim q
  | cont =>
    obtain ⟨_, _, _, q⟩ := hs
    exact False.elim q
end L2
namespace L2
open PySem PySem.Spec PyProof.Rows
section
variable {X : Cx} {x : Str} {p pos : Pos} {e : Expr} {es : List Expr} {t : TA} {id T : String} {r : List V → Hp → VK → Prop}
def tCB (r : List V → Hp → VK → Prop) (t : TA) : TE := fun σ H Q => t σ H fun vs H1 => r vs H1 Q
theorem pe_callB (hc : CallR X (.builtin id) r) (hg : Gl X x) (hm : X.mg x = none) (hv : bootBuiltins x = some (.builtin id)) (ha : PA X (e :: es) t) (hn : x ≠ "__name__" := by decide) (hdb : (x == ("__debug__" : Str)) = false := by decide)
    (he : starEach (e :: es) X.env = (false, eval e X.env) :: starEach es X.env := by rfl) (hpl : (backTo pos (starEach es X.env)).any (·.1) = false := by rfl) : PE X (.Call (.Name x p) (e :: es) [] pos) (tCB r t) := by
  intro pins s σ H Q I h
  refine wpAny_Call_Name_kw (ld_blt I hg hm hv ?_ hn hdb)
  exact PyProof.Rows.callWith_builtin1 (thn (ha pos pins s σ H _ I h) fun us s1 ⟨vs, H1, I1, r1, q1⟩ => hc pins s1 σ H1 vs us Q I1 r1 q1) he hpl
theorem pe_callTy (hc : CallR X (.type T) r) (hg : Gl X x) (hm : X.mg x = none) (hv : bootBuiltins x = some (.type T)) (ha : PA X (e :: es) t) (hn : x ≠ "__name__" := by decide) (hdb : (x == ("__debug__" : Str)) = false := by decide)
    (he : starEach (e :: es) X.env = (false, eval e X.env) :: starEach es X.env := by rfl) (hpl : (backTo pos (starEach es X.env)).any (·.1) = false := by rfl) : PE X (.Call (.Name x p) (e :: es) [] pos) (tCB r t) := by
  intro pins s σ H Q I h
  refine wpAny_Call_Name_kw (ld_blt I hg hm hv ?_ hn hdb)
  exact PyProof.Rows.callWith_type1 (thn (ha pos pins s σ H _ I h) fun us s1 ⟨vs, H1, I1, r1, q1⟩ => hc pins s1 σ H1 vs us Q I1 r1 q1) he hpl
end
end L2
namespace HT
open PySem PyProof.Rows
section
open PySem.SeqAt
open PySem.AutoSeq1 (wpAny_loadPart')
open PySem.MeetsSeq PySem.MeetsSeq2 PySem.MeetsSeq3
end
section
variable {prog : Program} {w : World} {A : Around} {E : Value → Shared → Prop} {s : Shared}
theorem cat_tup {t b : Addr} {vs ws : List Value} {Q : Value → Shared → Prop} (ht : IsTup s.heap t vs.toArray) (hb : IsTup s.heap b ws.toArray) (hv : vs ≠ [])
    (h1 : ws = [] → Q (.ref t) s) (h2 : ws ≠ [] → Q (.ref s.heap.objs.size) { s with heap := s.heap.push { cls := .type "tuple", data := .seq (vs ++ ws).toArray } })
    (hsz : vs.length + ws.length ≤ sizeLine) : wpAny (model prog w) A (binaryOp .Add (.ref t) (.ref b)) Q E s := by
  obtain ⟨⟨cls, dd, data, sl⟩, ho, hc, n, hd⟩ := id ht
  obtain ⟨⟨cls2, dd2, data2, sl2⟩, ho2, hc2, n2, hd2⟩ := id hb
  simp only at hc hd hc2 hd2
  subst hc hd hc2 hd2
  have e : vs.toArray ++ ws.toArray = (vs ++ ws).toArray := by simp
  by_cases hw : ws = []
  · exact concat_meets ⟨_, ho, rfl⟩ ⟨_, ho2, rfl⟩ noFill_tuple_add seq_tuple_add PySem.F.slot_tuple_add PySem.F.entry_tuple_add (PySem.F.args_tuple_add_2 _ _)
      (tuple_addW1 t b vs.toArray ws.toArray n n2 dd dd2 sl sl2 (by simpa using hv) (by simp [hw])) ⟨ho, ho2, h1 hw⟩
  · refine concat_meets ⟨_, ho, rfl⟩ ⟨_, ho2, rfl⟩ noFill_tuple_add seq_tuple_add PySem.F.slot_tuple_add PySem.F.entry_tuple_add (PySem.F.args_tuple_add_2 _ _)
      (tuple_addW2 t b vs.toArray ws.toArray n n2 dd dd2 sl sl2 (by simpa using hv) (by simpa using hw) (by rw [List.size_toArray, List.size_toArray]; exact hsz)) ⟨ho, ho2, ?_⟩
    rw [e]
    exact h2 hw
def sIx (n d : Nat) : Option Int → Nat
  | none => d
  | some v => if v < 0 then (v + (n : Int)).toNat else min v.toNat n
theorem sIx_none (n d : Nat) : sIx n d none = d := rfl
theorem sIx_nat (n d k : Nat) : sIx n d (some (k : Int)) = min k n := by
  show (if (k : Int) < 0 then ((k : Int) + (n : Int)).toNat else min (k : Int).toNat n) = min k n
  rw [if_neg (by omega), Int.toNat_natCast]
theorem sIx_le (n d : Nat) (hd : d ≤ n) (o : Option Int) : sIx n d o ≤ n := by
  cases o with
  | none => exact hd
  | some v =>
    show (if v < 0 then (v + (n : Int)).toNat else min v.toNat n) ≤ n
    by_cases hv : v < 0
    · rw [if_pos hv]; omega
    · rw [if_neg hv]; exact Nat.min_le_right _ _
theorem clip_eq (v : Int) (n d : Nat) : (if v < 0 then max (v + (n : Int)) 0 else min v (n : Int)) = ((sIx n d (some v) : Nat) : Int) := by
  show (if v < 0 then max (v + (n : Int)) 0 else min v (n : Int)) = (((if v < 0 then (v + (n : Int)).toNat else min v.toNat n) : Nat) : Int)
  by_cases hv : v < 0
  · simp only [if_pos hv]; omega
  · simp only [if_neg hv]; omega
theorem adjust_gen (lo hi : Option Int) (n : Nat) : Builtin.Slice.sliceAdjust lo hi 1 (n : Int) = (((sIx n 0 lo : Nat) : Int), ((sIx n n hi : Nat) : Int)) := by
  have h1 : ¬ ((1 : Int) < 0) := by omega
  unfold Builtin.Slice.sliceAdjust
  simp only [h1, if_false]
  refine Prod.ext ?_ ?_
  · cases lo with
    | none => rfl
    | some v => exact clip_eq v n 0
  · cases hi with
    | none => rfl
    | some v => exact clip_eq v n n
theorem places_gen (i j : Nat) : Builtin.Slice.slicePlaces (i : Int) (j : Int) 1 = j - i := by
  unfold Builtin.Slice.slicePlaces
  have h1 : (1 : Int) > 0 := by omega
  simp only [h1, if_true, Int.ediv_one]
  split <;> omega
theorem slicePart_ {v : Value} {o : Option Int} {Q : Option Int → Shared → Prop} (p : IsPart v o) (h : Q o s) : wpAny (model prog w) A (Builtin.Slice.slicePartIndex v) Q E s := by
  cases p with
  | none => exact slicePart_none h
  | int i t => exact slicePart_int h
theorem sliceApplied_gen {sl : Addr} {vl vu : Value} {lo hi : Option Int} {n : Nat} {Q : Int × Int × Nat → Shared → Prop} (hs : s.heap.IsSliceOf sl vl vu .none) (pl : IsPart vl lo) (pu : IsPart vu hi)
    (h : Q (((sIx n 0 lo : Nat) : Int), 1, sIx n n hi - sIx n 0 lo) s) : wpAny (model prog w) A (Builtin.Slice.sliceApplied (.ref sl) (pure (n : Int))) Q E s := by
  obtain ⟨os, hos, hcs, hds⟩ := id hs
  unfold Builtin.Slice.sliceApplied Builtin.Slice.sliceFields
  refine wpAny_bind (wpAny_bind (wpAny_field hos hds (x := vl) rfl (wpAny_bind (wpAny_field hos hds (x := vu) rfl (wpAny_bind (wpAny_field hos hds (x := .none) rfl (wpAny_pure ?_)))))))
  refine wpAny_bind (slicePart_none ?_)
  show wpAny _ _ (if ((1 : Int) == 0) = true then _ else _) _ _ s
  rw [if_neg (by decide)]
  refine wpAny_bind (slicePart_ pl (wpAny_bind (slicePart_ pu (wpAny_bind (wpAny_pure ?_)))))
  show wpAny _ _ (match Builtin.Slice.sliceAdjust lo hi 1 (n : Int) with | (lo, hi) => pure (lo, (1 : Int), Builtin.Slice.slicePlaces lo hi 1)) _ _ s
  rw [adjust_gen lo hi n]
  show wpAny _ _ (pure (((sIx n 0 lo : Nat) : Int), (1 : Int), Builtin.Slice.slicePlaces ((sIx n 0 lo : Nat) : Int) ((sIx n n hi : Nat) : Int) 1)) _ _ s
  rw [places_gen]
  exact wpAny_pure h
theorem pick_gen (xs : Array Value) (i k : Nat) : ((List.range k).filterMap fun (m : Nat) => xs[((i : Int) + (m : Int) * 1).toNat]?).toArray = ((xs.toList.drop i).take k).toArray := by
  have e : (fun (m : Nat) => xs[((i : Int) + (m : Int) * 1).toNat]?) = fun m => xs[i + m]? := by
    funext m
    have : ((i : Int) + (m : Int) * 1).toNat = i + m := by omega
    rw [this]
  rw [e]
  have := pick_run xs i k
  rw [List.filterMap_map] at this
  have e2 : ((fun x => xs[x]?) ∘ fun x => i + x) = fun m => xs[i + m]? := rfl
  rw [e2] at this
  rw [this]
theorem getItem_tuple_cut {t sl : Addr} {items : Array Value} {vl vu : Value} {lo hi : Option Int} {Q : Value → Shared → Prop} (ht : IsTup s.heap t items) (hs : s.heap.IsSliceOf sl vl vu .none) (pl : IsPart vl lo) (pu : IsPart vu hi)
    (hw : ¬ (sIx items.size 0 lo = 0 ∧ sIx items.size items.size hi = items.size))
    (h : Q (.ref s.heap.objs.size) { s with heap := s.heap.push { cls := .type "tuple", data := .seq ((items.toList.drop (sIx items.size 0 lo)).take (sIx items.size items.size hi - sIx items.size 0 lo)).toArray } })
    (hsz : items.size ≤ sizeLine) : wpAny (model prog w) A (getItem (.ref t) (.ref sl)) Q E s := by
  have htake : sizeOk (.seq ((items.toList.drop (sIx items.size 0 lo)).take (sIx items.size items.size hi - sIx items.size 0 lo)).toArray) := by
    show ((items.toList.drop (sIx items.size 0 lo)).take (sIx items.size items.size hi - sIx items.size 0 lo)).toArray.size ≤ sizeLine
    rw [List.size_toArray, List.length_take, List.length_drop, Array.length_toList]
    omega
  have hj : sIx items.size items.size hi ≤ items.size := sIx_le _ _ (Nat.le_refl _) hi
  obtain ⟨os, hos, hcs, hds⟩ := id hs
  have hTs : s.TypeIs (.ref sl) "slice" := ⟨os, hos, hcs⟩
  unfold getItem
  try with_reducible refine wpAny_holding ?_
  first | refine wpAny_bind (wpAny_pure ?_) | skip
  refine wpAny_bind (wpAny_sequenceKey ht.typeIs (by decide) ?_)
  refine wpAny_bind (wpAny_callSpecial?_slot (name := Str.ofString "__getitem__") ht.typeIs PyProof.Rows.slot_tuple_getitem
    (wpAny_call_entry PyProof.Rows.slot_tuple_getitem ht.typeIs entry_tuple_getitem ?_ (args_tuple_getitem _ _)))
  show wpAny _ _ (Builtin.Tuple.tupleItemsOf (.ref t) >>= _) _ _ s
  refine wpAny_bind (tupleItemsOf_ ht ?_)
  refine wpAny_bind (wpAny_typeOf hTs ?_)
  rw [if_pos (by decide)]
  refine wpAny_bind (sliceApplied_gen hs pl pu ?_)
  have hno : ¬ ((((sIx items.size 0 lo : Nat) : Int) == 0 && (1 : Int) == 1 && (sIx items.size items.size hi - sIx items.size 0 lo) == items.size) = true) := by
    intro q
    rw [Bool.and_eq_true, Bool.and_eq_true] at q
    have q1 : ((sIx items.size 0 lo : Nat) : Int) = 0 := eq_of_beq q.1.1
    have q2 : sIx items.size items.size hi - sIx items.size 0 lo = items.size := eq_of_beq q.2
    exact hw ⟨by omega, by omega⟩
  show wpAny _ _ (if (((sIx items.size 0 lo : Nat) : Int) == 0 && (1 : Int) == 1 && (sIx items.size items.size hi - sIx items.size 0 lo) == items.size) = true then _ else _) _ _ s
  rw [if_neg hno, pick_gen]
  first
    | exact wpAny_bind (m := Builtin.Tuple.tupleExact _) (wpAny_newObj_type (wpAny_pure ⟨_, rfl, wpAny_pure h⟩) htake)
    | exact wpAny_bind (m := Builtin.Tuple.tupleExact _) (wpAny_newObj_type (wpAny_bind (wpAny_pure (wpAny_pure ⟨_, rfl, wpAny_pure h⟩))) htake)
    | exact wpAny_bind (wpAny_bind (m := Builtin.Tuple.tupleExact _) (wpAny_newObj_type (wpAny_pure (wpAny_pure ⟨_, rfl, wpAny_pure h⟩)) htake))
    | exact wpAny_bind (wpAny_bind (m := Builtin.Tuple.tupleExact _) (wpAny_newObj_type (wpAny_pure ⟨_, rfl, wpAny_pure h⟩) htake))
end
end HT
namespace L2
open PySem PySem.Spec PyProof.Rows
abbrev TO := St → Hp → (Option Int → Hp → Prop) → Prop
def PO (X : Cx) (e : Option Expr) (t : TO) : Prop :=
  ∀ (pins : List (Addr × Obj)) (s : Shared) (σ : St) (H : Hp) (Q : Option Int → Hp → Prop), Inv X pins σ H s → t σ H Q →
    wpAny (model X.prog X.w) X.A (evalPart e X.env) (fun u s' => ∃ o H', Inv X pins σ H' s' ∧ IsPart u o ∧ Q o H') X.xe s
def tNoPart : TO := fun _ H Q => Q none H
def tPart (t : TE) : TO := fun σ H Q => t σ H fun x H1 => ∃ i, x = .int i ∧ Q (some i) H1
section
variable {X : Cx} {e : Expr} {te : TE} {lo hi : Option Expr} {tl th : TO} {pos p2 : Pos}
theorem po_none : PO X none tNoPart := by
  intro pins s σ H Q I h
  rw [evalPart_none]
  exact wpAny_pure ⟨none, H, I, .none, h⟩
theorem po_some (h : PE X e te) : PO X (some e) (tPart te) := by
  intro pins s σ H Q I hw
  rw [evalPart_some]
  refine thn (h pins s σ H _ I hw) fun u s1 ⟨x, H1, I1, r1, q1⟩ => ?_
  obtain ⟨i, rfl, q⟩ := q1
  obtain ⟨t, rfl⟩ := r1
  exact ⟨some i, H1, I1, .int i t, q⟩
def SlR (X : Cx) (r : V → Option Int → Option Int → Hp → VK → Prop) : Prop :=
  ∀ (pins : List (Addr × Obj)) (s : Shared) (σ : St) (H : Hp) (x : V) (v vl vu : Value) (lo hi : Option Int) (sl : Addr) (Q : VK), Inv X pins σ H s → RelV x v → s.heap.IsSliceOf sl vl vu .none → IsPart vl lo → IsPart vu hi → r x lo hi H Q →
    ∃ T id, typeLookup (.type T) "__getitem__" = pure (some (.builtin id)) ∧ s.TypeIs v T ∧ wpAny (model X.prog X.w) X.A (getItem v (.ref sl)) (EP X pins σ Q) X.xe s
theorem SlR.or {r r' : V → Option Int → Option Int → Hp → VK → Prop} (h : SlR X r) (h' : SlR X r') : SlR X (fun x lo hi H Q => r x lo hi H Q ∨ r' x lo hi H Q) := by
  intro pins s σ H x v vl vu lo hi sl Q I rx hs pl pu q
  rcases q with q | q
  · exact h pins s σ H x v vl vu lo hi sl Q I rx hs pl pu q
  · exact h' pins s σ H x v vl vu lo hi sl Q I rx hs pl pu q
def tSl (r : V → Option Int → Option Int → Hp → VK → Prop) (te : TE) (tl th : TO) : TE := fun σ H Q => te σ H fun x H1 => tl σ H1 fun l H2 => th σ H2 fun u H3 => r x l u H3 Q
theorem pe_slice {r : V → Option Int → Option Int → Hp → VK → Prop} (hr : SlR X r) (he : PE X e te) (hl : PO X lo tl) (hu : PO X hi th) : PE X (.Subscript e (.Slice lo hi none p2) pos) (tSl r te tl th) := by
  intro pins s σ H Q I h
  refine Subscript_ (thn (he pins s σ H _ I h) fun v s1 ⟨x, H1, I1, r1, q1⟩ => ?_)
  refine wpAny_Slice (thn (hl pins s1 σ H1 _ I1 q1) fun vl s2 ⟨l, H2, I2, pl, q2⟩ => thn (hu pins s2 σ H2 _ I2 q2) fun vu s3 ⟨u, H3, I3, pu, q3⟩ => ?_)
  rw [evalPart_none]
  refine wpAny_pure ?_
  have I4 : Inv X pins σ H3 { s3 with heap := s3.heap.push { cls := .type "slice", data := .fields #[vl, vu, .none] } } := I3.kept (t' := s3.toks) fun b ob q => Heap.get?_push_of_some _ q
  obtain ⟨T, id, hT, ht, hg⟩ := hr pins { s3 with heap := s3.heap.push { cls := .type "slice", data := .fields #[vl, vu, .none] } } σ H3 x v vl vu l u s3.heap.objs.size Q I4 r1 (Heap.IsSliceOf.new ..) pl pu q3
  show wpAny (model X.prog X.w) X.A (subscriptTail e (.Slice lo hi none p2) v (.ref s3.heap.objs.size)) (EP X pins σ Q) X.xe { s3 with heap := s3.heap.push { cls := .type "slice", data := .fields #[vl, vu, .none] } }
  exact tail_any (ops := [.ref s3.heap.objs.size, v]) ht hT hg (by with_unfolding_all rfl)
def cutV (xs : List V) (lo hi : Option Int) : List V := (xs.drop (HT.sIx xs.length 0 lo)).take (HT.sIx xs.length xs.length hi - HT.sIx xs.length 0 lo)
theorem cutV_length (xs : List V) (lo hi : Option Int) : (cutV xs lo hi).length ≤ xs.length := by
  unfold cutV
  rw [List.length_take, List.length_drop]
  omega
def rSlT (K : PySem.W.Frag) : V → Option Int → Option Int → Hp → VK → Prop := fun x lo hi H Q => ∃ a xs, x = .ref a ∧ SqT K H a xs ∧
  ¬ (HT.sIx xs.length 0 lo = 0 ∧ HT.sIx xs.length xs.length hi = xs.length) ∧ ∀ p, H p = none → Q (.ref p) (upd H p (.tup (cutV xs lo hi)))
theorem sl_tup : SlR X (rSlT X.K) := by
  intro pins s σ H x v vl vu lo hi sl Q I rx hs pl pu h
  obtain ⟨a, xs, rfl, hx, hw, q⟩ := h
  cases rx
  obtain ⟨its, r, ht, hz⟩ := I.tuple hx
  have hlen : its.toArray.size = xs.length := by rw [List.size_toArray]; exact r.length.symm
  refine ⟨"tuple", _, PyProof.Rows.slot_tuple_getitem.lookup, ht.typeIs, ?_⟩
  refine HT.getItem_tuple_cut ht hs pl pu (by rw [hlen]; exact hw) ?_ (by rw [hlen]; exact hz)
  rw [hlen]
  refine ⟨.ref s.heap.objs.size, _, I.laid (t' := s.toks) (o := .tup (cutV xs lo hi)) (fun b ob q => Heap.get?_push_of_some _ q) (Nat.le_refl _) ?_, rfl, q _ (I.hok.fresh (Nat.le_refl _))⟩
  exact ⟨Nat.le_trans (cutV_length xs lo hi) hz, _, (r.drop (HT.sIx xs.length 0 lo)).take (HT.sIx xs.length xs.length hi - HT.sIx xs.length 0 lo), IsTupN.new _ _⟩
def rCatT (K : PySem.W.Frag) : R2 := fun x y H Q => ∃ a b xs ys, x = .ref a ∧ y = .ref b ∧ SqT K H a xs ∧ SqT K H b ys ∧ xs ≠ [] ∧ xs.length + ys.length ≤ sizeLine ∧
  (ys = [] → Q (.ref a) H) ∧ (ys ≠ [] → ∀ p, H p = none → Q (.ref p) (upd H p (.tup (xs ++ ys))))
theorem Vals.nil_iff {xs : List V} {us : List Value} (r : Vals xs us) : us = [] ↔ xs = [] := by
  cases r with
  | nil => simp
  | cons _ _ => simp
theorem op_catT : OpR X (binaryOp .Add) (rCatT X.K) := by
  intro pins s σ H x y v u Q I rx ry h
  obtain ⟨a, b, xs, ys, rfl, rfl, ha, hb, hx, hz, q1, q2⟩ := h
  cases rx
  cases ry
  obtain ⟨its, r1, p1, _⟩ := I.tuple ha
  obtain ⟨its2, r2, p2, _⟩ := I.tuple hb
  refine HT.cat_tup p1 p2 (fun z => hx (r1.nil_iff.mp z)) (fun z => ⟨.ref a, H, I, rfl, q1 (r2.nil_iff.mp z)⟩) (fun z => ?_) (by rw [← r1.length, ← r2.length]; exact hz)
  refine ⟨.ref s.heap.objs.size, _, I.laid (t' := s.toks) (o := .tup (xs ++ ys)) (fun b ob q => Heap.get?_push_of_some _ q) (Nat.le_refl _) ?_, rfl, q2 (fun w => z (r2.nil_iff.mpr w)) _ (I.hok.fresh (Nat.le_refl _))⟩
  exact ⟨by rw [List.length_append]; exact hz, _, r1.append r2, IsTupN.new _ _⟩
end
end L2
namespace L2
open PySem PySem.Spec PyProof.Rows
def ixN (n : Nat) (i : Int) : Option Nat := if 0 ≤ i then (if i < n then some i.toNat else none) else if -(n : Int) ≤ i then some (i + n).toNat else none
def atI {α : Type} (xs : List α) (i : Int) : Option α := (ixN xs.length i).bind fun j => xs[j]?
theorem ixN_seq {n : Nat} {i : Int} {j : Nat} (h : ixN n i = some j) : seqIndex? i n = some j ∧ j < n ∧ -(n : Int) ≤ i ∧ i < n := by
  unfold ixN at h
  by_cases h0 : 0 ≤ i
  · rw [if_pos h0] at h
    by_cases h1 : i < n
    · rw [if_pos h1] at h
      have e : i.toNat = j := Option.some.inj h
      exact ⟨by rw [seqIndex_of h0 h1, e], by omega, by omega, h1⟩
    · rw [if_neg h1] at h; cases h
  · rw [if_neg h0] at h
    by_cases h1 : -(n : Int) ≤ i
    · rw [if_pos h1] at h
      have e : (i + n).toNat = j := Option.some.inj h
      exact ⟨by rw [seqIndex_neg (by omega) h1, e], by omega, h1, by omega⟩
    · rw [if_neg h1] at h; cases h
theorem atI_get {α : Type} {xs : List α} {i : Int} {v : α} (h : atI xs i = some v) : ∃ j, seqIndex? i xs.length = some j ∧ xs[j]? = some v ∧ j < xs.length ∧ -(xs.length : Int) ≤ i ∧ i < xs.length := by
  unfold atI at h
  cases e : ixN xs.length i with
  | none => rw [e] at h; cases h
  | some j =>
    rw [e] at h
    obtain ⟨h1, h2, h3, h4⟩ := ixN_seq e
    exact ⟨j, h1, h, h2, h3, h4⟩
theorem atI_nat {α : Type} {xs : List α} {j : Nat} {v : α} (h : xs[j]? = some v) : atI xs (j : Int) = some v := by
  have hj : j < xs.length := (List.getElem?_eq_some_iff.mp h).1
  have e : ixN xs.length (j : Int) = some j := by
    unfold ixN
    rw [if_pos (by omega), if_pos (by omega)]; simp
  unfold atI; rw [e]; exact h
def PlainIx (b : Expr) : Prop := ∀ o i, subscripted b false o i = operate [o, i] (getItem o i)
def IxR (X : Cx) (r : R2) : Prop :=
  ∀ (value slice : Expr) (pins : List (Addr × Obj)) (s : Shared) (σ : St) (H : Hp) (x y : V) (v u : Value) (Q : VK), Inv X pins σ H s → RelV x v → RelV y u → r x y H Q →
    subscripted slice false v u = operate [v, u] (getItem v u) → wpAny (model X.prog X.w) X.A (subscriptTail value slice v u) (EP X pins σ Q) X.xe s
def MtR (X : Cx) (id : String) (r : V → List V → Hp → VK → Prop) : Prop :=
  ∀ (pins : List (Addr × Obj)) (s : Shared) (σ : St) (H : Hp) (x : V) (xs : List V) (v : Value) (us : List Value) (Q : VK), Inv X pins σ H s → RelV x v → Vals xs us → r x xs H Q →
    wpAny (model X.prog X.w) X.A (call (.builtin id) (v :: us)) (EP X pins σ Q) X.xe s
section
variable {X : Cx} {a b : Expr} {ta tb : TE} {pos : Pos}
theorem IxR.or {r r' : R2} (h : IxR X r) (h' : IxR X r') : IxR X (fun x y H Q => r x y H Q ∨ r' x y H Q) := by
  intro value slice pins s σ H x y v u Q I rx ry q hs
  rcases q with q | q
  · exact h value slice pins s σ H x y v u Q I rx ry q hs
  · exact h' value slice pins s σ H x y v u Q I rx ry q hs
theorem MtR.or {id : String} {r r' : V → List V → Hp → VK → Prop} (h : MtR X id r) (h' : MtR X id r') : MtR X id (fun x xs H Q => r x xs H Q ∨ r' x xs H Q) := by
  intro pins s σ H x xs v us Q I rx rs q
  rcases q with q | q
  · exact h pins s σ H x xs v us Q I rx rs q
  · exact h' pins s σ H x xs v us Q I rx rs q
theorem pe_ix {r : R2} (hr : IxR X r) (ha : PE X a ta) (hb : PE X b tb) (hs : PlainIx b) : PE X (.Subscript a b pos) (tOp r ta tb) := by
  intro pins s σ H Q I h
  exact Subscript_ (binT ha hb I h fun v u s2 x y H2 I2 rx ry q => hr a b pins s2 σ H2 x y v u Q I2 rx ry q (hs _ _))
def rIxL (K : PySem.W.Frag) : R2 := fun x y H Q => ∃ p xs i v, x = .ref p ∧ y = .int i ∧ SqL K H p xs ∧ atI xs i = some v ∧ Q v H
def rIxT (K : PySem.W.Frag) : R2 := fun x y H Q => ∃ p xs i v, x = .ref p ∧ y = .int i ∧ SqT K H p xs ∧ atI xs i = some v ∧ Q v H
def rIxS : R2 := fun x y H Q => ∃ z i c, x = .str z ∧ y = .int i ∧ z.length ≤ sizeLine ∧ atI z.cps.toList i = some c ∧ Q (.str ⟨#[c]⟩) H
theorem ix_list : IxR X (rIxL X.K) := by
  intro value slice pins s σ H x y v u Q I rx ry h hs
  obtain ⟨p, xs, i, z, rfl, rfl, hq, he, q⟩ := h
  cases rx
  obtain ⟨t, rfl⟩ := ry
  obtain ⟨its, r, pl, hz⟩ := I.list hq
  obtain ⟨j, h1, h2, h3, h4, h5⟩ := atI_get he
  obtain ⟨w, ew, rw'⟩ := r.get h2
  have hl := r.length
  have hn := line63
  have fin : EP X pins σ Q w s := ⟨z, H, I, rw', q⟩
  by_cases h0 : 0 ≤ i
  · have hj : i.toNat = j := by
      rw [seqIndex_of h0 h5] at h1
      exact Option.some.inj h1
    exact item_listR pl.isList h0 (by omega) (by rw [hj]; simpa using ew) fin hs
  · have hj : (i + (its.toArray.size : Int)).toNat = j := by
      rw [seqIndex_neg (by omega) h4] at h1
      rw [List.size_toArray, ← hl]
      exact Option.some.inj h1
    exact subscriptTail_builtinR (x := w) pl.isList.typeIs slot_list_getitem.lookup
      (wpAny_getItem_list_neg (Q := fun r s' => r = w ∧ EP X pins σ Q r s') pl.isList (by omega) (by rw [List.size_toArray] <;> omega) (by omega) (by rw [hj]; simpa using ew) ⟨rfl, fin⟩) hs
theorem ix_tup : IxR X (rIxT X.K) := by
  intro value slice pins s σ H x y v u Q I rx ry h hs
  obtain ⟨p, xs, i, z, rfl, rfl, hq, he, q⟩ := h
  cases rx
  obtain ⟨t, rfl⟩ := ry
  obtain ⟨its, r, pl, hz⟩ := I.tuple hq
  obtain ⟨j, h1, h2, h3, h4, h5⟩ := atI_get he
  obtain ⟨w, ew, rw'⟩ := r.get h2
  have hl := r.length
  have hn := line63
  have fin : EP X pins σ Q w s := ⟨z, H, I, rw', q⟩
  exact subscriptTail_builtinR (x := w) pl.typeIs slot_tuple_getitem.lookup
    (getItem_tuple (j := j) (Q := fun r s' => r = w ∧ EP X pins σ Q r s') pl (by omega) (by omega) (by rw [List.size_toArray, ← hl]; exact h1) (by simpa using ew) ⟨rfl, fin⟩) hs
theorem ix_str : IxR X rIxS := by
  intro value slice pins s σ H x y v u Q I rx ry h hs
  obtain ⟨z, i, c, rfl, rfl, hz, he, q⟩ := h
  obtain ⟨t, rfl⟩ := rx
  obtain ⟨t', rfl⟩ := ry
  obtain ⟨j, h1, h2, h3, h4, h5⟩ := atI_get he
  have hl : z.cps.toList.length = z.length := by simp [Str.length]
  rw [hl] at h1 h4 h5
  have hn := line63
  exact tail_any (typeIs_str s z t) slot_str_getitem.lookup (getItem_str (c := c) (by
    have e1 : decide (i < -(2 ^ 63 : Int)) = false := decide_eq_false (by omega)
    have e2 : decide (i ≥ 2 ^ 63) = false := decide_eq_false (by omega)
    rw [e1, e2, Bool.or_false]) (by rw [h1]; simpa using h2) ⟨.str ⟨#[c]⟩, H, I.tok _, ⟨_, rfl⟩, q⟩) hs
def rIx (K : PySem.W.Frag) : R2 := fun x y H Q => rIxL K x y H Q ∨ rIxT K x y H Q ∨ rIxS x y H Q
theorem ix_seq : IxR X (rIx X.K) := ix_list.or (ix_tup.or ix_str)
theorem mapSeq_set (its : List Value) (n j : Nat) (u : Value) : Obj.mapSeq (·.setIfInBounds j u) { cls := .type "list", data := .seq its.toArray n } = { cls := .type "list", data := .seq (its.set j u).toArray n } := by
  simp [Obj.mapSeq]
theorem Inv.lst {pins : List (Addr × Obj)} {σ : St} {H : Hp} {s : Shared} {p : Addr} {xs : List V} (I : Inv X pins σ H s) (h : H p = some (.lst xs)) :
    ∃ (its : List Value) (n : Nat), Vals xs its ∧ s.heap.get? p = some { cls := .type "list", data := .seq its.toArray n } ∧ xs.length ≤ sizeLine := by
  obtain ⟨z, its, n, r, e⟩ := I.hok p _ h
  exact ⟨its, n, r, e, z⟩
theorem Inv.lstUpd {pins : List (Addr × Obj)} {σ : St} {H : Hp} {s : Shared} {p : Addr} {xs ys : List V} {its its' : List Value} {n n' : Nat} {f : Obj → Obj} (I : Inv X pins σ H s) (h : H p = some (.lst xs))
    (ho : s.heap.get? p = some { cls := .type "list", data := .seq its.toArray n }) (hf : f { cls := .type "list", data := .seq its.toArray n } = { cls := .type "list", data := .seq its'.toArray n' }) (r : Vals ys its') (hz : ys.length ≤ sizeLine) (t : Nat) :
    Inv X pins σ (upd H p (.lst ys)) { s with heap := s.heap.update p f, toks := t } := by
  have e : (s.heap.update p f).get? p = some { cls := .type "list", data := .seq its'.toArray n' } := by
    rw [Heap.get?_update_self f ho (by rw [hf] <;> rfl), hf]
  refine I.write (x := p) (e := p) (by rw [h]; trivial) (.inl rfl) (fun b u hb q => (Heap.get?_update_other _ _ (Ne.symm hb)).trans q) ⟨_, e⟩ ?_
  exact ⟨hz, its', n', r, e⟩
def rSetL : V → V → V → Hp → (Hp → Prop) → Prop := fun o i v H Q => ∃ p xs k j, o = .ref p ∧ i = .int k ∧ H p = some (.lst xs) ∧ ixN xs.length k = some j ∧ Q (upd H p (.lst (xs.set j v)))
theorem set_list : PSet X rSetL := by
  intro pins s σ H o i v ov iv u Q I ro ri rv h
  obtain ⟨p, xs, k, j, rfl, rfl, hp, hj, q⟩ := h
  cases ro
  obtain ⟨t, rfl⟩ := ri
  obtain ⟨its, n, r, ho, hz⟩ := I.lst hp
  obtain ⟨h1, h2, h3, h4⟩ := ixN_seq hj
  have hl := r.length
  have hn := line63
  have I' : Inv X pins σ (upd H p (.lst (xs.set j v))) { s with heap := s.heap.update p (Obj.mapSeq (·.setIfInBounds j u)) } :=
    I.lstUpd hp ho (mapSeq_set its n j u) (r.set rv j) (by rw [List.length_set]; exact hz) s.toks
  by_cases h0 : 0 ≤ k
  · have hk : k.toNat = j := by
      rw [seqIndex_of h0 h4] at h1
      exact Option.some.inj h1
    exact PySem.W.ki_setAt ho h0 (by omega) (by rw [List.size_toArray, ← hl]; exact h4) (by rw [hk]; exact ⟨_, I', q⟩)
  · have hk : (k + (its.toArray.size : Int)).toNat = j := by
      rw [seqIndex_neg (by omega) h3] at h1
      rw [List.size_toArray, ← hl]
      exact Option.some.inj h1
    exact PySem.W.ki_setBack ho (by omega) (by rw [List.size_toArray, ← hl]; exact h3) (by omega) (by rw [hk]; exact ⟨_, I', q⟩)
theorem slice_bounds (lo hi : Option Int) (n : Nat) : (sliceBounds lo hi none n).1 = ((HT.sIx n 0 lo : Nat) : Int) ∧ (sliceBounds lo hi none n).2.1 = ((HT.sIx n n hi : Nat) : Int) ∧ (sliceBounds lo hi none n).2.2 = 1 := by
  refine ⟨?_, ?_, rfl⟩
  · cases lo with
    | none => simp [sliceBounds, HT.sIx]
    | some i =>
      simp only [sliceBounds, HT.sIx, Option.getD_none, show (1 : Int) > 0 by decide, if_true]
      by_cases h : i < 0
      · simp only [h, if_true] <;> omega
      · simp only [h, if_false] <;> omega
  · cases hi with
    | none => simp [sliceBounds, HT.sIx]
    | some i =>
      simp only [sliceBounds, HT.sIx, Option.getD_none, show (1 : Int) > 0 by decide, if_true]
      by_cases h : i < 0
      · simp only [h, if_true] <;> omega
      · simp only [h, if_false] <;> omega
theorem slicePick_cut (its : List Value) (lo hi : Option Int) : slicePick its.toArray lo hi none = ((its.drop (HT.sIx its.length 0 lo)).take (HT.sIx its.length its.length hi - HT.sIx its.length 0 lo)).toArray := by
  obtain ⟨h1, h2, h3⟩ := slice_bounds lo hi its.toArray.size
  unfold slicePick
  rw [h1, h2, h3]
  simp only [sliceRange_one, pick_run, List.size_toArray] <;> rfl
def rSlL (K : PySem.W.Frag) : V → Option Int → Option Int → Hp → VK → Prop := fun x lo hi H Q => ∃ a xs, x = .ref a ∧ SqL K H a xs ∧ ∀ p, H p = none → Q (.ref p) (upd H p (.lst (cutV xs lo hi)))
theorem sl_list : SlR X (rSlL X.K) := by
  intro pins s σ H x v vl vu lo hi sl Q I rx hs pl pu h
  obtain ⟨a, xs, rfl, hx, q⟩ := h
  cases rx
  obtain ⟨its, r, ht, hz⟩ := I.list hx
  have hlen := r.length
  refine ⟨"list", _, slot_list_getitem.lookup, ht.isList.typeIs, ?_⟩
  refine wpAny_getItem_list_slice ht.isList hs pl pu .none (by simp) ?_ (by rw [List.size_toArray] <;> omega)
  rw [slicePick_cut, ← hlen]
  refine ⟨.ref s.heap.objs.size, _, I.laid (t' := s.toks) (o := .lst (cutV xs lo hi)) (fun b ob q => Heap.get?_push_of_some _ q) (Nat.le_refl _) ?_, rfl, q _ (I.hok.fresh (Nat.le_refl _))⟩
  exact ⟨Nat.le_trans (cutV_length xs lo hi) hz, _, 0, (r.drop (HT.sIx xs.length 0 lo)).take (HT.sIx xs.length xs.length hi - HT.sIx xs.length 0 lo), Heap.get?_push_size _ rfl⟩
def flatV : V → Bool
  | .non => true
  | .bl _ => true
  | .int _ => true
  | .str _ => true
  | _ => false
def eqV : V → V → Bool
  | .non, .non => true
  | .bl a, .bl b => a == b
  | .bl a, .int b => (if a then 1 else 0) == b
  | .int a, .bl b => a == (if b then 1 else 0)
  | .int a, .int b => a == b
  | .str a, .str b => a == b
  | _, _ => false
theorem eqAt_V {A : Around} {s : Shared} {y x : V} {u v : Value} (ry : RelV y u) (rx : RelV x v) (fy : flatV y = true) (fx : flatV x = true) : SeqAt.EqAt A s u v (eqV y x) := by
  cases y with
  | non =>
    cases ry
    cases x with
    | non => cases rx; exact SeqAt.EqAt.same _
    | bl b => cases rx; exact SeqAt.EqAt.none_bool b
    | int b => obtain ⟨t, rfl⟩ := rx; exact SeqAt.EqAt.none_int b t
    | str b => obtain ⟨t, rfl⟩ := rx; exact SeqAt.EqAt.none_str b t
    | _ => exact absurd (show false = true from fx) Bool.false_ne_true
  | bl a =>
    cases ry
    cases x with
    | non => cases rx; exact SeqAt.EqAt.bool_none a
    | bl b => cases rx; exact SeqAt.EqAt.bool_bool a b
    | int b => obtain ⟨t, rfl⟩ := rx; exact SeqAt.EqAt.bool_int a b t
    | str b => obtain ⟨t, rfl⟩ := rx; exact SeqAt.EqAt.bool_str a b t
    | _ => exact absurd (show false = true from fx) Bool.false_ne_true
  | int a =>
    obtain ⟨t', rfl⟩ := ry
    cases x with
    | non => cases rx; exact SeqAt.EqAt.int_none a t'
    | bl b => cases rx; exact SeqAt.EqAt.int_bool a t' b
    | int b => obtain ⟨t, rfl⟩ := rx; exact SeqAt.EqAt.int_int a t' b t
    | str b => obtain ⟨t, rfl⟩ := rx; exact SeqAt.EqAt.int_str a t' b t
    | _ => exact absurd (show false = true from fx) Bool.false_ne_true
  | str a =>
    obtain ⟨t', rfl⟩ := ry
    cases x with
    | non => cases rx; exact SeqAt.EqAt.str_none a t'
    | bl b => cases rx; exact SeqAt.EqAt.str_bool a t' b
    | int b => obtain ⟨t, rfl⟩ := rx; exact SeqAt.EqAt.str_int a t' b t
    | str b => obtain ⟨t, rfl⟩ := rx; exact SeqAt.EqAt.str_str a t' b t
    | _ => exact absurd (show false = true from fx) Bool.false_ne_true
  | _ => exact absurd (show false = true from fy) Bool.false_ne_true
def eqU (x : V) (u : Value) : Bool := match u with
  | .none => eqV .non x
  | .bool b => eqV (.bl b) x
  | .int i _ => eqV (.int i) x
  | .str z _ => eqV (.str z) x
  | _ => false
theorem eqU_of {x y : V} {u : Value} (r : RelV y u) (f : flatV y = true) : eqU x u = eqV y x := by
  cases y with
  | non => cases r; rfl
  | bl b => cases r; rfl
  | int i => obtain ⟨t, rfl⟩ := r; rfl
  | str z => obtain ⟨t, rfl⟩ := r; rfl
  | _ => exact absurd (show false = true from f) Bool.false_ne_true
theorem any_eqU {x : V} : ∀ {xs : List V} {us : List Value}, Vals xs us → xs.all flatV = true → us.any (eqU x) = xs.any fun y => eqV y x
  | _, _, .nil, _ => rfl
  | y :: xs, u :: us, .cons r t, f => by
    rw [List.all_cons, Bool.and_eq_true] at f
    rw [List.any_cons, List.any_cons, eqU_of r f.1, any_eqU t f.2]
theorem mem_eqAt {A : Around} {s : Shared} {x : V} {v : Value} (rx : RelV x v) (fx : flatV x = true) : ∀ {xs : List V} {us : List Value}, Vals xs us → xs.all flatV = true → ∀ u ∈ us, SeqAt.EqAt A s u v (eqU x u)
  | _, _, .nil, _ => fun u hu => by cases hu
  | y :: xs, u :: us, .cons r t, f => fun u' hu => by
    rw [List.all_cons, Bool.and_eq_true] at f
    rcases List.mem_cons.mp hu with rfl | hu
    · rw [eqU_of r f.1]; exact eqAt_V r rx f.1 fx
    · exact mem_eqAt rx fx t f.2 u' hu
def inV (x : V) (xs : List V) : Bool := xs.any fun y => eqV y x
def rIn (K : PySem.W.Frag) (neg : Bool) : R2 := fun x y H Q => ∃ p xs, y = .ref p ∧ (SqL K H p xs ∨ SqT K H p xs) ∧ flatV x = true ∧ xs.all flatV = true ∧ Q (.bl (if neg then !inV x xs else inV x xs)) H
theorem op_in_seq : OpR X (compareOp .In) (rIn X.K false) := by
  intro pins s σ H x y v u Q I rx ry h
  obtain ⟨p, xs, rfl, hq, fx, fs, q⟩ := h
  cases ry
  rcases hq with hq | hq
  · obtain ⟨its, r, pl, hz⟩ := I.list hq
    refine SeqAt.in_listAt (eqU x) pl.isList (fun w hw => mem_eqAt rx fx r fs w (by simpa using hw)) ⟨.bl _, H, I, rfl, ?_⟩
    rw [show its.toArray.any (eqU x) = its.any (eqU x) by simp, any_eqU r fs]
    exact q
  · obtain ⟨its, r, pl, hz⟩ := I.tuple hq
    refine SeqAt.in_tupleAt (eqU x) pl (fun w hw => mem_eqAt rx fx r fs w (by simpa using hw)) ⟨.bl _, H, I, rfl, ?_⟩
    rw [show its.toArray.any (eqU x) = its.any (eqU x) by simp, any_eqU r fs]
    exact q
theorem op_notIn_seq : OpR X (compareOp .NotIn) (rIn X.K true) := by
  intro pins s σ H x y v u Q I rx ry h
  obtain ⟨p, xs, rfl, hq, fx, fs, q⟩ := h
  cases ry
  rcases hq with hq | hq
  · obtain ⟨its, r, pl, hz⟩ := I.list hq
    refine SeqAt.notIn_listAt (eqU x) pl.isList (fun w hw => mem_eqAt rx fx r fs w (by simpa using hw)) ⟨.bl _, H, I, rfl, ?_⟩
    rw [show its.toArray.any (eqU x) = its.any (eqU x) by simp, any_eqU r fs]
    exact q
  · obtain ⟨its, r, pl, hz⟩ := I.tuple hq
    refine SeqAt.notIn_tupleAt (eqU x) pl (fun w hw => mem_eqAt rx fx r fs w (by simpa using hw)) ⟨.bl _, H, I, rfl, ?_⟩
    rw [show its.toArray.any (eqU x) = its.any (eqU x) by simp, any_eqU r fs]
    exact q
theorem call_len_seq : CallR X (.builtin "len") (fun xs H Q => ∃ p ys, xs = [.ref p] ∧ (SqL X.K H p ys ∨ SqT X.K H p ys) ∧ Q (.int ys.length) H) := by
  intro pins s σ H xs us Q I r h
  obtain ⟨p, ys, rfl, hq, q⟩ := h
  obtain ⟨u, rfl, rx⟩ := vals1 r
  cases rx
  have hn := line63
  rcases hq with hq | hq
  · obtain ⟨its, r', pl, hz⟩ := I.list hq
    have hlen := r'.length
    exact Calls.call_len_list pl.isList (by simp only [List.size_toArray] <;> omega) ⟨.int ys.length, H, I.tok _, ⟨s.toks + 1, by rw [List.size_toArray, hlen]⟩, q⟩
  · obtain ⟨its, r', pl, hz⟩ := I.tuple hq
    have hlen := r'.length
    exact len_tuple pl (by simp only [List.size_toArray] <;> omega) ⟨.int ys.length, H, I.tok _, ⟨s.toks + 1, by rw [List.size_toArray, hlen]⟩, q⟩
theorem call_len_str : CallR X (.builtin "len") (fun xs H Q => ∃ z, xs = [.str z] ∧ z.length ≤ sizeLine ∧ Q (.int z.length) H) := by
  intro pins s σ H xs us Q I r h
  obtain ⟨z, rfl, hz, q⟩ := h
  obtain ⟨u, rfl, t, rfl⟩ := vals1 r
  have hn := line63
  exact len_str (by omega) ⟨.int z.length, H, I.tok _, ⟨_, rfl⟩, q⟩
theorem CallR.or {f : Value} {r r' : List V → Hp → VK → Prop} (h : CallR X f r) (h' : CallR X f r') : CallR X f (fun xs H Q => r xs H Q ∨ r' xs H Q) := by
  intro pins s σ H xs us Q I rs q
  rcases q with q | q
  · exact h pins s σ H xs us Q I rs q
  · exact h' pins s σ H xs us Q I rs q
theorem call_tuple_of : CallR X (.type "tuple") (fun xs H Q => ∃ p ys, xs = [.ref p] ∧ ((SqL X.K H p ys ∧ ∀ l, H l = none → Q (.ref l) (upd H l (.tup ys))) ∨ (SqT X.K H p ys ∧ Q (.ref p) H))) := by
  intro pins s σ H xs us Q I r h
  obtain ⟨p, ys, rfl, h⟩ := h
  obtain ⟨u, rfl, rx⟩ := vals1 r
  cases rx
  rcases h with ⟨hq, q⟩ | ⟨hq, q⟩
  · obtain ⟨its, r', pl, hz⟩ := I.list hq
    have hlen := r'.length
    refine call_tuple_list pl.isList (fun h' kp => ?_) (by simp only [List.size_toArray] <;> omega)
    have I1 : Inv X pins σ H { s with heap := h' } := I.kept (t' := s.toks) kp
    have I2 : Inv X pins σ (upd H h'.objs.size (.tup ys)) { s with heap := h'.push { cls := .type "tuple", data := .seq its.toArray } } :=
      I1.laid (t' := s.toks) (fun b o e => Heap.get?_push_of_some _ e) (Nat.le_refl _) (show ObjOk X.prog X.w _ _ _ (.tup ys) from ⟨hz, its, r', IsTupN.new _ _⟩)
    exact ⟨.ref h'.objs.size, _, I2, rfl, q _ (I1.hok.fresh (Nat.le_refl _))⟩
  · obtain ⟨its, r', pl, hz⟩ := I.tuple hq
    exact call_tuple_same pl ⟨.ref p, H, I, rfl, q⟩
def tyV (K : PySem.W.Frag) (T : String) (x : V) (H : Hp) : Prop := match x with
  | .str _ => T = "str"
  | .int _ => T = "int"
  | .ref p => (T = "list" ∧ ∃ xs, SqL K H p xs) ∨ (T = "tuple" ∧ ∃ o, K.lookup p = some o ∧ o.cls = .type "tuple" ∧ o.dict = none) ∨
      (T = "dict" ∧ ((∃ kvs, H p = some (.dK kvs)) ∨ ∃ kvs, H p = some (.dT kvs))) ∨ (T = "set" ∧ ∃ S n, H p = some (.set S n))
  | _ => False
theorem tyV_is {pins : List (Addr × Obj)} {σ : St} {H : Hp} {s : Shared} {T : String} {x : V} {v : Value} (I : Inv X pins σ H s) (r : RelV x v) (ty : tyV X.K T x H) :
    s.TypeIs v T ∧ ∀ a, v = .ref a → ∃ ob, s.heap.get? a = some ob ∧ ob.dict = none := by
  cases x with
  | str z =>
    obtain ⟨t, rfl⟩ := r
    cases (show T = "str" from ty)
    exact ⟨typeIs_str s z t, fun _ e => nomatch e⟩
  | int i =>
    obtain ⟨t, rfl⟩ := r
    cases (show T = "int" from ty)
    exact ⟨typeIs_int s i t, fun _ e => nomatch e⟩
  | ref p =>
    cases r
    rcases ty with ⟨rfl, xs, hq⟩ | ⟨rfl, o, hk, hc, hd⟩ | ⟨rfl, hk⟩ | ⟨rfl, S, n, hk⟩
    · obtain ⟨its, _, pl, _⟩ := I.list hq
      refine ⟨pl.isList.typeIs, fun a e => ?_⟩
      cases e
      obtain ⟨o, n, e, c, hd, _⟩ := pl
      exact ⟨o, e, hd⟩
    · refine ⟨⟨o, I.kIn p o hk, hc⟩, fun a e => ?_⟩
      cases e
      exact ⟨o, I.kIn _ o hk, hd⟩
    · have z : ∃ o, s.heap.get? p = some o ∧ o.ExactDict := by
        rcases hk with ⟨kvs, hk⟩ | ⟨kvs, hk⟩
        · obtain ⟨_, _, _, _, o, _, _, e, ex, _⟩ := I.hok p _ hk
          exact ⟨o, e, ex⟩
        · obtain ⟨_, _, _, _, o, _, _, e, ex, _⟩ := I.hok p _ hk
          exact ⟨o, e, ex⟩
      obtain ⟨o, e, ex⟩ := z
      refine ⟨⟨o, e, ex.1⟩, fun a e2 => ?_⟩
      cases e2
      exact ⟨o, e, ex.2.1⟩
    · obtain ⟨o, _, _, _, e, ex, _⟩ := I.hok p _ hk
      refine ⟨⟨o, e, ex.1⟩, fun a e2 => ?_⟩
      cases e2
      exact ⟨o, e, ex.2.1⟩
  | _ => exact False.elim ty
def tBM0 (K : PySem.W.Frag) (T : String) (r : V → List V → Hp → VK → Prop) (to : TE) : TE := fun σ H Q => to σ H fun x H1 => tyV K T x H1 ∧ r x [] H1 Q
def tBM (K : PySem.W.Frag) (T : String) (r : V → List V → Hp → VK → Prop) (to : TE) (t : TA) : TE := fun σ H Q => to σ H fun x H1 => tyV K T x H1 ∧ t σ H1 fun xs H2 => r x xs H2 Q
variable {o e : Expr} {es : List Expr} {to : TE} {t : TA} {name : Str} {apos cpos : Pos} {T id : String} {r : V → List V → Hp → VK → Prop}
theorem pe_bm0 (pa : PlainAttrs T) (slot : Slot T name id) (hty : typeOf (.builtin id) = pure (.type "method_descriptor")) (hm : MtR X id r) (ho : PE X o to)
    (hbase : attributeBase o name X.env (eval o X.env) = eval o X.env := by rfl) (hline : (apos.endLine == cpos.line) = true := by rfl) : PE X (.Call (.Attribute o name apos) [] [] cpos) (tBM0 X.K T r to) := by
  intro pins s σ H Q I h
  refine wpAny_Call_method0_late hbase hline (thn (ho pins s σ H _ I h) fun v s1 ⟨x, H1, I1, r1, ty, q1⟩ => ?_)
  obtain ⟨h1, h2⟩ := tyV_is I1 r1 ty
  exact ⟨T, id, pa, slot, hty, h1, h2, Calls.callWith_builtin rfl (PySem.evalArgs_none (hm pins s1 σ H1 x [] v [] Q I1 r1 .nil q1))⟩
theorem pe_bm (pa : PlainAttrs T) (slot : Slot T name id) (hty : typeOf (.builtin id) = pure (.type "method_descriptor")) (hm : MtR X id r) (ho : PE X o to) (ha : PA X (e :: es) t)
    (hbase : attributeBase o name X.env (eval o X.env) = eval o X.env := by rfl)
    (hfew : ((backTo cpos (starEach (e :: es) X.env)).all (fun x => !x.1) && (backToKw cpos (keywordEach [] X.env)).all (fun x => x.1.isSome)
      && decide ((e :: es).length + ([] : List Keyword).length + (if ([] : List Keyword).isEmpty then 0 else 1) < 30)) = true := by rfl)
    (hline : (apos.endLine == cpos.line) = true := by rfl) (hs : starEach (e :: es) X.env = (false, eval e X.env) :: starEach es X.env := by rfl) (hplain : (backTo cpos (starEach es X.env)).any (·.1) = false := by rfl) :
    PE X (.Call (.Attribute o name apos) (e :: es) [] cpos) (tBM X.K T r to t) := by
  intro pins s σ H Q I h
  refine wpAny_Call_method_late hbase hfew hline rfl (thn (ho pins s σ H _ I h) fun v s1 ⟨x, H1, I1, r1, ty, q1⟩ => ?_)
  obtain ⟨h1, h2⟩ := tyV_is I1 r1 ty
  refine ⟨T, id, pa, slot, hty, h1, h2, ?_⟩
  have hA := ha cpos pins s1 σ H1 _ I1 q1
  rw [hs] at hA ⊢
  refine Calls.callWith_builtin (by show (false || (backTo cpos (starEach es X.env)).any (·.1)) = false; rw [hplain] <;> rfl) (Calls.evalArgs_plain ?_)
  exact thn hA fun us s2 ⟨vs, H2, I2, r2, q2⟩ => hm pins s2 σ H2 x vs v us Q I2 r1 r2 q2
end
end L2
namespace L2
open PySem PySem.Spec PyProof.Rows
def MtM (X : Cx) (id : String) (r : V → List V → Hp → VK → Prop) : Prop :=
  ∀ (pins : List (Addr × Obj)) (s : Shared) (σ : St) (H : Hp) (x : V) (xs : List V) (v : Value) (us : List Value) (Q : VK), Inv X pins σ H s → RelV x v → Vals xs us → r x xs H Q →
    wpAny (model X.prog X.w) X.A (call (.builtin id) (v :: us)) (EP X pins σ Q) X.xe s
theorem Vals.one : ∀ {x : V} {us : List Value}, Vals [x] us → ∃ u, us = [u] ∧ RelV x u
  | _, _, .cons r .nil => ⟨_, rfl, r⟩
theorem Vals.two : ∀ {x y : V} {us : List Value}, Vals [x, y] us → ∃ u v, us = [u, v] ∧ RelV x u ∧ RelV y v
  | _, _, _, .cons r (.cons q .nil) => ⟨_, _, rfl, r, q⟩
theorem Vals.zero : ∀ {us : List Value}, Vals [] us → us = []
  | _, .nil => rfl
theorem Vals.dropLast {xs : List V} {us : List Value} (h : Vals xs us) : Vals xs.dropLast us.dropLast := by
  induction h with
  | nil => exact .nil
  | cons r t ih =>
    cases t with
    | nil => exact .nil
    | cons q t' => exact .cons r ih
theorem Vals.eraseIdx : ∀ {xs : List V} {us : List Value} (i : Nat), Vals xs us → Vals (xs.eraseIdx i) (us.eraseIdx i)
  | _, _, _, .nil => .nil
  | _, _, 0, .cons _ t => t
  | _, _, i + 1, .cons r t => .cons r (Vals.eraseIdx i t)
theorem Vals.reverse {xs : List V} {us : List Value} (h : Vals xs us) : Vals xs.reverse us.reverse := by
  induction h with
  | nil => exact .nil
  | cons r t ih => rw [List.reverse_cons, List.reverse_cons]; exact Vals.append ih (.cons r .nil)
theorem erase_last {α : Type} (l : List α) : l.eraseIdx (l.length - 1) = l.dropLast := by
  induction l with
  | nil => rfl
  | cons a r ih =>
    cases r with
    | nil => rfl
    | cons b r =>
      have e : (a :: b :: r).length - 1 = ((b :: r).length - 1) + 1 := by
        have h1 : (a :: b :: r).length = r.length + 2 := rfl
        have h2 : (b :: r).length = r.length + 1 := rfl
        omega
      rw [e, List.eraseIdx_cons_succ, ih]
      all_goals rfl
section
variable {X : Cx} {pins : List (Addr × Obj)} {σ : St} {H : Hp} {s : Shared} {l b : Addr} {xs ys zs : List V}
theorem Inv.lset {its its' : List Value} {n : Nat} {f : Array Value → Array Value} {t' : Nat} (I : Inv X pins σ H s) (hH : H l = some (.lst xs))
    (e : s.heap.get? l = some { cls := .type "list", data := .seq its.toArray n }) (hf : f its.toArray = its'.toArray) (hv : Vals ys its') (hz : ys.length ≤ sizeLine) :
    Inv X pins σ (upd H l (.lst ys)) { s with heap := s.heap.update l (Obj.mapSeq f), toks := t' } := by
  have q := PySem.IsL.update e f
  rw [hf] at q
  refine I.write (x := l) (e := l) (by rw [hH]; exact trivial) (.inl rfl) (fun b' u hb hu => (Heap.get?_update_other s.heap (Obj.mapSeq f) (Ne.symm hb)).trans hu) ⟨_, q⟩ ?_
  exact ⟨hz, its', _, hv, q⟩
theorem Inv.lnew {its : List Value} {t' : Nat} (I : Inv X pins σ H s) (hv : Vals ys its) (hz : ys.length ≤ sizeLine) :
    Inv X pins σ (upd H s.heap.objs.size (.lst ys)) { s with heap := s.heap.push { cls := .type "list", data := .seq its.toArray }, toks := t' } :=
  I.laid (fun _ _ q => Heap.get?_push_of_some _ q) (Nat.le_refl _) ⟨hz, its, 0, hv, Heap.get?_push_size _ rfl⟩
theorem Inv.fresh (I : Inv X pins σ H s) : H s.heap.objs.size = none := I.hok.fresh (Nat.le_refl _)
theorem Inv.lstM (I : Inv X pins σ H s) (hH : H l = some (.lst xs)) : xs.length ≤ sizeLine ∧ ∃ (its : List Value) (n : Nat), Vals xs its ∧ xs.length = its.length ∧ s.heap.get? l = some { cls := .type "list", data := .seq its.toArray n } := by
  obtain ⟨z, its, n, r, e⟩ := I.hok l _ hH
  exact ⟨z, its, n, r, r.length, e⟩
theorem notLongL {n : Nat} (h : n ≤ sizeLine) : Builtin.List.listTooLong n = false := by
  unfold Builtin.List.listTooLong
  exact decide_eq_false (by omega)
end
section
variable {X : Cx}
def rAppend : V → List V → Hp → VK → Prop := fun x vs H Q => ∃ l xs y, x = .ref l ∧ vs = [y] ∧ H l = some (.lst xs) ∧ xs.length < sizeLine ∧ Q .non (upd H l (.lst (xs ++ [y])))
theorem mt_append : MtM X "list.append" rAppend := by
  intro pins s σ H x vs v us Q I rx rv h
  obtain ⟨l, xs, y, rfl, rfl, hH, hz, q⟩ := h
  cases rx
  obtain ⟨u, rfl, ru⟩ := rv.one
  obtain ⟨z, its, n, r, hl, e⟩ := I.lstM hH
  refine call_meets F.slot_list_append ⟨_, e, rfl⟩ F.entry_list_append (F.args_list_append_2 _ _) (PySem.list_append l its.toArray n u (by rw [List.size_toArray]; omega)) ⟨e, ?_⟩
  refine ⟨.non, _, I.lset (its' := its ++ [u]) hH e (by simp) (r.append (.cons ru .nil)) ?_, rfl, q⟩
  rw [List.length_append, List.length_singleton]
  omega
def rExtend : V → List V → Hp → VK → Prop := fun x vs H Q => ∃ l b xs zs, x = .ref l ∧ vs = [.ref b] ∧ H l = some (.lst xs) ∧ H b = some (.lst zs) ∧ xs.length + zs.length ≤ sizeLine ∧ Q .non (upd H l (.lst (xs ++ zs)))
theorem mt_extend : MtM X "list.extend" rExtend := by
  intro pins s σ H x vs v us Q I rx rv h
  obtain ⟨l, b, xs, zs, rfl, rfl, hH, hB, hz, q⟩ := h
  cases rx
  obtain ⟨u, rfl, ru⟩ := rv.one
  cases ru
  obtain ⟨z, its, n, r, hl, e⟩ := I.lstM hH
  obtain ⟨z2, its2, n2, r2, hl2, e2⟩ := I.lstM hB
  have hsz : its.toArray.size + its2.toArray.size ≤ sizeLine := by rw [List.size_toArray, List.size_toArray]; omega
  have hlong : ¬ (!its.toArray.isEmpty && Builtin.List.listTooLong (its.toArray.size + its2.toArray.size)) = true := by
    rw [notLongL hsz, Bool.and_false]
    exact Bool.false_ne_true
  refine call_meets F.slot_list_extend ⟨_, e, rfl⟩ F.entry_list_extend (F.args_list_extend_2 _ _)
    (AutoSeq1.list_extend_list_list_0 l its.toArray n b its2.toArray n2 hlong (by rw [List.size_toArray]; omega) (by omega)) ⟨e, e2, ?_⟩
  refine ⟨.non, _, I.lset (its' := its ++ its2) hH e (by simp) (r.append r2) ?_, rfl, q⟩
  rw [List.length_append]
  omega
def rPop : V → List V → Hp → VK → Prop := fun x vs H Q => ∃ l xs y, x = .ref l ∧ vs = [] ∧ H l = some (.lst xs) ∧ xs[xs.length - 1]? = some y ∧ Q y (upd H l (.lst xs.dropLast))
theorem mt_pop : MtM X "list.pop" rPop := by
  intro pins s σ H x vs v us Q I rx rv h
  obtain ⟨l, xs, y, rfl, rfl, hH, hy, q⟩ := h
  cases rx
  have hus := rv.zero
  subst hus
  obtain ⟨z, its, n, r, hl, e⟩ := I.lstM hH
  obtain ⟨u, hu, ru⟩ := r.get hy
  have hy' : its.toArray[its.toArray.size - 1]? = some u := by
    show its.toArray[its.length - 1]? = some u
    rw [← Array.getElem?_toList, ← hl]
    exact hu
  refine call_meets F.slot_list_pop ⟨_, e, rfl⟩ F.entry_list_pop (F.args_list_pop_1 _) (MeetsSeq.list_pop_last l its.toArray n u hy' (by rw [List.size_toArray]; omega)) ⟨e, ?_⟩
  refine ⟨y, _, I.lset (its' := its.dropLast) hH e ?_ r.dropLast ?_, ru, q⟩
  · show its.toArray.eraseIdxIfInBounds (its.toArray.size - 1) = its.dropLast.toArray
    rw [List.size_toArray, List.eraseIdxIfInBounds_toArray, erase_last]
  · rw [List.length_dropLast]
    omega
def rCat : R2 := fun x y H Q => ∃ l b xs zs, x = .ref l ∧ y = .ref b ∧ H l = some (.lst xs) ∧ H b = some (.lst zs) ∧ xs.length + zs.length ≤ sizeLine ∧ ∀ p, H p = none → Q (.ref p) (upd H p (.lst (xs ++ zs)))
theorem op_cat : OpR X (binaryOp .Add) rCat := by
  intro pins s σ H x y v u Q I rx ry h
  obtain ⟨l, b, xs, zs, rfl, rfl, hH, hB, hz, q⟩ := h
  cases rx
  cases ry
  obtain ⟨z, its, n, r, hl, e⟩ := I.lstM hH
  obtain ⟨z2, its2, n2, r2, hl2, e2⟩ := I.lstM hB
  refine PySem.P.add_list e e2 ?_ (by rw [List.size_toArray, List.size_toArray]; omega)
  have ea : its.toArray ++ its2.toArray = (its ++ its2).toArray := by simp
  rw [ea]
  exact ⟨.ref _, _, I.lnew (t' := s.toks) (r.append r2) (by rw [List.length_append]; omega), rfl, q _ I.fresh⟩
end
section
variable {prog : Program} {w : World} {A : Around} {E : Value → Shared → Prop} {s : Shared}
end
section
variable {X : Cx}
end
end L2
namespace Att
open PySem PySem.W PySem.Calls PyProof.Rows
theorem ints_of_wellAll {P : Params} {h : Heap} : ∀ (ns : List Int) (vs : List Value), WellAll P h vs (ns.map WData.int) → IntsAre vs ns := by
  intro ns
  induction ns with
  | nil =>
    intro vs w
    rw [List.map_nil] at w
    cases w
    exact .nil
  | cons n ns ih =>
    intro vs w
    rw [List.map_cons] at w
    cases w with
    | cons a b =>
      cases a
      exact .cons _ _ (ih _ b)
theorem script_of {l : OpenLaw} {n : Nat} (hn : l.most = some n) {P : Params} {h : Heap} {args : List WData} {vals : List Value}
    (hpre : l.row.toRowW.claim.pre args = true) (hwl : WellAll P h vals args) :
    ∃ a vs ns, vals = [Value.ref a] ∧ args = [WData.list (ns.map WData.int)] ∧ h.get? a = some { cls := .type "list", data := .seq vs.toArray } ∧ IntsAre vs ns ∧ ns.length ≤ n := by
  have hsh : WShape.hasAll [] args [.list .int] = true := (pre_splitW hpre).1
  have hc : l.pre.holds [] { args := args } = true := (pre_splitW hpre).2
  obtain ⟨d, r, rfl, h1, h2⟩ := hasAllW_cons hsh
  obtain rfl := hasAllW_nil h2
  obtain ⟨xs, rfl, h3⟩ := hasW_list h1
  obtain ⟨ns, rfl⟩ := items_int h3
  have hlen : ns.length ≤ n := by
    unfold OpenLaw.pre at hc
    have h4 : (WTm.not (.lt (.lit (.int (n : Int))) (.len (.arg 0)))).holds [] { args := [.list (ns.map .int)] } = true := by
      have h4 := (holds_andW hc).1
      rw [hn] at h4
      exact h4
    have h5 := condW_of h4 (w_not (w_lt w_lit (w_len_list (w_arg rfl))))
    rw [List.length_map] at h5
    refine Nat.le_of_not_lt fun q => ?_
    have q' : (n : Int) < ((ns.length : Nat) : Int) := by omega
    first
      | (rw [decide_eq_true q'] at h5; exact absurd h5 (by decide))
      | (simp at h5; omega)
  cases hwl with
  | cons w1 w2 =>
    cases w2
    cases w1 with
    | list ho hall => exact ⟨_, _, ns, rfl, rfl, ho, ints_of_wellAll ns _ hall, hlen⟩
theorem post_true (l : OpenLaw) (args : List WData) : l.row.toRowW.claim.post args (.bool true) args = true :=
  postW_of (r := l.row.toRowW) (X := (true == true))
    (show WShape.has [] (.bool true) .bool = true by first | rfl | decide | simp [WShape.has, WShape.arms, WShape.armsAll])
    (show (WTm.eq .res (.lit (.bool true))).value [] { args := args, res := some (.bool true), after := args } = some (.bool (true == true)) from w_eq_bool (w_res rfl) w_lit) rfl
theorem attach_call {l : OpenLaw} {n : Nat} {q : Program} {loose : List Str} {XP : (Str → Option Value) → Heap → Prop} {YP : World → Heap → Prop} {d : DefRec}
    (hn : l.most = some n) (hdf : d.params.defaults = [])
    (call : ∀ (w : World) (s₀ s₁ : Shared) (mg mb : Str → Option Value) (fa : Addr) (o : Obj) (pm cd doc : Value) (a : Addr) (vs : List Value) (ns : List Int),
      Ground q loose [] XP w s₀ mg mb s₁.heap → YP w s₁.heap →
      s₁.heap.get? fa = some o → o.data = .func (docDef d.name d.params d.body d.scope pm cd doc) → s₁.heap.CodeRec cd d.name → mg d.name = some (.ref fa) →
      s₁.heap.get? a = some { cls := .type "list", data := .seq vs.toArray } → IntsAre vs ns → ns.length ≤ n → s₁.gens = #[] →
      codeAny (model l.prog w) callerA (.call (.ref fa) ⟨[.ref a], []⟩) (fun r s' => r = .ok (.ret (.bool true)) ∧ OldK s₁.heap s'.heap ∧ s'.os = s₁.os ∧ AllBare s'.gens) s₁) :
    WalkO q loose XP YP l.row.toRowW d [] (fun f vs => PySem.call f vs) := by
  intro w s₀ s₁ mg mb G Y fa o pm cd doc dV kV ho hd hcd hD hmg hg args vals as hpre hlay hrd hwl hlo
  obtain rfl : dV = .none := Dflts.none hD hdf
  obtain rfl : kV = .none := Dflts.noKw hD
  obtain ⟨a, vs, ns, rfl, rfl, hobj, hints, hlen⟩ := script_of hn hpre hwl
  refine enter_call (codeAny_mono (call w s₀ s₁ mg mb fa o pm cd doc a vs ns G Y ho (fd_plain hd) hcd hmg hobj hints hlen hg) fun r s' hq => ?_)
  obtain ⟨rfl, h2, h3, h4⟩ := hq
  exact ⟨.inl ⟨.bool true, .bool true, [], rfl, fun _ => rfl, .bool true, post_true l _, fun _ => ⟨List.Pairwise.nil, fun _ hm => (nomatch hm)⟩⟩, h2, h3, h4⟩
section
variable {prog : Program} {w : World} {A : Around} {E : Value → Shared → Prop} {s : Shared} {K : Frag}
def ledger (h : Heap) (L d : Addr) : List (Addr × Obj) := (List.range h.objs.size).filterMap fun a => if a = L ∨ a = d then none else (h.get? a).map fun o => (a, o)
end
end Att
namespace L2
open PySem PySem.Spec PyProof.Rows
theorem vals_ints : ∀ {vs : List Value} {ns : List Int}, IntsAre vs ns → Vals (ns.map V.int) vs
  | _, _, .nil => .nil
  | _, _, .cons n t h => .cons ⟨t, rfl⟩ (vals_ints h)
def Only (H : Hp) : Prop := ∀ b, H b = none ∨ ∃ o xs, H b = some (.frz o (.lst xs))
theorem law_call {P : Program} {w : World} {K : PySem.W.Frag} {mg mb : Str → Option Value} {CX : CXT} {k : Nat} {fa a : Addr} {fd : FuncData} {x : Str} {sp : Sp} {s₁ : Shared} {vs : List Value} {ns : List Int}
    (KX : K.In s₁.heap) (hns : s₁.heap.Ns mainGlobals mg) (hb : s₁.heap.Ns builtinsNs mb) (hbb : ∀ x : Str, x ≠ "__name__" → mb x = bootBuiltins x) (hlim : s₁.heap.NoLimit) (hg : s₁.gens = #[])
    (ha : s₁.heap.get? a = some { cls := .type "list", data := .seq vs.toArray }) (hi : IntsAre vs ns) (hl : ns.length ≤ sizeLine) (hr : Room k callerA)
    (F : ∀ base : Heap, K.In base → base.Ns mainGlobals mg → FnOk P w K mg base CX k fa fd [x] sp) (hbind : ∀ (s : Shared) (u : Value), BindsTo s fd ⟨[u], []⟩ [(x, u)])
    (hsp : ∀ H : Hp, Only H → SqL K H a (ns.map V.int) → sp [.ref a] H (fun v _ => v = .bl true) fun _ _ _ => False)
    (hCX : ∀ H e s', CX [] H s₁ (fun _ _ _ => False) e s' → False) :
    codeAny (model P w) callerA (.call (.ref fa) ⟨[.ref a], []⟩) (fun r s' => r = .ok (.ret (.bool true)) ∧ OldK s₁.heap s'.heap ∧ s'.os = s₁.os ∧ AllBare s'.gens) s₁ := by
  have rv := vals_ints hi
  have lenV := hi.length
  have core : ∀ H : Hp, Only H → SqL K H a (ns.map V.int) → HOk P w H s₁.heap → (∀ b, H b ≠ none → b = a) → (H a ≠ none → K.lookup a = none) →
      codeAny (model P w) callerA (.call (.ref fa) ⟨[.ref a], []⟩) (fun r s' => r = .ok (.ret (.bool true)) ∧ OldK s₁.heap s'.heap ∧ s'.os = s₁.os ∧ AllBare s'.gens) s₁ := by
    intro H hO hS hok hA hK
    have base_of : ∀ {b : Addr} {o : Obj}, s₁.heap.get? b = some o → H b = none → (hidT s₁.heap H).get? b = some o := fun e n => hidT_get e n
    have noA : ∀ {b : Addr} {o : Obj} {es : Array DictEntry} {ep : Nat}, s₁.heap.get? b = some o → o.data = .dict es ep → H b = none := fun {b o es ep} e d => by
      cases q : H b with
      | none => rfl
      | some u =>
        have e' : b = a := hA b (by rw [q]; simp)
        subst e'
        rw [ha] at e; cases e
        have d' : Data.seq vs.toArray _ = Data.dict es ep := d
        cases d'
    have nsK : ∀ {b : Addr} {m : Str → Option Value}, s₁.heap.Ns b m → (hidT s₁.heap H).Ns b m := fun {b m} ⟨o, es, ep, e, d, r⟩ => ⟨o, es, ep, base_of e (noA e d), d, r⟩
    have hKb : K.In (hidT s₁.heap H) := fun b o e => base_of (KX b o e) (by
      cases q : H b with
      | none => rfl
      | some u =>
        have e' : b = a := hA b (by rw [q]; simp)
        subst e'
        rw [hK (by rw [q]; simp)] at e; cases e)
    have hM : Mod K mg (hidT s₁.heap H) := ⟨hKb, nsK hns, ⟨mb, nsK hb, hbb⟩, let ⟨mc, h1, h2⟩ := hlim; ⟨mc, nsK h1, h2⟩⟩
    have e0 : Env0 P w K mg (hidT s₁.heap H) callerA [] s₁ H := ⟨rfl, hM, fun b o e => of_hidT e, Nat.le_of_eq (hidT_size _ _), trivial, fun b hb => absurd (show b ∈ ([] : List Addr) from hb) (by simp), hok, .of_eq hg⟩
    refine codeAny_mono ((F _ hKb (nsK hns)).run callerA [] s₁ H ⟨[.ref a], []⟩ [.ref a] [.ref a] _ _ hr e0 (hbind s₁ (.ref a)) (.cons rfl .nil) (hsp H hO hS)) fun r s' h => ?_
    cases r with
    | error e => exact (hCX H e s' h).elim
    | ok fl =>
      cases fl with
      | next => exact False.elim h
      | brk => exact False.elim h
      | cont => exact False.elim h
      | ret u =>
        obtain ⟨v, H', os, bare, un, hok', r', q⟩ := h
        have q' : v = .bl true := q
        subst q'
        obtain rfl : u = Value.bool true := r'
        refine ⟨rfl, OldK.of_keep fun b o e => ?_, os, bare⟩
        cases q : H b with
        | none => exact un.keep b o e q (by intro z; exact absurd (show b ∈ ([] : List Addr) from z) (by simp)) (by simp)
        | some u =>
          rcases hO b with z | ⟨ob, xs, z⟩
          · rw [q] at z; cases z
          · have z2 := un.frzs b ob _ z
            obtain ⟨e1, _⟩ := hok b _ z
            obtain ⟨e2, _⟩ := hok' b _ z2
            rw [e] at e1; cases e1
            exact e2
  cases hk : K.lookup a with
  | some o =>
    have e := KX a o hk
    rw [ha] at e
    cases e
    refine core (fun _ => none) (fun _ => .inl rfl) (.inr ⟨_, vs.toArray, _, hk, rfl, rfl, rfl, by rw [List.size_toArray, lenV]; exact hl, by simpa using rv⟩) (fun b u z => by have z' : (none : Option HO) = some u := z; cases z') (fun b z => absurd rfl z) fun z => absurd rfl z
  | none =>
    refine core (fun b => if b = a then some (.frz { cls := .type "list", data := .seq vs.toArray } (.lst (ns.map V.int))) else none) (fun b => ?_) (.inl (.inr ⟨{ cls := .type "list", data := .seq vs.toArray }, if_pos rfl⟩)) (fun b u z => ?_) (fun b z => ?_) fun _ => hk
    · by_cases hb : b = a
      · exact .inr ⟨_, _, if_pos hb⟩
      · exact .inl (if_neg hb)
    · by_cases hb : b = a
      · have z' := (if_pos hb).symm.trans z
        cases z'
        subst hb
        exact ⟨ha, by rw [List.length_map]; exact hl, vs, _, rv, ha⟩
      · have z' := (if_neg hb).symm.trans z
        cases z'
    · by_cases hb : b = a
      · exact hb
      · exact absurd (if_neg hb) z
end L2
namespace L2
open PySem PySem.Spec PyProof.Rows
theorem walk_of {l : PySem.W.OpenLaw} {n k : Nat} {q : Program} {loose : List Str} {XP : (Str → Option Value) → Heap → Prop} {YP : World → Heap → Prop} {d : DefRec} {K : Params → PySem.W.Frag} {CX : World → CXT} {sp : World → Sp} {x : Str}
    (hn : l.most = some n) (hn2 : n ≤ sizeLine) (hdf : d.params.defaults = []) (hr : Room k callerA)
    (hY : ∀ (w : World) (h : Heap), YP w h → (K w.params).In h)
    (F : ∀ (w : World) (mg : Str → Option Value) (fa : Addr) (h : Heap), (K w.params).In h → h.Ns mainGlobals mg → mg d.name = some (.ref fa) →
      ∃ fd : FuncData, (∀ (s : Shared) (u : Value), BindsTo s fd ⟨[u], []⟩ [(x, u)]) ∧
        ∀ base : Heap, (K w.params).In base → base.Ns mainGlobals mg → FnOk l.prog w (K w.params) mg base (CX w) k fa fd [x] (sp w))
    (hsp : ∀ (w : World) (H : Hp) (a : Addr) (ns : List Int), ns.length ≤ n → Only H → SqL (K w.params) H a (ns.map V.int) → sp w [.ref a] H (fun v _ => v = .bl true) fun _ _ _ => False)
    (hCX : ∀ (w : World) (H : Hp) (s : Shared) (e : Value) (s' : Shared), CX w [] H s (fun _ _ _ => False) e s' → False) :
    PySem.W.WalkO q loose XP YP l.row.toRowW d [] (fun f vs => PySem.call f vs) := by
  refine Att.attach_call hn hdf fun w s₀ s₁ mg mb fa o pm cd doc a vs ns G Y ho hd hcd hmg hobj hints hlen hg => ?_
  have KX := hY w _ Y
  obtain ⟨fd, hb, hF⟩ := F w mg fa _ KX G.T.g hmg
  exact law_call KX G.T.g G.T.b G.T.builtins G.T.nolimit hg hobj hints (Nat.le_trans hlen hn2) hr hF hb (fun H hO hS => hsp w H a ns hlen hO hS) fun H e s' => hCX w H s₁ e s'
end L2
namespace L2
open PySem PySem.Spec PyProof.Rows
def defArgs (s : Stmt) : Arguments := match s with
  | .FunctionDef _ a _ _ _ _ _ _ _ _ => a
  | _ => { posonlyargs := [], args := [], vararg := none, kwonlyargs := [], kw_defaults := [], kwarg := none, defaults := [] }
def defBody (s : Stmt) : List Stmt := match s with
  | .FunctionDef _ _ b _ _ _ _ _ _ _ => b
  | _ => []
def defScope (s : Stmt) : Scope := match s with
  | .FunctionDef _ _ _ _ _ _ sc _ _ _ => sc
  | _ => { kind := .function, names := [], isGenerator := false, isCoroutine := false }
abbrev CX0 : CXT := fun _ _ _ _ _ _ => False
abbrev E0 : XK := fun _ _ _ => False
theorem pass0 {X : Cx} : Passes CX0 X E0 := fun _ _ _ _ _ _ _ h => h.elim
structure Fun (K : PySem.W.Frag) (x qual : Str) (st : Stmt) (f : Addr) (fd : FuncData) : Prop where
  ex : ∃ (oc : Value) (od : Option Addr) (kV doc pm : Value) (an : Option Addr) (cdv ct : Value) (osl : Array (Option Value)),
    fd = PySem.W.fnOf x qual (defArgs st) (defBody st) (defScope st) .none kV doc pm an cdv ct ∧ K.lookup f = some ⟨oc, od, .func fd, osl⟩ ∧ PySem.W.codeIn K cdv qual = true
  kp : PySem.W.keepIn K (.ref f) = true
section
variable {P : Program} {w : World} {K : PySem.W.Frag} {mg : Str → Option Value} {base : Heap}
theorem Fun.ok {x qual : Str} {st : Stmt} {f : Addr} {fd : FuncData} {N ps : List Str} {k : Nat} {sp : Sp} (F : Fun K x qual st f fd) (S : FnScope N ps (defScope st)) (len : ∀ vs H Q E, sp vs H Q E → vs.length = ps.length)
    (hbody : ∀ (cdv : Value) (A : Around) (outer : List Env) (s : Shared) (H : Hp) (vs : List V) (Q : VK) (E : XK), Room k (A.deeper (envOfC qual (defScope st) s.heap.objs.size f cdv)) → sp vs H Q E →
      ∃ t, PSs (cxOf CX0 P w K mg base N qual (defScope st) f cdv A outer s H E).nox (defBody st) t ∧ t { nx := fun _ H' => Q .non H', rt := Q } (start N vs) H) : FnOk P w K mg base CX0 (k + 1) f fd ps sp := by
  obtain ⟨oc, od, kV, doc, pm, an, cdv, ct, osl, rfl, lk, hcd⟩ := F.ex
  refine fn_of lk hcd S len fun A outer s H vs Q E hr hsp => ?_
  obtain ⟨t, h, q⟩ := hbody cdv A outer s H vs Q E hr hsp
  exact ⟨t, h.nox, q⟩
theorem Fun.binds {x qual : Str} {st : Stmt} {f : Addr} {fd : FuncData} {ps : List Str} (F : Fun K x qual st f fd)
    (h : ∀ (kV doc pm : Value) (an : Option Addr) (cdv ct : Value) (us : List Value), us.length = ps.length → bindArgs (PySem.W.fnOf x qual (defArgs st) (defBody st) (defScope st) .none kV doc pm an cdv ct) ⟨us, []⟩ = pure (ps.zip us)) : Binds K fd ps [] := by
  obtain ⟨oc, od, kV, doc, pm, an, cdv, ct, osl, rfl, lk, hcd⟩ := F.ex
  exact .all (h kV doc pm an cdv ct)
theorem fun_mk {x qual : Str} {st : Stmt} {f : Addr} {oc : Value} {od an : Option Addr} {osl : Array (Option Value)} {kV doc pm cdv ct : Value} (l : K.lookup f = some ⟨oc, od, .func (PySem.W.fnOf x qual (defArgs st) (defBody st) (defScope st) .none kV doc pm an cdv ct), osl⟩)
    (c : PySem.W.codeIn K cdv qual = true) (k : PySem.W.keepIn K (.ref f) = true) : Fun K x qual st f (PySem.W.fnOf x qual (defArgs st) (defBody st) (defScope st) .none kV doc pm an cdv ct) := ⟨⟨oc, od, kV, doc, pm, an, cdv, ct, osl, rfl, l, c⟩, k⟩
end
theorem hu_of {A : Around} {k : Nat} (hr : Room k A) : A.units + 1 < cLine := Nat.lt_of_le_of_lt (Nat.add_le_add_left (by decide : 1 ≤ 64) _) hr.units
theorem small1000 {n : Nat} (h : n ≤ 1000) : n < sizeLine := Nat.lt_of_le_of_lt h (by decide)
section
variable {X : Cx}
theorem pv (i : Nat) {x : Str} {pos : Pos} (hN : X.N[i]? = some x := by rfl) (hv : Vis X.env.scope x := by first | exact Or.inl rfl | exact Or.inr (Or.inl rfl) | exact Or.inr (Or.inr rfl)) (hd : (x == ("__debug__" : Str)) = false := by decide)
    (hcd : (x == ("__classdict__" : Str)) = false := by decide) : PE X (.Name x pos) (tVar i) := pe_var hN hv hd hcd
end
theorem iteF {A B : Prop} (h : B) : if false = true then A else B := by
  rw [if_neg Bool.false_ne_true]
  exact h
theorem ite2 {c A B : Prop} [Decidable c] (h1 : c → A) (h2 : ¬ c → B) : if c then A else B := by
  by_cases h : c
  · rw [if_pos h]
    exact h1 h
  · rw [if_neg h]
    exact h2 h
def Same (H H' : Hp) : Prop := ∀ b o, H b = some o → H' b = some o
theorem Same.refl (H : Hp) : Same H H := fun _ _ h => h
theorem Same.trans {H H1 H2 : Hp} (a : Same H H1) (b : Same H1 H2) : Same H H2 := fun c o h => b c o (a c o h)
theorem Same.free {H H' : Hp} (e : Same H H') {l : Addr} (h : H' l = Option.none) : H l = Option.none := by
  cases q : H l with
  | none => rfl
  | some o =>
    rw [e l o q] at h
    cases h
theorem Same.seq {K : PySem.W.Frag} {H H' : Hp} {a : Addr} {xs : List V} (e : Same H H') (h : SqL K H a xs) : SqL K H' a xs := by
  rcases h with (h | ⟨o, h⟩) | h
  · exact .inl (.inl (e _ _ h))
  · exact .inl (.inr ⟨o, e _ _ h⟩)
  · exact .inr h
end L2
namespace L2
open PySem PySem.Spec PyProof.Rows
section
variable {κ : Type} [DecidableEq κ]
def valV (kvs : List (κ × V)) (k : κ) : Option V := (kvs.find? fun kv => decide (kv.1 = k)).map (·.2)
def putK (kvs : List (κ × V)) (k : κ) (v : V) : List (κ × V) :=
  if (kvs.any fun kv => decide (kv.1 = k)) = true then kvs.map (fun kv => if kv.1 = k then (kv.1, v) else kv) else kvs ++ [(k, v)]
def dropK (kvs : List (κ × V)) (k : κ) : List (κ × V) := kvs.filter fun kv => decide (kv.1 ≠ k)
theorem valV_pos {p : κ × V} {r : List (κ × V)} {k : κ} (e : p.1 = k) : valV (p :: r) k = some p.2 := by simp [valV, List.find?_cons, e]
theorem valV_neg {p : κ × V} {r : List (κ × V)} {k : κ} (e : ¬ p.1 = k) : valV (p :: r) k = valV r k := by simp [valV, List.find?_cons, e]
theorem valV_any (k : κ) : ∀ kvs : List (κ × V), (kvs.any fun kv => decide (kv.1 = k)) = (valV kvs k).isSome
  | [] => rfl
  | p :: r => by
    rw [List.any_cons]
    by_cases e : p.1 = k
    · simp only [valV_pos e, decide_eq_true e, Bool.true_or, Option.isSome_some]
    · rw [valV_neg e, decide_eq_false e, Bool.false_or]; exact valV_any k r
theorem valV_map (k j : κ) (y : V) : ∀ kvs : List (κ × V), valV (kvs.map fun kv => if kv.1 = k then (kv.1, y) else kv) j = (valV kvs j).map fun x => if j = k then y else x
  | [] => rfl
  | p :: r => by
    have ih := valV_map k j y r
    rw [List.map_cons]
    by_cases h : p.1 = k
    · rw [if_pos h]
      by_cases e : p.1 = j
      · rw [valV_pos (p := (p.1, y)) e, valV_pos e, Option.map_some, if_pos (e.symm.trans h)]
      · rw [valV_neg (p := (p.1, y)) e, valV_neg e, ih]
    · rw [if_neg h]
      by_cases e : p.1 = j
      · rw [valV_pos (p := p) e, valV_pos e, Option.map_some, if_neg (fun z => h (e.trans z))]
      · rw [valV_neg (p := p) e, valV_neg e, ih]
theorem valV_snoc (k j : κ) (y : V) : ∀ kvs : List (κ × V), valV kvs k = none → valV (kvs ++ [(k, y)]) j = if j = k then some y else valV kvs j
  | [], _ => by
    by_cases e : k = j
    · rw [if_pos e.symm]; exact valV_pos (p := (k, y)) e
    · rw [if_neg (fun z => e z.symm)]; exact valV_neg (p := (k, y)) e
  | p :: r, hn => by
    rw [List.cons_append]
    have hk : ¬ p.1 = k := fun z => by rw [valV_pos z] at hn; cases hn
    rw [valV_neg hk] at hn
    have ih := valV_snoc k j y r hn
    by_cases e : p.1 = j
    · rw [valV_pos e, valV_pos e, if_neg (fun z => hk (e.trans z))]
    · rw [valV_neg e, valV_neg e, ih]
theorem valV_put (kvs : List (κ × V)) (k j : κ) (y : V) : valV (putK kvs k y) j = if j = k then some y else valV kvs j := by
  unfold putK
  by_cases a : (kvs.any fun kv => decide (kv.1 = k)) = true
  · rw [if_pos a, valV_map]
    rw [valV_any] at a
    by_cases e : j = k
    · obtain ⟨x, hx⟩ := Option.isSome_iff_exists.mp a
      rw [if_pos e, e, hx, Option.map_some, if_pos rfl]
    · rw [if_neg e]
      cases valV kvs j with
      | none => rfl
      | some x => rw [Option.map_some, if_neg e]
  · rw [if_neg a]
    refine valV_snoc k j y kvs ?_
    rw [valV_any] at a
    cases q : valV kvs k with
    | none => rfl
    | some x => rw [q] at a; exact (a rfl).elim
theorem length_putK (kvs : List (κ × V)) (k : κ) (v : V) : (putK kvs k v).length ≤ kvs.length + 1 := by
  unfold putK
  split
  · rw [List.length_map]; omega
  · rw [List.length_append, List.length_cons, List.length_nil]; omega
theorem RelO.isSome_eq {o : Option V} {u : Option Value} (r : RelO o u) : o.isSome = u.isSome := by
  cases o with
  | none => cases u with
    | none => rfl
    | some _ => exact (show False from r).elim
  | some _ => cases u with
    | none => exact (show False from r).elim
    | some _ => rfl
theorem RelO.getD {o : Option V} {u : Option Value} {d : V} {d' : Value} (r : RelO o u) (rd : RelV d d') : RelV (o.getD d) (u.getD d') := by
  cases o with
  | none => cases u with
    | none => exact rd
    | some _ => exact (show False from r).elim
  | some _ => cases u with
    | none => exact (show False from r).elim
    | some _ => exact r
theorem KV.val {kvs : List (κ × V)} {vs : List (κ × Value)} (r : KV kvs vs) (k : κ) : RelO (valV kvs k) (valueAt vs k) := by
  unfold KV at r
  induction r with
  | nil => exact True.intro
  | @cons p q ps qs h t ih =>
    obtain ⟨h1, h2⟩ := h
    by_cases e : p.1 = k
    · have e' : q.1 = k := h1.symm.trans e
      have b : valueAt (q :: qs) k = some q.2 := by simp [valueAt, List.find?_cons, e']
      rw [valV_pos e, b]; exact h2
    · have e' : ¬ q.1 = k := fun z => e (h1.trans z)
      have b : valueAt (q :: qs) k = valueAt qs k := by simp [valueAt, List.find?_cons, e']
      rw [valV_neg e, b]; exact ih
theorem KV.any {kvs : List (κ × V)} {vs : List (κ × Value)} (r : KV kvs vs) (k : κ) : (kvs.any fun kv => decide (kv.1 = k)) = vs.any fun kv => decide (kv.1 = k) := by
  unfold KV at r
  induction r with
  | nil => rfl
  | cons h t ih => rw [List.any_cons, List.any_cons, ih, h.1]
theorem KV.repl {kvs : List (κ × V)} {vs : List (κ × Value)} (r : KV kvs vs) (k : κ) {y : V} {u : Value} (ry : RelV y u) :
    KV (kvs.map fun kv => if kv.1 = k then (kv.1, y) else kv) (vs.map fun kv => if kv.1 = k then (kv.1, u) else kv) := by
  unfold KV at r ⊢
  induction r with
  | nil => exact .nil
  | @cons p q ps qs h t ih =>
    rw [List.map_cons, List.map_cons]
    refine .cons ?_ ih
    obtain ⟨h1, h2⟩ := h
    by_cases e : p.1 = k
    · rw [if_pos e, if_pos (h1.symm.trans e)]; exact ⟨h1, ry⟩
    · rw [if_neg e, if_neg (fun z => e (h1.trans z))]; exact ⟨h1, h2⟩
theorem KV.put {kvs : List (κ × V)} {vs : List (κ × Value)} (r : KV kvs vs) (k : κ) {y : V} {u : Value} (ry : RelV y u) : KV (putK kvs k y) (stored vs k u) := by
  unfold putK stored
  rw [r.any k]
  by_cases e : (vs.any fun kv => decide (kv.1 = k)) = true
  · rw [if_pos e, if_pos e]; exact r.repl k ry
  · rw [if_neg e, if_neg e]; exact Paired.snoc r ⟨rfl, ry⟩
theorem KV.drop {kvs : List (κ × V)} {vs : List (κ × Value)} (r : KV kvs vs) (k : κ) : KV (dropK kvs k) (without vs k) := by
  unfold KV at r ⊢
  unfold dropK without
  induction r with
  | nil => exact .nil
  | @cons p q ps qs h t ih =>
    obtain ⟨h1, h2⟩ := h
    rw [List.filter_cons, List.filter_cons]
    by_cases e : p.1 = k
    · have a : ¬ decide (p.1 ≠ k) = true := by simp [e]
      have b : ¬ decide (q.1 ≠ k) = true := by simp [h1.symm.trans e]
      rw [if_neg a, if_neg b]; exact ih
    · have e' : ¬ q.1 = k := fun z => e (h1.trans z)
      have a : decide (p.1 ≠ k) = true := by simp [e]
      have b : decide (q.1 ≠ k) = true := by simp [e']
      rw [if_pos a, if_pos b]; exact .cons ⟨h1, h2⟩ ih
theorem KV.keys {kvs : List (κ × V)} {vs : List (κ × Value)} (r : KV kvs vs) : kvs.map (·.1) = vs.map (·.1) := by
  unfold KV at r
  induction r with
  | nil => rfl
  | cons h t ih => rw [List.map_cons, List.map_cons, ih, h.1]
theorem KV.length {kvs : List (κ × V)} {vs : List (κ × Value)} (r : KV kvs vs) : kvs.length = vs.length := Paired.length r
end
theorem kV_is {P : Program} {w : World} {k : Key} {u : Value} (r : RelV (kV k) u) : (mixKind P w).is k u = true := by
  cases k with
  | inl i => obtain ⟨t, e⟩ := (show ∃ t, u = Value.int i t from r); subst e; exact mixKind_int P w i t
  | inr x => obtain ⟨t, e⟩ := (show ∃ t, u = Value.str x t from r); subst e; exact mixKind_str P w x t
theorem items_are {P : Program} {w : World} : ∀ {ks : List Key} {us : List Value}, Vals (ks.map kV) us → ItemsAre (mixKind P w) ks us
  | [], _, r => by rw [List.map_nil] at r; cases r; exact .nil
  | k :: ks, _, r => by
    rw [List.map_cons] at r
    cases r with
    | cons h t => exact .cons (kV_is h) (items_are t)
abbrev KT (H : Hp) : List (List Key × V) → List (List Key × Addr × Value) → Prop := Paired fun p q => p.1 = q.1 ∧ H q.2.1 = some (.tup (p.1.map kV)) ∧ RelV p.2 q.2.2
theorem KT.val {H : Hp} {kvs : List (List Key × V)} {xs : List (List Key × Addr × Value)} (r : KT H kvs xs) (k : List Key) : RelO (valV kvs k) ((atKey xs k).map (·.2)) := by
  induction r with
  | nil => exact True.intro
  | @cons p q ps qs h t ih =>
    obtain ⟨h1, _, h2⟩ := h
    by_cases e : p.1 = k
    · have e' : q.1 = k := h1.symm.trans e
      have b : atKey (q :: qs) k = some q.2 := by simp [atKey, List.find?_cons, e']
      rw [valV_pos e, b]; exact h2
    · have e' : ¬ q.1 = k := fun z => e (h1.trans z)
      have b : atKey (q :: qs) k = atKey qs k := by simp [atKey, List.find?_cons, e']
      rw [valV_neg e, b]; exact ih
theorem KT.repl {H : Hp} {kvs : List (List Key × V)} {xs : List (List Key × Addr × Value)} (r : KT H kvs xs) (k : List Key) {y : V} {u : Value} (ry : RelV y u) :
    KT H (kvs.map fun kv => if kv.1 = k then (kv.1, y) else kv) (xs.map (putAt k u)) := by
  induction r with
  | nil => exact .nil
  | @cons p q ps qs h t ih =>
    rw [List.map_cons, List.map_cons]
    refine .cons ?_ ih
    obtain ⟨h1, h2, h3⟩ := h
    unfold putAt
    by_cases e : p.1 = k
    · rw [if_pos e, if_pos (h1.symm.trans e)]; exact ⟨h1, h2, ry⟩
    · rw [if_neg e, if_neg (fun z => e (h1.trans z))]; exact ⟨h1, h2, h3⟩
theorem KT.put {H : Hp} {kvs : List (List Key × V)} {xs : List (List Key × Addr × Value)} (r : KT H kvs xs) (k : List Key) {b : Addr} {y : V} {u : Value} (hb : H b = some (.tup (k.map kV))) (ry : RelV y u) :
    KT H (putK kvs k y) (storedH xs k b u) := by
  have e : (kvs.any fun kv => decide (kv.1 = k)) = (atKey xs k).isSome := by
    rw [valV_any, (r.val k).isSome_eq, Option.isSome_map]
  unfold putK storedH
  rw [e]
  by_cases q : (atKey xs k).isSome = true
  · rw [if_pos q, if_pos q]; exact r.repl k ry
  · rw [if_neg q, if_neg q]; exact Paired.snoc r ⟨rfl, hb, ry⟩
theorem KT.keeps {H H' : Hp} {kvs : List (List Key × V)} {xs : List (List Key × Addr × Value)} (r : KT H kvs xs) (ht : ∀ b ys, H b = some (.tup ys) → H' b = some (.tup ys)) : KT H' kvs xs :=
  Paired.mapP r fun _ _ z => ⟨z.1, ht _ _ z.2.1, z.2.2⟩
section
variable {P : Program} {w : World} {H : Hp} {h : Heap} {a : Addr}
theorem rd_of {u : HO} (ok : HOk P w H h) (e : Rd H a u) : ObjOk P w H h a u := e.ok ok
theorem dk_rd {kvs : List (Key × V)} (ok : HOk P w H h) (e : Rd H a (.dK kvs)) : kvs.length ≤ sizeLine ∧ (a == sysModules) = false ∧ ∃ vs, KV kvs vs ∧ h.DictOf (mixKind P w) a vs :=
  show ObjOk P w H h a (.dK kvs) from rd_of ok e
theorem dk_of {kvs : List (Key × V)} (ok : HOk P w H h) (e : H a = some (.dK kvs)) : kvs.length ≤ sizeLine ∧ (a == sysModules) = false ∧ ∃ vs, KV kvs vs ∧ h.DictOf (mixKind P w) a vs := dk_rd ok (.inl e)
theorem key_of {ks : List Key} (ok : HOk P w H h) (e : H a = some (.tup (ks.map kV))) : (tupleKind (mixKind P w)).is h ks a := by
  obtain ⟨_, its, r, ⟨o, h1, h2, n, h3⟩, _⟩ := (show ObjOk P w H h a (.tup (ks.map kV)) from ok a _ e)
  exact ⟨o, its.toArray, n, h1, h2, h3, by simpa using items_are r⟩
theorem dt_rd {kvs : List (List Key × V)} (ok : HOk P w H h) (e : Rd H a (.dT kvs)) : kvs.length ≤ sizeLine ∧ (a == sysModules) = false ∧
    ∃ xs, KT H kvs xs ∧ h.DictOfH (tupleKind (mixKind P w)) a xs := by
  obtain ⟨z, y, xs, r, o, es, ep, h1, h2, h3, h4, h5⟩ := (show ObjOk P w H h a (.dT kvs) from rd_of ok e)
  refine ⟨z, y, xs, r, o, es, ep, h1, h2, h3, h4, fun x hx => ?_, h5⟩
  have all : ∀ {l : List (List Key × V)} {m : List (List Key × Addr × Value)}, KT H l m → ∀ x ∈ m, (tupleKind (mixKind P w)).is h x.1 x.2.1 := by
    intro l m q
    induction q with
    | nil => intro x hx; exact nomatch hx
    | @cons p q ps qs hq t ih =>
      intro x hx
      rcases List.mem_cons.mp hx with e | hx
      · subst e
        exact key_of ok (by rw [← hq.1]; exact hq.2.1)
      · exact ih x hx
  exact all r x hx
theorem dt_of {kvs : List (List Key × V)} (ok : HOk P w H h) (e : H a = some (.dT kvs)) : kvs.length ≤ sizeLine ∧ (a == sysModules) = false ∧
    ∃ xs, KT H kvs xs ∧ h.DictOfH (tupleKind (mixKind P w)) a xs := dt_rd ok (.inl e)
end
def DGet (H : Hp) (a : Addr) (y : V) (r : Option V) : Prop :=
  (∃ kvs k, Rd H a (.dK kvs) ∧ y = kV k ∧ r = valV kvs k) ∨ ∃ kvs k b, Rd H a (.dT kvs) ∧ y = .ref b ∧ H b = some (.tup (k.map kV)) ∧ r = valV kvs k
def DPut (H : Hp) (a : Addr) (y v : V) (H' : Hp) : Prop :=
  (∃ kvs k, H a = some (.dK kvs) ∧ y = kV k ∧ kvs.length < sizeLine ∧ H' = upd H a (.dK (putK kvs k v))) ∨
  ∃ kvs k b, H a = some (.dT kvs) ∧ y = .ref b ∧ H b = some (.tup (k.map kV)) ∧ kvs.length < sizeLine ∧ H' = upd H a (.dT (putK kvs k v))
theorem DGet.k {H : Hp} {a : Addr} {kvs : List (Key × V)} {k : Key} (e : H a = some (.dK kvs)) : DGet H a (kV k) (valV kvs k) := .inl ⟨kvs, k, .inl e, rfl, rfl⟩
theorem DGet.t {H : Hp} {a b : Addr} {kvs : List (List Key × V)} {k : List Key} (e : H a = some (.dT kvs)) (eb : H b = some (.tup (k.map kV))) : DGet H a (.ref b) (valV kvs k) := .inr ⟨kvs, k, b, .inl e, rfl, eb, rfl⟩
theorem DPut.k {H : Hp} {a : Addr} {kvs : List (Key × V)} {k : Key} {v : V} (e : H a = some (.dK kvs)) (hl : kvs.length < sizeLine) : DPut H a (kV k) v (upd H a (.dK (putK kvs k v))) := .inl ⟨kvs, k, e, rfl, hl, rfl⟩
theorem DPut.t {H : Hp} {a b : Addr} {kvs : List (List Key × V)} {k : List Key} {v : V} (e : H a = some (.dT kvs)) (eb : H b = some (.tup (k.map kV))) (hl : kvs.length < sizeLine) :
    DPut H a (.ref b) v (upd H a (.dT (putK kvs k v))) := .inr ⟨kvs, k, b, e, rfl, eb, hl, rfl⟩
section
variable {X : Cx} {pins : List (Addr × Obj)} {σ : St} {H : Hp} {s : Shared} {a : Addr} {y v : V} {u r : Value} {o : Option V} {A : Around} {E : Value → Shared → Prop}
theorem Inv.big (I : Inv X pins σ H s) : sysModules < s.heap.objs.size := by
  have h : mainGlobals < s.heap.objs.size := (I.mod.glob.keeps I.bk).lt
  exact Nat.lt_trans (by decide) h
theorem d_getItem {Q : Value → Shared → Prop} (hu : A.units + 1 < cLine) (I : Inv X pins σ H s) (g : DGet H a y (some v)) (ry : RelV y u) (h : ∀ w' s', Inv X pins σ H s' → RelV v w' → Q w' s') :
    wpAny (model X.prog X.w) A (getItem (.ref a) u) Q E s := by
  rcases g with ⟨kvs, k, e, ey, l⟩ | ⟨kvs, k, b, e, ey, eb, l⟩
  · subst ey
    obtain ⟨z, hd, vs, rel, dd⟩ := dk_rd I.hok e
    obtain ⟨w', hw, rw'⟩ := RelO.some_of (v := v) (o := valueAt vs k) (by rw [l]; exact rel.val k)
    exact wpAny_getItem_of (kV_is ry) dd.mapOf hw (h w' _ (I.tok _) rw')
  · subst ey
    cases (show u = Value.ref b from ry)
    obtain ⟨z, hd, xs, rel, dd⟩ := dt_rd I.hok e
    obtain ⟨w', hw, rw'⟩ := RelO.some_of (v := v) (o := (atKey xs k).map (·.2)) (by rw [l]; exact rel.val k)
    obtain ⟨p, hp, hp2⟩ := Option.map_eq_some_iff.mp hw
    refine wpAny_getItem_heap (tupleKind_room_in1 hu) (key_of I.hok eb) dd hp ?_
    rw [hp2]
    exact h w' _ (I.tok _) rw'
theorem d_in {Q : Value → Shared → Prop} (hu : A.units + 1 < cLine) (I : Inv X pins σ H s) (g : DGet H a y o) (ry : RelV y u) (h : ∀ s', Inv X pins σ H s' → Q (.bool o.isSome) s') :
    wpAny (model X.prog X.w) A (compareOp .In u (.ref a)) Q E s := by
  rcases g with ⟨kvs, k, e, ey, l⟩ | ⟨kvs, k, b, e, ey, eb, l⟩
  · subst ey
    obtain ⟨z, hd, vs, rel, dd⟩ := dk_rd I.hok e
    refine wpAny_in_of (kV_is ry) hd dd.mapOf ?_
    rw [← (rel.val k).isSome_eq, ← l]
    exact h _ (I.tok _)
  · subst ey
    cases (show u = Value.ref b from ry)
    obtain ⟨z, hd, xs, rel, dd⟩ := dt_rd I.hok e
    refine wpAny_in_heap (tupleKind_room_in1 hu) (key_of I.hok eb) hd dd ?_
    have q := (rel.val k).isSome_eq
    rw [Option.isSome_map] at q
    rw [← q, ← l]
    exact h _ (I.tok _)
theorem d_write {h' : Heap} {t' : Nat} {ob : HO} (I : Inv X pins σ H s) (mu : Mut (H a)) (hs : Heap.SameBut a s.heap h') (he : ∃ q, h'.get? a = some q) (new : ObjOk X.prog X.w (upd H a ob) h' a ob) :
    Inv X pins σ (upd H a ob) { s with heap := h', toks := t' } :=
  I.write (x := a) (e := a) mu (.inl rfl) (fun b q hb z => (hs.2 b hb).trans z) he new
theorem dk_new {P : Program} {w : World} {H' : Hp} {h' : Heap} {kvs : List (Key × V)} {vs : List (Key × Value)} (z : kvs.length ≤ sizeLine) (hd : (a == sysModules) = false) (rel : KV kvs vs) (dd : h'.DictOf (mixKind P w) a vs) :
    ObjOk P w H' h' a (.dK kvs) := ⟨z, hd, vs, rel, dd⟩
theorem d_setItem {H' : Hp} {Q : Unit → Shared → Prop} (hu : A.units + 1 < cLine) (I : Inv X pins σ H s) (g : DPut H a y v H') (ry : RelV y u) (rv : RelV v r) (h : ∀ s', Inv X pins σ H' s' → Q () s') :
    wpAny (model X.prog X.w) A (setItem (.ref a) u r) Q E s := by
  rcases g with ⟨kvs, k, e, ey, l, eH⟩ | ⟨kvs, k, b, e, ey, eb, l, eH⟩
  · subst ey eH
    obtain ⟨z, hd, vs, rel, dd⟩ := dk_of I.hok e
    have hz : vs.length ≤ sizeLine := by rw [← rel.length]; exact z
    have hl : (putK kvs k v).length ≤ sizeLine := by have := length_putK kvs k v; omega
    refine wpAny_setItem_pairs (hsz := hz) (kV_is ry) dd fun h' dd' hs => h _ ?_
    have he : ∃ q, h'.get? a = some q := let ⟨q, _, _, hq, _⟩ := dd'; ⟨q, hq⟩
    exact d_write I (by rw [e]; exact True.intro) hs he (dk_new hl hd (rel.put k rv) dd')
  · subst ey eH
    cases (show u = Value.ref b from ry)
    obtain ⟨z, hd, xs, rel, dd⟩ := dt_of I.hok e
    have hz : xs.length ≤ sizeLine := by rw [← Paired.length rel]; exact z
    have hl : (putK kvs k v).length ≤ sizeLine := by have := length_putK kvs k v; omega
    refine wpAny_setItem_heap (hsz := hz) (tupleKind_room_in1 hu) (key_of I.hok eb) dd fun h' dd' hs => h _ ?_
    obtain ⟨q, es, ep, hq, h2, h3, h4, _, h5⟩ := dd'
    refine d_write I (by rw [e]; exact True.intro) hs ⟨q, hq⟩ ⟨hl, hd, _, (rel.put k eb rv).keeps fun c ys ec => ?_, q, es, ep, hq, h2, h3, h4, h5⟩
    rw [upd_ne (ne_of ec e (fun z => nomatch z))]
    exact ec
end
section
variable {X : Cx} {pins : List (Addr × Obj)} {σ : St} {H : Hp} {s : Shared} {a : Addr} {kvs : List (Key × V)} {k : Key} {u : Value} {A : Around} {E : Value → Shared → Prop}
theorem d_len {Q : Value → Shared → Prop} (I : Inv X pins σ H s) (e : Rd H a (.dK kvs)) (h : ∀ t s', Inv X pins σ H s' → Q (.int kvs.length t) s') : wpAny (model X.prog X.w) A (call (.builtin "len") [.ref a]) Q E s := by
  obtain ⟨z, hd, vs, rel, dd⟩ := dk_rd I.hok e
  refine call_len_dict hd dd (by rw [← rel.length]; rw [sizeLine_eq] at z; omega) ?_
  rw [← rel.length]
  exact h _ _ (I.tok _)
end
def NoSl (i : Expr) : Prop := ∀ ov iv, subscripted i false ov iv = operate [ov, iv] (getItem ov iv)
theorem subD_of {prog : Program} {w : World} {A : Around} {E : Value → Shared → Prop} {s : Shared} {env : Env} {value slice : Expr} {pos : Pos} {T id : String} {Q : Value → Shared → Prop}
    (hl : typeLookup (.type T) "__getitem__" = pure (some (.builtin id))) (hs : NoSl slice)
    (h : wpAny (model prog w) A (eval value env) (fun o s₁ => wpAny (model prog w) A (eval slice env) (fun i s₂ => s₂.TypeIs o T ∧ wpAny (model prog w) A (getItem o i) Q E s₂) E s₁) E s) :
    wpAny (model prog w) A (eval (.Subscript value slice pos) env) Q E s := by
  refine Subscript_ (wpAny_mono h (fun o s₁ h₁ => wpAny_mono h₁ (fun i s₂ h₂ => ?_) fun _ _ x => x) fun _ _ x => x)
  obtain ⟨hT, h₂⟩ := h₂
  unfold subscriptTail
  refine wpAny_bind ?_
  rw [getitemInPython_of_ne hT.not_modules]
  refine wpAny_bind (wpAny_specialOf hT hl ?_)
  have fin : wpAny (model prog w) A (subscripted slice false o i) (fun r s₃ => wpAny (model prog w) A (letTemporaryGo value o r >>= fun _ => pure r) Q E s₃) E s₂ := by
    rw [hs o i]
    exact wpAny_operating (wpAny_mono h₂ (fun r s₃ h₃ => wpAny_bind (wpAny_letTemporaryGo (wpAny_pure h₃))) fun _ _ x => x)
  first
    | exact wpAny_pure (wpAny_bind fin)
    | exact wpAny_bind (wpAny_pure (wpAny_bind fin))
    | exact wpAny_bind fin
theorem dict_typeIs {X : Cx} {pins : List (Addr × Obj)} {σ : St} {H : Hp} {s : Shared} {a : Addr} {y : V} {o : Option V} (I : Inv X pins σ H s) (g : DGet H a y o) : s.TypeIs (.ref a) "dict" := by
  rcases g with ⟨kvs, k, e, _, _⟩ | ⟨kvs, k, b, e, _, _, _⟩
  · obtain ⟨_, _, vs, _, dd⟩ := dk_rd I.hok e
    exact dd.typeIs
  · obtain ⟨_, _, xs, _, dd⟩ := dt_rd I.hok e
    exact dd.typeIs
def tDGet (td ty : TE) : TE := fun σ H Q => td σ H fun x H1 => ty σ H1 fun y H2 => ∃ a v, x = .ref a ∧ DGet H2 a y (some v) ∧ Q v H2
def sDPut (td ty tv : TE) : TS := fun D σ H => tv σ H fun v H1 => td σ H1 fun x H2 => ty σ H2 fun y H3 => ∃ a H4, x = .ref a ∧ DPut H3 a y v H4 ∧ D.nx σ H4
section
variable {X : Cx} {o i e value : Expr} {pos pos' tpos : Pos} {td ty tv : TE}
theorem pe_dget (hu : X.A.units + 1 < cLine) (ho : PE X o td) (hi : PE X i ty) (hs : NoSl i) : PE X (.Subscript o i pos) (tDGet td ty) := by
  intro pins s σ H Q I h
  refine subD_of PySem.F.slot_dict_getitem.lookup hs (thn (ho pins s σ H _ I h) fun u s1 ⟨x, H1, I1, rx, q1⟩ => thn (hi pins s1 σ H1 _ I1 q1) fun iv s2 ⟨y, H2, I2, ry, a, v, ex, g, q2⟩ => ?_)
  subst ex
  obtain rfl : u = Value.ref a := rx
  exact ⟨dict_typeIs I2 g, d_getItem hu I2 g ry fun w' s3 I3 rw' => ⟨v, H2, I3, rw', q2⟩⟩
theorem ps_dput (hu : X.A.units + 1 < cLine) (ho : PE X o td) (hi : PE X i ty) (hv : PE X value tv) (hs : swapsWith value (some (.Subscript o i pos')) pos.line X.env = pure false) :
    PS X (.Assign [.Subscript o i pos'] value pos) (sDPut td ty tv) := by
  intro pins s σ H D I h
  refine wpAny_Assign_Subscript (thn (hv pins s σ H _ I h) fun r s1 ⟨v, H1, I1, rv, q1⟩ => thn (ho pins s1 σ H1 _ I1 q1) fun u s2 ⟨x, H2, I2, rx, q2⟩ => thn (hi pins s2 σ H2 _ I2 q2) fun iv s3 ⟨y, H3, I3, ry, a, H4, ex, g, q3⟩ => ?_) hs
  subst ex
  obtain rfl : u = Value.ref a := rx
  exact d_setItem hu I3 g ry rv fun s4 I4 => ⟨σ, H4, I4, q3⟩
end
theorem dk_empty {P : Program} {w : World} {H : Hp} (h : Heap) (hb : sysModules < h.objs.size) : ObjOk P w H (h.push { cls := .type "dict", data := .dict #[] }) h.objs.size (.dK []) :=
  ⟨Nat.zero_le _, beq_eq_false_iff_ne.mpr (Ne.symm (Nat.ne_of_lt hb)), [], .nil, Heap.DictOf.new h⟩
def tDNewK : TE := fun _ H Q => ∀ p, H p = none → Q (.ref p) (upd H p (.dK []))
section
variable {X : Cx} {pos : Pos}
theorem pe_dnewK : PE X (.Dict [] [] pos) tDNewK := fun pins s σ H Q I h =>
  wpAny_Dict_empty ⟨.ref s.heap.objs.size, _, I.laid (a := s.heap.objs.size) (o := .dK []) (t' := s.toks) (fun _ _ q => Heap.get?_push_of_some _ q) (Nat.le_refl _) (dk_empty s.heap I.big), rfl, h _ (I.hok.fresh (Nat.le_refl _))⟩
end
def tPairs : List (TE × TE) → St → Hp → (List (V × V) → Hp → Prop) → Prop
  | [], _, H, Q => Q [] H
  | (tk, tv) :: r, σ, H, Q => tk σ H fun x H1 => tv σ H1 fun y H2 => tPairs r σ H2 fun ps H3 => Q ((x, y) :: ps) H3
abbrev VV : List (V × V) → List (Value × Value) → Prop := Paired fun p q => RelV p.1 q.1 ∧ RelV p.2 q.2
def PPs (X : Cx) (pos : Pos) (keys : List (Option Expr)) (values : List Expr) (trs : List (TE × TE)) : Prop :=
  ∀ (pins : List (Addr × Obj)) (s : Shared) (σ : St) (H : Hp) (Q : List (V × V) → Hp → Prop), Inv X pins σ H s → tPairs trs σ H Q →
    wpAny (model X.prog X.w) X.A (evalPairs (pairTrees keys values X.env pos)) (fun vs s' => ∃ ps H', Inv X pins σ H' s' ∧ VV ps vs ∧ Q ps H') X.xe s
theorem pps_nil {X : Cx} {pos : Pos} : PPs X pos [] [] [] := fun pins s σ H Q I h => pairTrees_nil_walk ⟨[], H, I, .nil, h⟩
theorem pps_cons {X : Cx} {pos : Pos} {k v : Expr} {ks : List (Option Expr)} {vs : List Expr} {tk tv : TE} {trs : List (TE × TE)} (hk : PE X k tk) (hv : PE X v tv) (hr : PPs X pos ks vs trs) :
    PPs X pos (some k :: ks) (v :: vs) ((tk, tv) :: trs) := fun pins s σ H Q I h =>
  pairTrees_cons_walk (thn (hk pins s σ H _ I h) fun u s1 ⟨x, H1, I1, rx, q1⟩ => thn (hv pins s1 σ H1 _ I1 q1) fun w2 s2 ⟨y, H2, I2, ry, q2⟩ =>
    thn (hr pins s2 σ H2 _ I2 q2) fun ws s3 ⟨ps, H3, I3, rel, q3⟩ => ⟨(x, y) :: ps, H3, I3, .cons ⟨rx, ry⟩ rel, q3⟩)
def mergeK (kvs more : List (Key × V)) : List (Key × V) := more.foldl (fun acc kv => putK acc kv.1 kv.2) kvs
theorem KV.merge : ∀ {more : List (Key × V)} {rs : List (Key × Value)} {kvs : List (Key × V)} {vs : List (Key × Value)}, KV more rs → KV kvs vs → KV (mergeK kvs more) (merged vs rs) := by
  intro more rs kvs vs r
  unfold KV at r
  induction r generalizing kvs vs with
  | nil => intro q; exact q
  | @cons p q ps qs h t ih =>
    intro r0
    have e : KV (putK kvs p.1 p.2) (stored vs q.1 q.2) := by
      have := r0.put p.1 h.2
      rw [← h.1]; exact this
    exact ih e
theorem length_mergeK : ∀ (more kvs : List (Key × V)), (mergeK kvs more).length ≤ kvs.length + more.length
  | [], kvs => by show kvs.length ≤ kvs.length + 0; omega
  | p :: r, kvs => by
    have h1 := length_mergeK r (putK kvs p.1 p.2)
    have h2 := length_putK kvs p.1 p.2
    show (mergeK (putK kvs p.1 p.2) r).length ≤ _
    rw [List.length_cons]; omega
theorem carries_of {P : Program} {w : World} : ∀ {kvs : List (Key × V)} {ws : List (Value × Value)}, VV (kvs.map fun kv => (kV kv.1, kv.2)) ws → ∃ rs, Carries (mixKind P w) ws rs ∧ KV kvs rs
  | [], _, r => by rw [List.map_nil] at r; cases r; exact ⟨[], True.intro, .nil⟩
  | p :: kvs, _, r => by
    rw [List.map_cons] at r
    cases r with
    | @cons a b as bs h t =>
      obtain ⟨rs, c, q⟩ := carries_of (P := P) (w := w) t
      obtain ⟨b1, b2⟩ := b
      exact ⟨(p.1, b2) :: rs, ⟨kV_is h.1, rfl, c⟩, .cons ⟨rfl, h.2⟩ q⟩
def tDisp (trs : List (TE × TE)) : TE := fun σ H Q => ∀ p, H p = none → tPairs trs σ (upd H p (.dK [])) fun ps H2 => H2 p = some (.dK []) ∧ ∃ kvs : List (Key × V), ps = kvs.map (fun kv => (kV kv.1, kv.2)) ∧ kvs.length ≤ 15 ∧ Q (.ref p) (upd H2 p (.dK (mergeK [] kvs)))
theorem pe_disp {X : Cx} {pos : Pos} {keys : List (Option Expr)} {values : List Expr} {trs : List (TE × TE)} (h : PPs X pos keys values trs) (hall : keys.all (·.isSome) = true) (hl : keys.length = values.length) (h0 : keys ≠ [])
    (h15 : keys.length ≤ 15) : PE X (.Dict keys values pos) (tDisp trs) := by
  intro pins s σ H Q I q
  have hn := I.hok.fresh (Nat.le_refl s.heap.objs.size)
  have I1 := I.laid (a := s.heap.objs.size) (o := .dK []) (h' := s.heap.push { cls := .type "dict", data := .dict #[] }) (t' := s.toks) (fun _ _ q => Heap.get?_push_of_some _ q) (Nat.le_refl _) (dk_empty s.heap I.big)
  refine wpAny_Dict_walk (knd := mixKind X.prog X.w) hall hl h0 h15 (thn (h pins _ σ _ _ I1 (q _ hn)) fun ws s2 ⟨ps, H2, I2, rel, e, kvs, ep, lk, q2⟩ => ?_)
  subst ep
  obtain ⟨rs, c, rk⟩ := carries_of (P := X.prog) (w := X.w) rel
  obtain ⟨z, hd, vs0, r0, dd⟩ := dk_of I2.hok e
  cases r0
  refine ⟨rs, c, dd, fun h' dd' hs => ⟨.ref s.heap.objs.size, _, ?_, rfl, q2⟩⟩
  have hz : (mergeK [] kvs).length ≤ sizeLine := by
    have h1 := length_mergeK kvs []
    rw [List.length_nil] at h1
    rw [sizeLine_eq]; omega
  have he : ∃ q, h'.get? s.heap.objs.size = some q := let ⟨q, _, _, hq, _⟩ := dd'; ⟨q, hq⟩
  exact d_write I2 (by rw [e]; exact True.intro) hs he (dk_new hz hd (rk.merge .nil) dd')
structure M2 (X : Cx) (o : Expr) (m : Str) (apos : Pos) (e f : Expr) (cpos : Pos) : Prop where
  base : attributeBase o m X.env (eval o X.env) = eval o X.env
  few : ((backTo cpos (starEach [e, f] X.env)).all (fun x => !x.1) && (backToKw cpos (keywordEach [] X.env)).all (fun x => x.1.isSome)
    && decide (([e, f] : List Expr).length + ([] : List Keyword).length + (if ([] : List Keyword).isEmpty then 0 else 1) < 30)) = true
  line : (apos.endLine == cpos.line) = true
  trees : backTo cpos (starEach [e, f] X.env) = [(false, eval e X.env), (false, eval f X.env)]
def IsD (H : Hp) (a : Addr) : Prop := (∃ kvs, Rd H a (.dK kvs)) ∨ ∃ kvs, Rd H a (.dT kvs)
theorem isD_at {X : Cx} {pins : List (Addr × Obj)} {σ : St} {H : Hp} {s : Shared} {a : Addr} (I : Inv X pins σ H s) (d : IsD H a) :
    s.TypeIs (.ref a) "dict" ∧ (∀ b, Value.ref a = .ref b → ∃ ob, s.heap.get? b = some ob ∧ ob.dict = none) ∧ (a == sysModules) = false := by
  rcases d with ⟨kvs, e⟩ | ⟨kvs, e⟩
  · obtain ⟨_, hd, vs, _, dd⟩ := dk_rd I.hok e
    refine ⟨dd.typeIs, fun b q => ?_, hd⟩
    cases q
    obtain ⟨ob, _, _, h1, h2, _⟩ := dd
    exact ⟨ob, h1, h2.2.1⟩
  · obtain ⟨_, hd, xs, _, dd⟩ := dt_rd I.hok e
    refine ⟨dd.typeIs, fun b q => ?_, hd⟩
    cases q
    obtain ⟨ob, _, _, h1, h2, _⟩ := dd
    exact ⟨ob, h1, h2.2.1⟩
section
variable {X : Cx} {pins : List (Addr × Obj)} {σ : St} {H : Hp} {s : Shared} {a : Addr} {y d : V} {u r : Value} {o : Option V} {A : Around} {E : Value → Shared → Prop}
theorem d_get2 {Q : Value → Shared → Prop} (hu : A.units + 1 < cLine) (I : Inv X pins σ H s) (g : DGet H a y o) (ry : RelV y u) (rd : RelV d r) (h : ∀ w' s', Inv X pins σ H s' → RelV (o.getD d) w' → Q w' s') :
    wpAny (model X.prog X.w) A (call (.builtin "dict.get") [.ref a, u, r]) Q E s := by
  rcases g with ⟨kvs, k, e, ey, l⟩ | ⟨kvs, k, b, e, ey, eb, l⟩
  · subst ey
    obtain ⟨z, hd, vs, rel, dd⟩ := dk_rd I.hok e
    refine call_meetsIn PySem.F.slot_dict_get dd.typeIs PySem.F.entry_dict_get (PySem.F.args_dict_get_3 _ _ _) (meets_dict_get_default (mixKind X.prog X.w) a (kV_is ry) hd r) ⟨_, dd.mapOf, h _ _ (I.tok _) ?_⟩
    rw [l]
    exact (rel.val k).getD rd
  · subst ey
    cases (show u = Value.ref b from ry)
    obtain ⟨z, hd, xs, rel, dd⟩ := dt_rd I.hok e
    refine call_meetsIn PySem.F.slot_dict_get dd.typeIs PySem.F.entry_dict_get (PySem.F.args_dict_get_3 _ _ _) (meetsH_dict_get_default (tupleKind (mixKind X.prog X.w)) a b hd r) ⟨tupleKind_room_in1 hu, k, xs, key_of I.hok eb, dd, h _ _ (I.tok _) ?_⟩
    rw [l]
    exact (rel.val k).getD rd
end
def tDGet2 (td ty tx : TE) : TE := fun σ H Q => td σ H fun x H1 => ∃ a, x = .ref a ∧ IsD H1 a ∧ ty σ H1 fun y H2 => tx σ H2 fun z H3 => ∃ o, DGet H3 a y o ∧ Q (o.getD z) H3
section
variable {X : Cx} {o e f : Expr} {apos cpos : Pos} {td ty tx : TE}
theorem pe_dget2 (hu : X.A.units + 1 < cLine) (ho : PE X o td) (he : PE X e ty) (hf : PE X f tx) (m : M2 X o "get" apos e f cpos) : PE X (.Call (.Attribute o "get" apos) [e, f] [] cpos) (tDGet2 td ty tx) := by
  intro pins s σ H Q I h
  refine wpAny_Call_method m.base m.few m.line PySem.F.plainAttrs_dict PySem.F.slot_dict_get PySem.F.type_dict_get (thn (ho pins s σ H _ I h) fun u s1 ⟨x, H1, I1, rx, a, ex, d, q1⟩ => ?_)
  subst ex
  obtain rfl : u = Value.ref a := rx
  obtain ⟨t1, t2, _⟩ := isD_at I1 d
  refine ⟨t1, t2, ?_⟩
  rw [m.trees]
  refine Calls.callWith_builtin rfl (Calls.evalArgs_plain (Calls.spliced_cons (thn (he pins s1 σ H1 _ I1 q1) fun iv s2 ⟨y, H2, I2, ry, q2⟩ =>
    Calls.spliced_cons (thn (hf pins s2 σ H2 _ I2 q2) fun fv s3 ⟨z, H3, I3, rz, ov, g, q3⟩ => Calls.spliced_nil ?_))))
  exact d_get2 hu I3 g ry rz fun w' s4 I4 rw' => ⟨_, H3, I4, rw', q3⟩
end
section
variable {X : Cx} {pins : List (Addr × Obj)} {σ : St} {H : Hp} {s : Shared} {a : Addr} {kvs : List (Key × V)} {A : Around} {E : Value → Shared → Prop}
end
section
variable {X : Cx} {pins : List (Addr × Obj)} {σ : St} {H : Hp} {s : Shared} {a : Addr} {y : V} {u : Value} {A : Around} {E : Value → Shared → Prop}
end
end L2
namespace L2
open PySem PySem.Spec PyProof.Rows
section
variable {X : Cx}
theorem call_lenD : CallR X (.builtin "len") (fun xs H Q => ∃ a kvs, xs = [V.ref a] ∧ H a = some (.dK kvs) ∧ Q (.int kvs.length) H) := by
  intro pins s σ H xs us Q I r h
  obtain ⟨a, kvs, rfl, ha, q⟩ := h
  obtain ⟨u, rfl, ru⟩ := vals1 r
  cases ru
  exact d_len I (.inl ha) fun t s' I' => ⟨.int kvs.length, H, I', ⟨t, rfl⟩, q⟩
end
section
variable {κ : Type} [DecidableEq κ]
end
end L2
set_option maxHeartbeats 4000000
namespace L2
open PySem PySem.Spec PyProof.Rows
theorem lt_sz {h : Heap} {a : Nat} {o : Obj} (e : h.get? a = some o) : @LT.lt Nat _ a h.objs.size := Heap.lt_size e
theorem cell_lt {h : Heap} {a : Nat} {v : Option Value} (e : h.IsCell a v) : @LT.lt Nat _ a h.objs.size := e.lt
theorem ne_lt {a b : Nat} (h : a < b) : @Ne Addr a b := Nat.ne_of_lt h
theorem ne_gt {a b : Nat} (h : b < a) : @Ne Addr a b := Nat.ne_of_gt h
theorem closure_aux {env : Env} {body : Str × NameKind → List (Str × Addr) → Sem (ForInStep (List (Str × Addr)))}
    (hb : ∀ n k c, body (n, k) c = if (k == NameKind.free) = true then (cellOf env n >>= fun a => pure (.yield ((n, a) :: c))) else pure (.yield c)) :
    ∀ (l : List (Str × NameKind)) (cs : List (Str × Addr)), (∀ p ∈ l, p.2 = NameKind.free → ∃ c, env.cells.lookup p.1 = some c) →
      ∃ cl, forIn l cs body = pure cl ∧ (∀ x c, cl.lookup x = some c → env.cells.lookup x = some c ∨ cs.lookup x = some c) ∧ (∀ x, (x, NameKind.free) ∈ l → ∃ c, cl.lookup x = some c) ∧ ∀ x c, cs.lookup x = some c → ∃ c', cl.lookup x = some c'
  | [], cs, _ => ⟨cs, rfl, fun _ _ h => .inr h, fun _ h => (nomatch h), fun _ c h => ⟨c, h⟩⟩
  | (n, k) :: r, cs, h => by
    have hr : ∀ p ∈ r, p.2 = NameKind.free → ∃ c, env.cells.lookup p.1 = some c := fun p hp => h p (List.mem_cons_of_mem _ hp)
    rw [List.forIn_cons, hb]
    by_cases hk : (k == NameKind.free) = true
    · rw [if_pos hk]
      have hk' : k = .free := by simpa using hk
      obtain ⟨c, hc⟩ := h (n, k) List.mem_cons_self hk'
      have e1 : cellOf env n = pure c := by unfold cellOf; rw [hc]
      rw [e1]
      obtain ⟨cl, e, h1, h2, h3⟩ := closure_aux hb r ((n, c) :: cs) hr
      refine ⟨cl, e, fun x c' hx => ?_, fun x hx => ?_, fun x c' hx => ?_⟩
      · rcases h1 x c' hx with z | z
        · exact .inl z
        · by_cases e2 : (x == n) = true
          · have e3 : x = n := by simpa using e2
            subst e3
            rw [List.lookup_cons, e2] at z
            cases z
            exact .inl hc
          · rw [List.lookup_cons, Bool.eq_false_iff.mpr e2] at z
            exact .inr z
      · rcases List.mem_cons.mp hx with z | z
        · have e2 : x = n := congrArg Prod.fst z
          exact h3 x c (by rw [List.lookup_cons, e2, beq_self_eq_true])
        · exact h2 x z
      · by_cases e2 : (x == n) = true
        · exact h3 x c (by rw [List.lookup_cons, e2])
        · exact h3 x c' (by rw [List.lookup_cons, Bool.eq_false_iff.mpr e2]; exact hx)
    · rw [if_neg hk]
      obtain ⟨cl, e, h1, h2, h3⟩ := closure_aux hb r cs hr
      refine ⟨cl, e, h1, fun x hx => ?_, h3⟩
      rcases List.mem_cons.mp hx with z | z
      · cases z
        exact absurd rfl hk
      · exact h2 x z
theorem closure_of {scope : Scope} {env : Env} (h : ∀ p ∈ scope.names, p.2 = NameKind.free → ∃ c, env.cells.lookup p.1 = some c) :
    ∃ cl : List (Str × Addr), closureFor scope env = pure cl ∧ (∀ x c, cl.lookup x = some c → env.cells.lookup x = some c) ∧ ∀ x, (x, NameKind.free) ∈ scope.names → ∃ c, cl.lookup x = some c := by
  obtain ⟨cl, e, h1, h2, _⟩ := closure_aux (env := env) (body := fun x c => if (x.2 == NameKind.free) = true then (cellOf env x.1 >>= fun a => pure (.yield ((x.1, a) :: c))) else pure (.yield c)) (fun _ _ _ => rfl) scope.names [] h
  refine ⟨cl, ?_, fun x c hx => (h1 x c hx).elim id fun z => by simp at z, h2⟩
  have e2 : closureFor scope env = (forIn scope.names ([] : List (Str × Addr)) (fun x c => if (x.2 == NameKind.free) = true then (cellOf env x.1 >>= fun a => pure (.yield ((x.1, a) :: c))) else pure (.yield c)) >>= fun r => pure r) := by
    simp only [closureFor]
  rw [e2, e]
  rfl
theorem relabel_cases {env : Env} : ∀ {names : List (Str × NameKind)} {x : Str} {k : NameKind},
    (names.map fun (n, k) => if (k == NameKind.free && env.scope.kind == .function && env.kindOf n == some .cell) then (n, NameKind.cell) else (n, k)).lookup x = some k →
      names.lookup x = some k ∨ (names.lookup x = some .free ∧ k = .cell)
  | [], _, _, h => by simp at h
  | (n, k0) :: r, x, k, h => by
    have ih := @relabel_cases env r x k
    replace h : List.lookup x ((if (k0 == NameKind.free && env.scope.kind == .function && env.kindOf n == some .cell) = true then (n, NameKind.cell) else (n, k0)) :: (r.map fun (n, k) => if (k == NameKind.free && env.scope.kind == .function && env.kindOf n == some .cell) then (n, NameKind.cell) else (n, k))) = some k := h
    cases hx : x == n with
    | true =>
      by_cases hc : (k0 == NameKind.free && env.scope.kind == .function && env.kindOf n == some .cell) = true
      · rw [if_pos hc] at h
        simp only [List.lookup_cons, hx] at h
        cases h
        have : k0 = .free := by
          simp only [Bool.and_eq_true] at hc
          simpa using hc.1.1
        subst this
        exact .inr ⟨by simp only [List.lookup_cons, hx], rfl⟩
      · rw [if_neg hc] at h
        simp only [List.lookup_cons, hx] at h
        exact .inl (by simp only [List.lookup_cons, hx]; exact h)
    | false =>
      have h' : (r.map fun (n, k) => if (k == NameKind.free && env.scope.kind == .function && env.kindOf n == some .cell) then (n, NameKind.cell) else (n, k)).lookup x = some k := by
        by_cases hc : (k0 == NameKind.free && env.scope.kind == .function && env.kindOf n == some .cell) = true
        · rw [if_pos hc] at h
          simpa only [List.lookup_cons, hx] using h
        · rw [if_neg hc] at h
          simpa only [List.lookup_cons, hx] using h
      rcases ih h' with z | z
      · exact .inl (by simp only [List.lookup_cons, hx]; exact z)
      · exact .inr (by simp only [List.lookup_cons, hx]; exact z)
theorem relabel_free {env : Env} : ∀ {names : List (Str × NameKind)} {x : Str}, names.lookup x = some .free →
    (names.map fun (n, k) => if (k == NameKind.free && env.scope.kind == .function && env.kindOf n == some .cell) then (n, NameKind.cell) else (n, k)).lookup x = some .free ∨
    (names.map fun (n, k) => if (k == NameKind.free && env.scope.kind == .function && env.kindOf n == some .cell) then (n, NameKind.cell) else (n, k)).lookup x = some .cell
  | [], _, h => by simp at h
  | (n, k0) :: r, x, h => by
    have ih := @relabel_free env r x
    show List.lookup x ((if (k0 == NameKind.free && env.scope.kind == .function && env.kindOf n == some .cell) = true then (n, NameKind.cell) else (n, k0)) :: _) = _ ∨ List.lookup x ((if (k0 == NameKind.free && env.scope.kind == .function && env.kindOf n == some .cell) = true then (n, NameKind.cell) else (n, k0)) :: _) = _
    cases hx : x == n with
    | true =>
      simp only [List.lookup_cons, hx] at h
      cases h
      by_cases hc : (NameKind.free == NameKind.free && env.scope.kind == .function && env.kindOf n == some .cell) = true
      · rw [if_pos hc]; simp only [List.lookup_cons, hx]; exact .inr trivial
      · rw [if_neg hc]; simp only [List.lookup_cons, hx]; exact .inl trivial
    | false =>
      simp only [List.lookup_cons, hx] at h
      by_cases hc : (k0 == NameKind.free && env.scope.kind == .function && env.kindOf n == some .cell) = true
      · rw [if_pos hc]; simp only [List.lookup_cons, hx]; exact ih h
      · rw [if_neg hc]; simp only [List.lookup_cons, hx]; exact ih h
inductive Caps (X : Cx) (sc : Scope) : List Str → List (Option Nat) → Prop
  | nil : Caps X sc [] []
  | own {x : Str} {N : List Str} {c : List (Option Nat)} : sc.names.lookup x = some .local → Caps X sc N c → Caps X sc (x :: N) (none :: c)
  | got {x : Str} {i : Nat} {N : List Str} {c : List (Option Nat)} : X.N[i]? = some x → sc.names.lookup x = some .free → (X.env.kindOf x = some .cell ∨ X.env.kindOf x = some .free) → Caps X sc N c → Caps X sc (x :: N) (some i :: c)
def capt (c : List (Option Nat)) (σ : St) : St := c.map fun o => o.bind fun (i : Nat) => (σ[i]?).join
theorem Caps.len {X : Cx} {sc : Scope} {N : List Str} {c : List (Option Nat)} {σ : St} (h : Caps X sc N c) : (capt c σ).length = N.length := by
  unfold capt
  rw [List.length_map]
  induction h with
  | nil => rfl
  | own _ _ ih => simp [ih]
  | got _ _ _ _ ih => simp [ih]
theorem Caps.at {X : Cx} {sc : Scope} {N : List Str} {c : List (Option Nat)} {σ : St} (h : Caps X sc N c) : ∀ {j : Nat} {x : Str} {v : V}, N[j]? = some x → (capt c σ)[j]? = some (some v) →
    ∃ i : Nat, X.N[i]? = some x ∧ σ[i]? = some (some v) ∧ sc.names.lookup x = some .free ∧ (X.env.kindOf x = some .cell ∨ X.env.kindOf x = some .free) := by
  induction h with
  | nil => intro j x v h1; simp at h1
  | own _ _ ih =>
    intro j x v h1 h2
    cases j with
    | zero => simp [capt] at h2
    | succ j => exact ih (by simpa using h1) (by simpa [capt] using h2)
  | @got y i N c g1 g2 g3 _ ih =>
    intro j x v h1 h2
    cases j with
    | zero =>
      have e : y = x := by simpa using h1
      subst e
      refine ⟨i, g1, ?_, g2, g3⟩
      have h2' : (σ[i]?).join = some v := by simpa [capt] using h2
      cases q : σ[i]? with
      | none => rw [q] at h2'; cases h2'
      | some o =>
        rw [q] at h2'
        have : o = some v := h2'
        rw [this]
    | succ j => exact ih (by simpa using h1) (by simpa [capt] using h2)
def blk (X : Cx) (N' : List Str) (sc : Scope) (cl : List (Str × Addr)) (C : Addr) (s₂ : Shared) (H₂ : Hp) (fp : List Addr) : Cx :=
  { X with N := N', s₀ := s₂, H₀ := H₂, env := compEnvC sc cl C X.env, outer := X.stack, ex := fp, fn := fun _ => false, pn := [], xe := fun _ _ => False }
def PTs (X : Cx) (ifs : List Expr) (t : TT) : Prop :=
  ∀ (pins : List (Addr × Obj)) (s : Shared) (σ : St) (H : Hp) (Q : Bool → Hp → Prop), Inv X pins σ H s → t σ H Q →
    wpAny (model X.prog X.w) X.A (forIn ifs true fun c r => if r = true then do let ok ← isTrue c X.env (eval c X.env); pure (ForInStep.yield ok) else pure (ForInStep.yield r)) (TP X pins σ Q) X.xe s
def tTst0 : TT := fun _ H Q => Q true H
theorem pts_nil {X : Cx} : PTs X [] tTst0 := fun _ _ _ H _ I h => wpAny_tests_nil ⟨H, I, h⟩
theorem pts_one {X : Cx} {c : Expr} {t : TT} (h : PT X c t) : PTs X [c] t := fun pins s σ H Q I q => wpAny_tests_one (h pins s σ H Q I q)
def CompG (g : TG) (tst : TT) (te : TE) (σ0 : St) (Q : VK) (J : It) (H1 : Hp) : Prop :=
  ∃ W : Nat → Nat → List V → St → Hp → Prop, (∃ m, W 0 m [] σ0 H1) ∧ ∀ i m ys σ' H', W i m ys σ' H' →
    (J.stop i H' ∧ ys.length ≤ sizeLine ∧ ∀ D, H' D = none → Q (.ref D) (upd H' D (.lst ys))) ∨
    (J.go i H' ∧ ys.length < sizeLine ∧ ∃ N : List V → St → Hp → Prop, (∀ ys2 σ2 H2, N ys2 σ2 H2 → ∃ m', m' < m ∧ W (i + 1) m' ys2 σ2 H2) ∧ ∀ x H2, J.yld i H' x H2 → g x σ' H2 fun σ2 H3 => tst σ2 H3 fun b H4 =>
      if b = true then te σ2 H4 fun y H5 => N (ys ++ [y]) σ2 H5 else N ys σ2 H4)
def tComp (cap : List (Option Nat)) (wi : TI) (g : TG) (tst : TT) (te : TE) : TE := fun σ H Q => wi σ H (CompG g tst te (capt cap σ) Q)
theorem comp_loop {prog : Program} {w : World} {A : Around} {R : Result → Shared → Prop} {s : Shared} {elt target iter : Expr} {ifs : List Expr} {scope : Scope} {pos : Pos} {it acc : Value} {env : Env} (I : Nat → Shared → Prop)
    (turn : ∀ n s, I n s → wpAny (model prog w) A (pyNext it) (fun r s₁ => match r with
      | none => R (.ok .next) s₁
      | some v => wpAny (model prog w) A (letOwnedTupleGo target it v) (fun _ s₁' => wpAny (model prog w) A (assign target env v) (fun _ s₂ =>
          wpAny (model prog w) A (forIn ifs true fun c r => if r = true then do let ok ← isTrue c env (eval c env); pure (ForInStep.yield ok) else pure (ForInStep.yield r)) (fun ok s₃ =>
            if ok = true then wpAny (model prog w) A (eval elt env) (fun x s₄ =>
              wpAny (model prog w) A (call (.builtin "list.append") [acc, x]) (fun _ s₅ => ∃ m, m < n ∧ I m s₅) (fun _ _ => False) s₄) (fun _ _ => False) s₃
            else ∃ m, m < n ∧ I m s₃) (fun _ _ => False) s₂) (fun _ _ => False) s₁') (fun _ _ => False) s₁) (fun _ _ => False) s)
    (n : Nat) (h : I n s) :
    codeAny (model prog w) A (.compLoop (.ListComp elt [⟨target, iter, ifs, 0⟩] scope pos) 0 it acc env) R s := by
  refine codeAny_loop rfl I (fun n s hI => ?_) n h
  show wpAny _ A ((compTurn (.ListComp elt [⟨target, iter, ifs, 0⟩] scope pos) 0 it acc env).onRaise (fun x => do noteFrame x env; theTreesLotGoes x)) _ _ s
  refine wpAny_noted ?_
  rw [compTurn_list]
  refine wpAny_bind (wpAny_standAt (wpAny_bind (wpAny_mono (turn n s hI) (fun r s₁ h₁ => ?_) fun _ _ h' => h'.elim)))
  cases r with
  | none => exact wpAny_pure h₁
  | some v =>
    refine wpAny_bind (wpAny_mono h₁ (fun _ s₁' h₁' => ?_) fun _ _ h' => h'.elim)
    refine wpAny_bind (wpAny_mono h₁' (fun _ s₂ h₂ => wpAny_bind (wpAny_mono h₂ (fun ok s₃ h₃ => ?_) fun _ _ h' => h'.elim)) fun _ _ h' => h'.elim)
    cases ok with
    | false => exact wpAny_pure ⟨rfl, h₃⟩
    | true =>
      exact wpAny_bind (wpAny_bind (wpAny_mono h₃ (fun x s₄ h₄ => wpAny_bind (wpAny_mono h₄ (fun _ s₅ h₅ => wpAny_pure (wpAny_pure ⟨rfl, h₅⟩)) fun _ _ h' => h'.elim)) fun _ _ h' => h'.elim))
theorem comp_run {X : Cx} {pins : List (Addr × Obj)} {σ : St} {H : Hp} {s : Shared} {Q : VK} {tg iter elt : Expr} {ifs : List Expr} {sc : Scope} {p pos : Pos} {N' : List Str} {cap : List (Option Nat)} {wi : TI} {g : TG} {tst : TT} {te : TE} {use : Option (Value → Sem Unit)} {Q' : Value → Shared → Prop}
    (hc : X.calm = true) (hi : PI X tg iter wi) (hkind : sc.kind = .function) (hcell : ∀ y ∈ sc.names, y.2 ≠ .cell) (hnames : ∀ y ∈ sc.names, y.2 = .local → sc.names.lookup y.1 = some .local)
    (hfree : ∀ y ∈ sc.names, y.2 = .free → X.env.kindOf y.1 = some .cell ∨ X.env.kindOf y.1 = some .free) (hcap : Caps X sc N' cap)
    (hb : ∀ cl C s₂ H₂ fp, PG (blk X N' sc cl C s₂ H₂ fp) tg g ∧ PTs (blk X N' sc cl C s₂ H₂ fp) ifs tst ∧ PE (blk X N' sc cl C s₂ H₂ fp) elt te)
    (I : Inv X pins σ H s) (h : tComp cap wi g tst te σ H Q)
    (fin : ∀ D C m H' s', Inv X pins σ H' s' → FpOk X pins H' C → s'.heap.Ns C m → Q (.ref D) H' → compPost (model X.prog X.w) X.A X.xe use Q' (.ref D) C (.ok .next) s')
    (hs : ∀ x, foldedSetIterable iter X.env x = pure x) :
    wpAny (model X.prog X.w) X.A (comprehension (.ListComp elt [⟨tg, iter, ifs, 0⟩] sc pos) sc X.env p (newList []) false (eval iter X.env) use) Q' X.xe s := by
  obtain ⟨cl, hclos, hcl1, hcl2⟩ := closure_of (scope := sc) (env := X.env) fun q hq e => I.ok.has q.1 (hfree q hq e)
  refine wpAny_comprehension_free rfl hs hclos hkind hnames (thn (hi pins s σ H _ I h) fun v s1 h1 => thn h1 fun itv s2 h2 => ?_)
  obtain ⟨it, fp, tn, J, H2, e, I2, T, st2, f2, W, ⟨m0, w0⟩, turn⟩ := h2
  subst e
  refine wpAny_newObj_type (wpAny_newFunctionEnv hcell (by intro y hy; simp at hy) (fun h₁ hns₁ hsb₁ => ?_) hkind)
  dsimp only at hns₁ hsb₁ ⊢
  generalize hHP : s2.heap.push { cls := .type "list", dict := none, data := .seq ([] : List Value).toArray } = HP at hns₁ hsb₁ ⊢
  have hC : HP.objs.size = s2.heap.objs.size + 1 := by rw [← hHP, Heap.size_push]
  obtain ⟨D, hDn⟩ : ∃ D : Nat, s2.heap.objs.size = D := ⟨_, rfl⟩
  obtain ⟨C, hCn⟩ : ∃ C : Nat, HP.objs.size = C := ⟨_, rfl⟩
  rw [hDn] at hC
  rw [hCn] at hC hns₁ hsb₁ ⊢
  rw [hDn]
  have hDC : @Ne Addr D C := ne_lt (by omega)
  have old : ∀ b o, s2.heap.get? b = some o → h₁.get? b = some o := fun b o e =>
    hsb₁.extBut b o (ne_lt (by have := lt_sz e; omega)) (Heap.get?_push_of_some _ (hHP ▸ Heap.get?_push_of_some _ e))
  have hacc : h₁.get? D = some { cls := .type "list", data := .seq ([] : List Value).toArray 0 } :=
    hsb₁.extBut _ _ hDC (Heap.get?_push_of_some _ (by rw [← hHP, ← hDn]; exact Heap.get?_push_size _ rfl))
  have okB : (blk X N' sc cl C s2 H2 fp).Ok := by
    refine ⟨I.ok.mod, hkind, I.ok.glob, I.ok.blt, (by show s2.heap.objs.size ≤ C; omega), fun x y c h1 h2 => I.ok.inj x y c (hcl1 x c h1) (hcl1 y c h2), fun x hx => ?_, fun x c hx => (nomatch hx), I.ok.hd, I.ok.frames, .inl rfl, fun b hb => ?_,
      fun b o e => I2.bs b o e, Nat.le_trans I2.ok.bsz I2.sz, fun b o e hb => ?_, fun b hb => ?_, I2.stack, I2.stkFree⟩
    · have hx' : sc.names.lookup x = some .free := by
        rcases hx with hx | hx
        · rcases relabel_cases hx with z | z
          · exact absurd rfl (hcell _ (PySem.mem_of_lookup z))
          · exact z.1
        · rcases relabel_cases hx with z | z
          · exact z
          · exact z.1
      exact hcl2 x (PySem.mem_of_lookup hx')
    · obtain ⟨o, ho, _⟩ := T.obj _ _ st2 b hb
      refine ⟨?_, fun x c e => (f2 b hb).2.2.2.2.1 x c (hcl1 x c e)⟩
      show @Ne Addr b C
      have := lt_sz ho
      exact ne_lt (by omega)
    · obtain ⟨_, _, _, z, _⟩ := f2 b hb
      rcases z with z | z
      · exact I2.ok.noex b o e z
      · have := lt_sz (show X.base.get? b = some o from e)
        have := I2.ok.bsz
        omega
    · intro hb'
      rcases List.mem_cons.mp (I2.stkSub b hb') with z | z
      · exact (f2 b hb).2.1 z
      · exact (f2 b hb).2.2.1 z
  have nD : H2 D = none := I2.hok.fresh (by rw [hDn]; exact Nat.le_refl _)
  have hb0 := hb cl C s2 H2 fp
  generalize hXB : blk X N' sc cl C s2 H2 fp = XB at okB hb0
  have eP : XB.prog = X.prog := by rw [← hXB]; rfl
  have eW : XB.w = X.w := by rw [← hXB]; rfl
  have eK : XB.K = X.K := by rw [← hXB]; rfl
  have eA : XB.A = X.A := by rw [← hXB]; rfl
  have eE : XB.env = compEnvC sc cl C X.env := by rw [← hXB]; rfl
  have eX : XB.xe = fun _ _ => False := by rw [← hXB]; rfl
  have eFs : XB.fs = frs X.stack := by rw [← hXB]; rfl
  have eEx : XB.ex = fp := by rw [← hXB]; rfl
  have eS : XB.s₀ = s2 := by rw [← hXB]; rfl
  have eH : XB.H₀ = H2 := by rw [← hXB]; rfl
  have ePn : XB.pn = [] := by rw [← hXB]; rfl
  have eCa : XB.calm = true := by rw [← hXB]; exact hc
  have eN : XB.N = N' := by rw [← hXB]; rfl
  have eL : XB.env.locals = C := by rw [eE]; rfl
  have eCl : XB.env.cells = cl := by rw [eE]; rfl
  have celt : ∀ (x : Str) (c : Nat), cl.lookup x = some c → c < D := fun x c e => by
    obtain ⟨v, z⟩ := I2.cell x c (hcl1 x c e)
    have := cell_lt z
    omega
  have nfs : ∀ (b : Nat), D ≤ b → b ∉ XB.fs := fun b hb z => by
    rw [eFs] at z
    obtain ⟨_, o, ho, _⟩ := I2.stack.mem z
    have := lt_sz ho
    omega
  have fpD : ∀ (b : Nat), b ∈ fp → b < D := fun b hb => by
    obtain ⟨o, ho, _⟩ := T.obj _ _ st2 b hb
    have := lt_sz ho
    omega
  have loop : ∀ s3 : Shared, s3 = { s2 with heap := h₁, toks := s2.toks + ([] : List (Str × Value)).length } →
      codeAny (model X.prog X.w) X.A (.compLoop (.ListComp elt [⟨tg, iter, ifs, 0⟩] sc pos) 0 (.ref it) (.ref D) (compEnvC sc cl C X.env)) (compPost (model X.prog X.w) X.A X.xe use Q' (.ref D) C) s3 := by
    rintro s3 rfl
    refine comp_loop (fun n s' => ∃ i ys σ' H' its k, Inv XB [] σ' H' s' ∧ tn i s'.heap ∧ (∀ b ∈ fp, H' b = none) ∧ H' D = none ∧ s'.heap.get? D = some { cls := .type "list", data := .seq (its : List Value).toArray k } ∧ Vals ys its ∧ W i n ys σ' H') ?_ m0
      ⟨0, [], capt cap σ, H2, [], 0, ?_, T.keep _ _ _ st2 fun b hb o e => old b o e, fun b hb => (f2 b hb).1, nD, hacc, .nil, w0⟩
    · rintro n s4 ⟨i, ys, σ4, H4, its, k, I4, st4, fr4, d4, o4, v4, w4⟩
      have fpk : ∀ {H' : Hp} {pl : List (Addr × Obj)}, (∀ b ∈ fp, H' b = none) → (∀ q ∈ pl, q.1 ∉ fp) → ∀ b ∈ fp, FpOk XB pl H' b := fun {H' pl} hn hpl b hb => by
        refine ⟨hn b hb, ?_, ?_, .inl (by rw [eEx]; exact hb), fun x c e => ?_, fun q hq => ?_⟩
        · rw [eL]; have := fpD b hb; exact ne_lt (by omega)
        · rw [eFs]
          intro z
          rcases List.mem_cons.mp (I2.stkSub b z) with z | z
          · exact (f2 b hb).2.1 z
          · exact (f2 b hb).2.2.1 z
        · rw [eCl] at e
          exact (f2 b hb).2.2.2.2.1 x c (hcl1 x c e)
        · rw [ePn] at hq
          intro z
          exact hpl q (by simpa using hq) (z ▸ hb)
      have pD : ∀ q ∈ [(D, ({ cls := .type "list", data := .seq its.toArray k } : Obj))], q.1 ∉ fp := fun q hq => by
        have e : q = _ := List.mem_singleton.mp hq
        subst e
        intro z
        have := fpD _ z
        omega
      have I4' : Inv XB [(D, { cls := .type "list", data := .seq its.toArray k })] σ4 H4 s4 := I4.pins_of fun q hq => by
        have e : q = _ := List.mem_singleton.mp hq
        subst e
        refine ⟨o4, d4, ?_, nfs _ (Nat.le_refl _), fun v => by simp⟩
        rw [eL]
        exact hDC
      have I4'' := I4'
      rw [← eA, ← eP, ← eW]
      rcases turn i n ys σ4 H4 w4 with ⟨stop, hz, qn⟩ | ⟨go, hz, N, hN, step⟩
      · rw [← eP, ← eW, ← eK] at T
        refine wpAny_mono (T.done XB rfl rfl rfl eCa i _ s4 σ4 H4 (fun _ _ => False) I4' (fpk fr4 pD) st4 stop) (fun r s5 ⟨hr, I5⟩ => ?_) fun _ _ z => z
        subst hr
        rw [eP, eW, eA]
        obtain ⟨o5, n5, _⟩ := I5.pin (D, { cls := .type "list", data := .seq its.toArray k }) (List.mem_append_right _ (List.mem_singleton.mpr rfl))
        have u5 : Un (frs X.stack) fp H2 H4 s2.heap s5.heap := by
          have z := I5.base
          rw [eFs, eEx, eH, eS] at z
          exact z
        have lt2 : ∀ b o, s2.heap.get? b = some o → @Ne Addr b D := fun b o e => ne_lt (by have := lt_sz e; omega)
        have ne5 : ∀ b u, H4 b = some u → b ≠ D := fun b u e z => by rw [z, d4] at e; cases e
        have hk5 : HOk X.prog X.w H4 s5.heap := by
          have z := I5.hok
          rw [eP, eW] at z
          exact z
        have fin' := fin D C
        obtain ⟨mC, hNs, _⟩ := id I5.loc
        rw [eL] at hNs
        have IX : Inv X pins σ (upd H4 D (.lst ys)) s5 := by
          refine I2.call' (s' := s5) (ch := fp) ?_ ⟨u5.keep, u5.slot, fun b o e n hx => ?_, u5.there, fun b xs e => ?_, fun b o u e => ?_, fun b ps e => ?_⟩ ?_ I5.bare fun b hb => ⟨(f2 b hb).2.2.2.1, (f2 b hb).2.1, (f2 b hb).2.2.2.2.1, (f2 b hb).2.2.2.2.2⟩
          · have z := I5.os
            rw [eS] at z
            exact z
          · rw [upd_ne (lt2 b o e)]; exact u5.free b o e n hx
          · have z := u5.tups b xs e
            rw [upd_ne (ne5 b _ z)]; exact z
          · have z := u5.frzs b o u e
            rw [upd_ne (ne5 b _ z)]; exact z
          · obtain ⟨more, z⟩ := u5.tbls b ps e
            exact ⟨more, by rw [upd_ne (ne5 b _ z)]; exact z⟩
          · intro a o e
            by_cases ha : a = D
            · subst ha
              rw [upd_same] at e
              cases e
              exact ⟨hz, its, k, v4, o5⟩
            · rw [upd_ne ha] at e
              exact (hk5 a o e).stay (fun _ _ _ q => q) (fun b q => by rw [upd_ne (ne5 b _ q)]; exact q) fun b xs q => by rw [upd_ne (ne5 b _ q)]; exact q
        refine fin' mC _ s5 IX ?_ hNs (qn D d4)
        have hCN : H4 C = none := by
          have z := I5.free
          rw [eL] at z
          exact z
        refine ⟨by rw [upd_ne (Ne.symm hDC)]; exact hCN, ?_, ?_, .inr ?_, fun x c e => ?_, fun q hq => ?_⟩
        · have : @LT.lt Nat _ X.env.locals s2.heap.objs.size := I2.lt
          exact ne_gt (by omega)
        · exact I2.nofs (by rw [hDn]; omega)
        · have := I2.sz; omega
        · obtain ⟨v, z⟩ := I2.cell x c e
          have := cell_lt z
          exact ne_lt (by omega)
        · have := lt_sz (I2.pin q hq).1
          exact ne_lt (by omega)
      · have T' := T
        rw [← eP, ← eW, ← eK] at T'
        refine wpAny_mono (T'.item XB rfl rfl rfl eCa i _ s4 σ4 H4 (fun _ _ => False) I4' (fpk fr4 pD) st4 go) (fun r s5 ⟨u, hr, h5⟩ => ?_) fun _ _ z => z
        subst hr
        refine thn h5 fun _ s6 ⟨x, H6, I6, r6, y6, st6, fr6⟩ => ?_
        have I6' := I6.pinned (fpk fr6 pD) (T.obj _ _ st6)
        obtain ⟨hg0, ht0, he0⟩ := hb0
        rw [← eE]
        have hgo := hg0 _ s6 σ4 H6 x u _ I6' r6 (step x H6 y6)
        rw [eX] at hgo
        refine thn hgo fun _ s7 ⟨σ7, H7, I7, q7⟩ => ?_
        have hto := ht0 _ s7 σ7 H7 _ I7 q7
        rw [eX] at hto
        refine thn hto fun b s8 ⟨H8, I8, q8⟩ => ?_
        have back : ∀ {σ9 : St} {H9 : Hp} {s9 : Shared}, Inv XB ([(D, { cls := .type "list", data := .seq its.toArray k })] ++ pinsAt fp s6.heap) σ9 H9 s9 → tn (i + 1) s9.heap ∧ (∀ b ∈ fp, H9 b = none) ∧ H9 D = none ∧ s9.heap.get? D = some { cls := .type "list", data := .seq its.toArray k } := fun {σ9 H9 s9} I9 => by
          have z := I9.pin (D, { cls := .type "list", data := .seq its.toArray k }) (List.mem_append_right _ (List.mem_append_left _ (List.mem_singleton.mpr rfl)))
          refine ⟨T.keep _ _ _ st6 fun b hb o e => (I9.pin (b, o) (List.mem_append_right _ (List.mem_append_right _ (mem_pinsAt hb e)))).1, fun b hb => ?_, z.2.1, z.1⟩
          obtain ⟨o, e, _⟩ := T.obj _ _ st6 b hb
          exact (I9.pin (b, o) (List.mem_append_right _ (List.mem_append_right _ (mem_pinsAt hb e)))).2.1
        cases b with
        | false =>
          rw [if_neg Bool.false_ne_true] at q8 ⊢
          obtain ⟨m', hm, w8⟩ := hN _ _ _ q8
          obtain ⟨t1, t2, t3, t4⟩ := back I8
          exact ⟨m', hm, i + 1, ys, σ7, H8, its, k, I8.pins_of (fun q hq => nomatch hq), t1, t2, t3, t4, v4, w8⟩
        | true =>
          rw [if_pos rfl] at q8 ⊢
          have heo := he0 _ s8 σ7 H8 _ I8 q8
          rw [eX] at heo
          refine thn heo fun yv s9 ⟨y, H9, I9, r9, n9⟩ => ?_
          obtain ⟨m', hm, w9⟩ := hN _ _ _ n9
          obtain ⟨t1, t2, t3, t4⟩ := back I9
          have hsz : its.toArray.size ≤ sizeLine := by
            have e := v4.length
            have e2 : its.toArray.size = its.length := by simp
            omega
          refine append_at (hsz := hsz) t4 fun h' hs' hD' => ?_
          · refine ⟨m', hm, i + 1, ys ++ [y], σ7, H9, its ++ [yv], k + 1, ?_, T.keep _ _ _ t1 fun b hb o e => hs'.extBut b o (ne_lt (fpD b hb)) e, t2, t3, ?_, v4.append (.cons r9 .nil), w9⟩
            · refine (I9.pins_of (pins' := []) (fun q hq => nomatch hq)).turned (t' := s9.toks) (it := D) (fun b o hb e => hs'.extBut b o hb e) t3 ?_ (.inr ?_) (fun x c e => ?_) fun q hq => ?_
              · rw [eL]; exact hDC
              · rw [eS]; omega
              · rw [eCl] at e
                exact ne_lt (celt x c e)
              · rw [ePn] at hq
                exact nomatch hq
            · rw [hD']
              simp
    ·
      refine ⟨okB, by rw [eS], I2.bare, by rw [eFs, eEx, eH, eS]; exact Un.kept old, ⟨_, by rw [eL]; exact hns₁, fun j x v h1 h2 h3 => ?_⟩, fun x c e => ?_, ?_, fun x c e => ?_, fun q hq => ?_, by rw [eP, eW]; exact I2.hok.kept old, by rw [eN]; exact hcap.len⟩
      · rw [eN] at h1
        obtain ⟨i, g1, g2, g3, g4⟩ := hcap.at h1 h2
        obtain ⟨m, hn, hl⟩ := I2.loc
        have hv : Vis X.env.scope x := by
          rcases g4 with z | z
          · exact .inr (.inl z)
          · exact .inr (.inr z)
        obtain ⟨u, r, l⟩ := hl i x v g1 g2 hv
        refine ⟨u, r, .inr ⟨?_, ?_⟩⟩
        · rw [eE]
          exact (relabel_free g3).symm
        · rcases l with ⟨hk, _⟩ | ⟨_, c, e, z⟩
          · rcases g4 with y | y
            · rw [y] at hk; cases hk
            · rw [y] at hk; cases hk
          · obtain ⟨c', e'⟩ := hcl2 x (PySem.mem_of_lookup g3)
            have := hcl1 x c' e'
            rw [e] at this
            cases this
            obtain ⟨o, ho, hd⟩ := z
            exact ⟨c, by rw [eCl]; exact e', o, old c o ho, hd⟩
      · rw [eCl] at e
        obtain ⟨v, o, ho, hd⟩ := I2.cell x c (hcl1 x c e)
        exact ⟨v, o, old c o ho, hd⟩
      · rw [eL]
        exact I2.hok.fresh (by rw [hDn]; omega)
      · rw [eCl] at e
        exact I2.freeC x c (hcl1 x c e)
      · rw [ePn] at hq
        exact nomatch hq
  exact codeAny_compStart_list (loop _ rfl) (T.self X.A 0 _ _ _ (T.keep _ _ _ st2 fun b hb o e => old b o e) (loop _ rfl))
theorem free_of {X : Cx} {sc : Scope} (h : (sc.names.all fun y => y.2 != .free || (X.env.kindOf y.1 == some .cell || X.env.kindOf y.1 == some .free)) = true) :
    ∀ y ∈ sc.names, y.2 = .free → X.env.kindOf y.1 = some .cell ∨ X.env.kindOf y.1 = some .free := fun y hy e => by
  have z := List.all_eq_true.mp h y hy
  rw [e] at z
  simpa using z
theorem pe_comp {X : Cx} {tg iter elt : Expr} {ifs : List Expr} {sc : Scope} {pos : Pos} {N' : List Str} {cap : List (Option Nat)} {wi : TI} {g : TG} {tst : TT} {te : TE}
    (hc : X.calm = true) (hi : PI X tg iter wi) (hcap : Caps X sc N' cap)
    (hb : ∀ cl C s₂ H₂ fp, PG (blk X N' sc cl C s₂ H₂ fp) tg g ∧ PTs (blk X N' sc cl C s₂ H₂ fp) ifs tst ∧ PE (blk X N' sc cl C s₂ H₂ fp) elt te)
    (hkind : sc.kind = .function := by rfl) (hcell : ∀ y ∈ sc.names, y.2 ≠ .cell := by decide) (hnames : ∀ y ∈ sc.names, y.2 = .local → sc.names.lookup y.1 = some .local := by decide)
    (hfree : (sc.names.all fun y => y.2 != .free || (X.env.kindOf y.1 == some .cell || X.env.kindOf y.1 == some .free)) = true := by rfl)
    (hs : ∀ x, foldedSetIterable iter X.env x = pure x := by intro _; rfl) : PE X (.ListComp elt [⟨tg, iter, ifs, 0⟩] sc pos) (tComp cap wi g tst te) := by
  intro pins s σ H Q I h
  rw [eval_ListComp]
  refine comp_run (use := none) hc hi hkind hcell hnames (free_of hfree) hcap hb I h (fun D C m H' s' I' f' hn q => ?_) hs
  refine ⟨m, hn, fun h' hs' => ⟨.ref D, H', ?_, rfl, q⟩⟩
  exact I'.turned (t' := s'.toks) (it := C) (fun b o hb e => hs'.extBut b o hb e) f'.1 f'.2.1.symm.symm f'.2.2.2.1 f'.2.2.2.2.1 f'.2.2.2.2.2
theorem ps_comp {X : Cx} {i : Nat} {y : Str} {tg iter elt : Expr} {ifs : List Expr} {sc : Scope} {pos spos py : Pos} {N' : List Str} {cap : List (Option Nat)} {wi : TI} {g : TG} {tst : TT} {te : TE}
    (hN : X.N.Nodup) (hi' : X.N[i]? = some y) (hy : Loc X.env.scope y)
    (hc : X.calm = true) (hi : PI X tg iter wi) (hcap : Caps X sc N' cap)
    (hb : ∀ cl C s₂ H₂ fp, PG (blk X N' sc cl C s₂ H₂ fp) tg g ∧ PTs (blk X N' sc cl C s₂ H₂ fp) ifs tst ∧ PE (blk X N' sc cl C s₂ H₂ fp) elt te)
    (hsw : swapsWith (.ListComp elt [⟨tg, iter, ifs, 0⟩] sc pos) (some (.Name y py)) spos.line X.env = pure true := by rfl)
    (hf : X.fn y = true ∨ X.env.scope.names.lookup y = some .local := by first | exact .inl rfl | exact .inr rfl | assumption)
    (hkind : sc.kind = .function := by rfl) (hcell : ∀ y ∈ sc.names, y.2 ≠ .cell := by decide) (hnames : ∀ y ∈ sc.names, y.2 = .local → sc.names.lookup y.1 = some .local := by decide)
    (hfree : (sc.names.all fun y => y.2 != .free || (X.env.kindOf y.1 == some .cell || X.env.kindOf y.1 == some .free)) = true := by rfl)
    (hs : ∀ x, foldedSetIterable iter X.env x = pure x := by intro _; rfl) : PS X (.Assign [.Name y py] (.ListComp elt [⟨tg, iter, ifs, 0⟩] sc pos) spos) (tAsg (tComp cap wi g tst te) (gName i)) := by
  intro pins s σ H Dn I h
  rw [exec_Assign_Name_used _ _ _ _ hsw]
  refine wpAny_bind (wpAny_standAt (wpAny_bind ?_))
  show wpAny _ X.A (do let _ ← comprehension (.ListComp elt [⟨tg, iter, ifs, 0⟩] sc pos) sc X.env _ (newList []) false (eval iter X.env) (some (assign (.Name y py) X.env))) _ _ s
  refine wpAny_bind (wpAny_mono (comp_run (use := some (assign (.Name y py) X.env)) (Q := fun x H1 => Dn.nx (σ.set i (some x)) H1) (Q' := fun _ s' => SP X pins Dn .next s') hc hi hkind hcell hnames (free_of hfree) hcap hb I h (fun D C m H' s' I' f' hn q => ?_) hs)
    (fun _ s' hq => wpAny_pure (wpAny_pure hq)) fun _ _ e => e)
  obtain ⟨o, es, ep, ho, hd, hr⟩ := id hn
  have I2 := I'.pinned (fp := [C]) (fun b hb => by rw [List.mem_singleton.mp hb]; exact f') fun b hb => by
    rw [List.mem_singleton.mp hb]
    exact ⟨o, ho, fun v => by rw [hd]; simp⟩
  refine wpAny_assign_Name (store_ok I2 hN hi' hy (v := .ref D) rfl (fun s2 I3 => ?_) hf)
  have z := (I3.pin (C, o) (List.mem_append_right _ (List.mem_append_right _ (mem_pinsAt (List.mem_singleton.mpr rfl) ho)))).1
  refine ⟨m, ⟨o, es, ep, z, hd, hr⟩, fun h' hs' => ⟨_, H', ?_, q⟩⟩
  exact I3.unpinned.turned (t' := s2.toks) (it := C) (fun b o hb e => hs'.extBut b o hb e) f'.1 f'.2.1 f'.2.2.2.1 f'.2.2.2.2.1 f'.2.2.2.2.2
end L2
namespace L2
open PySem PySem.Spec PyProof.Rows
section
variable {X : Cx}
theorem comp_list {K : PySem.W.Frag} {a : Addr} {xs : List V} {g : TG} {tst : TT} {te : TE} {σ : St} {H : Hp} {Q : VK} (Pv : Nat → List V → St → Hp → Prop) (h0 : Pv 0 [] σ H)
    (hl : ∀ i ys σ H, i ≤ xs.length → Pv i ys σ H → SqL K H a xs ∧ ys.length < sizeLine)
    (hs : ∀ i x ys σ H, xs[i]? = some x → Pv i ys σ H → g x σ H fun σ2 H3 => tst σ2 H3 fun b H4 => if b = true then te σ2 H4 fun y H5 => Pv (i + 1) (ys ++ [y]) σ2 H5 else Pv (i + 1) ys σ2 H4)
    (hd : ∀ ys σ H, Pv xs.length ys σ H → ∀ D, H D = none → Q (.ref D) (upd H D (.lst ys))) :
    CompG g tst te σ Q (Itl K a) H := by
  refine ⟨fun i m ys σ H => m = xs.length - i ∧ i ≤ xs.length ∧ Pv i ys σ H, ⟨xs.length, by simp, Nat.zero_le _, h0⟩, ?_⟩
  rintro i m ys σ H ⟨rfl, hi, p⟩
  obtain ⟨q, hz⟩ := hl i ys σ H hi p
  by_cases hlt : i < xs.length
  · refine .inr ⟨⟨xs, xs[i], q, by simp [hlt]⟩, hz, Pv (i + 1), fun ys' σ' H' p' => ⟨xs.length - (i + 1), by omega, rfl, hlt, p'⟩, fun x H' y => ?_⟩
    obtain ⟨e, y⟩ := y
    subst e
    exact hs i x ys σ _ (y xs q) p
  · have e : i = xs.length := by omega
    subst e
    exact .inl ⟨⟨xs, q, Nat.le_refl _⟩, Nat.le_of_lt hz, hd ys σ H p⟩
def rSlS : V → Option Int → Option Int → Hp → VK → Prop := fun x lo hi H Q => ∃ z, x = .str z ∧ z.length ≤ sizeLine ∧ Q (.str (Txt.slice z lo hi)) H
theorem sl_str : SlR X rSlS := by
  intro pins s σ H x v vl vu lo hi sl Q I rx hs pl pu h
  obtain ⟨z, rfl, hz, q⟩ := h
  obtain ⟨t, rfl⟩ := rx
  refine ⟨"str", _, PySem.F.slot_str_getitem.lookup, typeIs_str s z t, ?_⟩
  obtain ⟨o, h1, h2, h3⟩ := hs
  have fin : ∀ (y : Str) (t' k : Nat), y = Txt.slice z lo hi → EP X pins σ Q (.str y t') { s with toks := k } := fun y t' k e => by subst e; exact ⟨.str _, H, I.tok k, ⟨_, rfl⟩, q⟩
  cases pl with
  | none =>
    cases pu with
    | none => exact wpAny_getItem_str_slice (l := none) (u := none) (st := none) ⟨o, h1, h2, h3⟩ rfl (post_val_or_str ⟨Nat.le_trans (Txt.slice_le z _ _) hz, fun t' k => fin _ t' k rfl⟩)
    | int j uj => exact wpAny_getItem_str_slice (l := none) (u := some (j, uj)) (st := none) ⟨o, h1, h2, h3⟩ rfl (post_val_or_str ⟨Nat.le_trans (Txt.slice_le z _ _) hz, fun t' k => fin _ t' k rfl⟩)
  | int i ui =>
    cases pu with
    | none => exact wpAny_getItem_str_slice (l := some (i, ui)) (u := none) (st := none) ⟨o, h1, h2, h3⟩ rfl (post_val_or_str ⟨Nat.le_trans (Txt.slice_le z _ _) hz, fun t' k => fin _ t' k rfl⟩)
    | int j uj => exact wpAny_getItem_str_slice (l := some (i, ui)) (u := some (j, uj)) (st := none) ⟨o, h1, h2, h3⟩ rfl (post_val_or_str ⟨Nat.le_trans (Txt.slice_le z _ _) hz, fun t' k => fin _ t' k rfl⟩)
theorem strsAre_of {ys : List Str} : ∀ {us : List Value}, Vals (ys.map V.str) us → StrsAre us ys := by
  induction ys with
  | nil => intro us r; rw [List.map_nil] at r; cases r; exact .nil
  | cons n ns ih =>
    intro us r
    rw [List.map_cons] at r
    cases r with
    | cons r1 r2 =>
      obtain ⟨t, e⟩ := r1
      subst e
      exact .cons n t (ih r2)
def rJoin (K : PySem.W.Frag) : V → List V → Hp → VK → Prop := fun x xs H Q => ∃ sep l ys, x = .str sep ∧ xs = [.ref l] ∧ SqL K H l (ys.map V.str) ∧ (ys.map (·.length)).sum + ys.length * sep.length ≤ 16777216 ∧ Q (.str (Txt.join sep ys)) H
theorem mt_join : MtR X "str.join" (rJoin X.K) := by
  intro pins s σ H x xs v us Q I rx rs h
  obtain ⟨sep, l, ys, rfl, rfl, hl, hw, q⟩ := h
  obtain ⟨t, rfl⟩ := rx
  obtain ⟨u, rfl, ru⟩ := Vals.one rs
  cases ru
  obtain ⟨its, r, pl, hz⟩ := I.list hl
  exact join_list pl.isList (by simpa using strsAre_of r) hw fun t' k => ⟨.str _, H, I.tok k, ⟨_, rfl⟩, q⟩
theorem vals_bl {bs : List Bool} : ∀ {us : List Value} {i : Nat} {v : Value}, Vals (bs.map V.bl) us → us[i]? = some v → ∃ b, bs[i]? = some b ∧ v = .bool b := by
  induction bs with
  | nil => intro us i v r h; rw [List.map_nil] at r; cases r; simp at h
  | cons b bs ih =>
    intro us i v r h
    rw [List.map_cons] at r
    cases r with
    | cons r1 r2 =>
      cases i with
      | zero =>
        simp only [List.getElem?_cons_zero, Option.some.injEq] at h
        subst h
        exact ⟨b, by simp, r1⟩
      | succ i =>
        obtain ⟨c, h1, h2⟩ := ih r2 (by simpa using h)
        exact ⟨c, by simpa using h1, h2⟩
theorem all_range (bs : List Bool) : (List.range bs.length).all (fun i => bs.getD i false) = bs.all id := by
  have e : (List.range bs.length).map (fun i => bs.getD i false) = bs := by
    apply List.ext_getElem
    · simp
    · intro i h1 h2
      simp at h1
      simp [h1]
  conv => rhs; rw [← e]
  rw [List.all_map]
  rfl
theorem call_all (hc : X.calm = true) : CallR X (.builtin "all") (fun xs H Q => ∃ (l : Addr) (bs : List Bool), xs = [.ref l] ∧ SqL X.K H l (bs.map V.bl) ∧ Q (.bl (bs.all id)) H) := by
  intro pins s σ H xs us Q I r h
  obtain ⟨l, bs, rfl, hl, q⟩ := h
  obtain ⟨u, rfl, ru⟩ := vals1 r
  cases ru
  obtain ⟨its, rv, pl, hz⟩ := I.list hl
  have hlt : l < s.heap.objs.size := by obtain ⟨_, e, _⟩ := pl.isList; exact Heap.lt_size e
  have hlen : its.toArray.size = bs.length := by
    have e := rv.length
    rw [List.length_map] at e
    simp [e]
  refine call_all_walk (wpAny_pyIter_list pl.isList ?_)
  refine ⟨s.heap.objs.size, [s.heap.objs.size, l], [s.heap.objs.size], its.toArray.size, _, _, fun i => bs.getD i false, rfl, Walks.list (show X.A.in1.handled = none from I.ok.hd hc) s.heap.objs.size l (Nat.ne_of_lt hlt) its.toArray, ⟨⟨_, Heap.get?_push_size _ rfl, rfl, rfl⟩, pl.isList.push _⟩, ?_, fun h' tk hk => ?_⟩
  · intro i v s' Q' E' hP hq
    obtain ⟨b, h1, rfl⟩ := vals_bl rv (by simpa using hP)
    have e : bs.getD i false = b := by simp [List.getD, h1]
    exact wpAny_truthy_bool (e ▸ hq)
  · refine ⟨.bl _, H, I.kept (t' := tk) (h' := h') fun b o e => hk b o (by simpa using Nat.ne_of_lt (Heap.lt_size e)) (Heap.get?_push_of_some _ e), rfl, ?_⟩
    rw [hlen, all_range]
    exact q
theorem call_isi : CallR X (.builtin "isinstance") (fun xs H Q => ∃ x T t b, xs = [x, .ty T] ∧ TyOf X.K H x t ∧ PySem.W.kitOne X.K t (.type T) = some b ∧ Q (.bl b) H) := by
  intro pins s σ H xs us Q I r h
  obtain ⟨x, T, t, b, rfl, ty, e, q⟩ := h
  obtain ⟨u, w', rfl, ru, rw'⟩ := vals2 r
  cases rw'
  exact isinst_ok I ru ty e fun tk => ⟨.bl b, H, I.tok tk, rfl, q⟩
end
section
variable {prog : Program} {w : World} {A : Around} {E : Value → Shared → Prop} {s : Shared}
theorem nolen_lri : typeLookup (.type "list_reverseiterator") "__len__" = pure none := by rw [typeLookup_type, builtinLookup_eq_fast]; kernel_rfl
theorem hint_lri : typeLookup (.type "list_reverseiterator") "__length_hint__" = pure (some (.builtin "list_reverseiterator.__length_hint__")) := by rw [typeLookup_type, builtinLookup_eq_fast]; kernel_rfl
theorem extend_lri {R : Result → Shared → Prop} {I : Addr} {fp wr : List Addr} {n : Nat} {P : Nat → Value → Prop} {St : Nat → Heap → Prop} (W : Walks prog w A.in1 I fp wr n P St) (hT : ∀ i (s : Shared), St i s.heap → s.TypeIs (.ref I) "list_reverseiterator") (S : Addr) (res : Value) (c₀ : Nat) (hst : St 0 s.heap) (hSf : S ∉ fp) (hI : I ∈ fp)
    (hS : s.heap.get? S = some { cls := .type "list", data := .seq #[] c₀ })
    (hR : ∀ s' acc' c', Moved (S :: wr) (fun g g' => g' = g) s s' → s'.heap.get? S = some { cls := .type "list", dict := none, data := .seq acc' c', slots := #[] } → ItemsOf P acc' n → R (.ok (.ret res)) s') (hn : n ≤ sizeLine) :
    wpAny (model prog w) A.in1 (Builtin.List.listExtendWith (.ref S) (.ref I) res)
      (fun fin s' => match fin with | .done f => R (.ok f) s' | .again c' => c'.quiet = true ∧ codeAny (model prog w) A c' R s') (fun e s' => R (.error e) s') s := by
  have hSI : S ≠ I := fun e => hSf (e ▸ hI)
  have h1 : Builtin.List.listSameRef (.ref S) (.ref I) = false := by simp [Builtin.List.listSameRef, hSI]
  unfold Builtin.List.listExtendWith
  refine wpAny_bind (wpAny_typeOf (hT 0 _ hst) ?_)
  rw [if_neg (by rw [h1]; decide)]
  refine wpAny_bind (W.self 0 _ _ _ hst ?_)
  refine wpAny_bind (wpAny_holding ?_)
  unfold Builtin.List.listLengthHint
  refine wpAny_bind (wpAny_specialOf (hT 0 _ hst) nolen_lri ?_)
  show wpAny _ A.in1 (specialOf (Value.ref I) (Str.ofString "__length_hint__") >>= _) _ _ _
  refine wpAny_bind (wpAny_specialOf (hT 0 _ hst) hint_lri ?_)
  generalize hid : ("list_reverseiterator.__length_hint__" : String) = id0
  wp_delta
  rw [show splitId id0 = some ("list_reverseiterator", "__length_hint__") from by subst hid; decide +kernel]
  subst hid
  refine wpAny_bind (wpAny_isInstance (b := true) (hT 0 _ hst) (by rw [isSubtype_type]; kernel_rfl) ?_)
  refine wpAny_pure ?_
  rw [if_neg (by decide)]
  exact wpAny_pure ⟨plainId_quiet F.plain_extend_loop _, codeAny_extend_loopS W.toS hn _ hSf _ n 0 _ _ _ rfl (Nat.zero_le _) hst hS (ItemsOf.nil P) fun s' acc' c' hm hS' hacc => hR s' acc' c' hm hS' hacc⟩
theorem init_lri {R : Result → Shared → Prop} {I : Addr} {fp wr : List Addr} {n : Nat} {P : Nat → Value → Prop} {St : Nat → Heap → Prop} (W : Walks prog w A.in1 I fp wr n P St) (hT : ∀ i (s : Shared), St i s.heap → s.TypeIs (.ref I) "list_reverseiterator") (S : Addr) (hst : St 0 s.heap) (hSf : S ∉ fp) (hI : I ∈ fp)
    (hS : s.heap.get? S = some { cls := .type "list", data := .seq #[] })
    (hR : ∀ s' acc' c', Moved (S :: wr) (fun g g' => g' = g) s s' → s'.heap.get? S = some { cls := .type "list", dict := none, data := .seq acc' c', slots := #[] } → ItemsOf P acc' n → R (.ok (.ret .none)) s') (hn : n ≤ sizeLine) :
    wpAny (model prog w) A.in1 (Builtin.«list.__init__» ⟨[.ref S, .ref I], []⟩)
      (fun fin s' => match fin with | .done f => R (.ok f) s' | .again c' => c'.quiet = true ∧ codeAny (model prog w) A c' R s') (fun e s' => R (.error e) s') s := by
  show wpAny _ A.in1 (do let old ← Builtin.List.listItems (.ref S); Builtin.List.listUpdate (.ref S) (fun _ => #[]); letGo old.toList.reverse; Builtin.List.listExtendWith (.ref S) (.ref I) .none) _ _ s
  refine wpAny_bind ?_
  unfold Builtin.List.listItems
  refine wpAny_bind (wpAny_seqItems hS rfl (wpAny_pure ?_))
  show wpAny _ A.in1 (updateSeq S (fun _ => #[]) >>= fun _ => letGo (#[] : Array Value).toList.reverse >>= fun _ => Builtin.List.listExtendWith (.ref S) (.ref I) .none) _ _ s
  refine wpAny_bind (wpAny_updateSeq hS rfl ?_)
  have hS₂ := Heap.get?_update_self (Obj.mapSeq (fun _ => (#[] : Array Value))) hS rfl
  have oth : ∀ b o, b ≠ S → s.heap.get? b = some o → (s.heap.update S (Obj.mapSeq (fun _ => (#[] : Array Value)))).get? b = some o :=
    fun b o hb e => (Heap.get?_update_other _ _ (Ne.symm hb)).trans e
  refine wpAny_bind (wpAny_letGo ?_)
  refine extend_lri (hn := hn) W hT S .none _ (W.frame 0 s.heap _ hst fun b hb o e => oth b o (fun h => hSf (h ▸ hb)) e) hSf hI hS₂ fun s' acc' c' hm hS' hacc => ?_
  exact hR s' acc' c' (Moved.trans (fun _ _ _ h1 h2 => h2.trans h1) ((Moved.refl (wr := S :: wr) (G := fun g g' => g' = g) (fun _ => rfl)).then_heap (Nat.le_refl _) fun b o hb e => oth b o (fun h => hb (by rw [h]; exact List.mem_cons_self)) e) hm) hS' hacc
theorem call_list_lri {Q : Value → Shared → Prop} {I : Addr} {fp wr : List Addr} {n : Nat} {P : Nat → Value → Prop} {St : Nat → Heap → Prop} (W : Walks prog w A.in1.in1 I fp wr n P St) (hT : ∀ i (s : Shared), St i s.heap → s.TypeIs (.ref I) "list_reverseiterator") (hst : St 0 s.heap) (hfp : ∀ b ∈ fp, b < s.heap.objs.size) (hI : I ∈ fp)
    (hQ : ∀ s' acc' c', Moved (s.heap.objs.size :: wr) (fun g g' => g' = g) { s with heap := s.heap.push { cls := .type "list", data := .seq #[] } } s' →
      s'.heap.get? s.heap.objs.size = some { cls := .type "list", dict := none, data := .seq acc' c', slots := #[] } → ItemsOf P acc' n → Q (.ref s.heap.objs.size) s') (hn : n ≤ sizeLine) :
    wpAny (model prog w) A (call (.type "list") [.ref I]) Q E s := by
  have hSf : s.heap.objs.size ∉ fp := fun hm => Nat.lt_irrefl _ (hfp _ hm)
  refine callType_codes (Q₁ := fun obj s₁ => obj = .ref s.heap.objs.size ∧ s₁ = { s with heap := s.heap.push { cls := .type "list", data := .seq #[] } }) F.called_list (F.typeCall_list_1 _) F.entry_list_init
    (code_list_new _ ⟨rfl, rfl⟩) fun obj s₁ h₁ => ?_
  obtain ⟨rfl, rfl⟩ := h₁
  have hS : (s.heap.push { cls := .type "list", data := .seq #[] }).get? s.heap.objs.size = some { cls := .type "list", data := .seq #[] } := Heap.get?_push_size _ rfl
  refine ⟨⟨_, hS, rfl⟩, F.args_list_init_2 _ _, init_lri (hn := hn) W hT _ (W.frame 0 s.heap _ hst fun b _ o e => Heap.get?_push_of_some _ e) hSf hI hS fun s' acc' c' hm hS' hacc => ?_⟩
  exact ⟨rfl, hQ s' acc' c' hm hS' hacc⟩
end
def tListRev (K : PySem.W.Frag) (te : TE) : TE := fun σ H Q => te σ H fun x H1 => ∃ l ys, x = .ref l ∧ SqL K H1 l ys ∧ ∀ q, H1 q = none → Q (.ref q) (upd H1 q (.lst ys.reverse))
theorem vals_rev {its : Array Value} {acc : Array Value} {ys : List V} (r : Vals ys its.toList) (h : ItemsOf (fun i v => its[its.size - 1 - i]? = some v) acc its.size) : Vals ys.reverse acc.toList := by
  have e : acc.toList = its.toList.reverse := by
    apply List.ext_getElem?
    intro i
    by_cases hi : i < its.size
    · have h1 : i < acc.size := by rw [h.1]; exact hi
      have h2 := h.2 i acc[i] (by simp [h1])
      rw [List.getElem?_reverse (by simpa using hi)]
      simp only [Array.length_toList, Array.getElem?_toList]
      rw [h2]
      simp [h1]
    · have h1 : ¬ i < acc.size := by rw [h.1]; exact hi
      rw [List.getElem?_eq_none (by simpa using h1), List.getElem?_eq_none (by simpa using hi)]
  rw [e]
  exact Vals.reverse r
theorem pe_listrev {X : Cx} {e : Expr} {te : TE} {p1 p2 pos2 pos : Pos} (hc : X.calm = true) (hg1 : Gl X "list") (hm1 : X.mg "list" = none) (hg2 : Gl X "reversed") (hm2 : X.mg "reversed" = none) (he : PE X e te)
    (hs1 : starEach [e] X.env = [(false, eval e X.env)] := by rfl) (hs2 : starEach [.Call (.Name "reversed" p2) [e] [] pos2] X.env = [(false, eval (.Call (.Name "reversed" p2) [e] [] pos2) X.env)] := by rfl) :
    PE X (.Call (.Name "list" p1) [.Call (.Name "reversed" p2) [e] [] pos2] [] pos) (tListRev X.K te) := by
  intro pins s σ H Q I h
  refine wpAny_Call_Name_kw (ld_blt I hg1 hm1 boot_list ?_)
  refine PyProof.Rows.callWith_type1 ?_ hs2 rfl
  rw [hs2]
  show wpAny _ _ (spliced ((false, eval (.Call (.Name "reversed" p2) [e] [] pos2) X.env) :: backTo pos (starEach [] X.env))) _ _ s
  refine Calls.spliced_cons ?_
  refine wpAny_Call_Name_kw (ld_blt I hg2 hm2 boot_reversed ?_)
  refine PyProof.Rows.callWith_type1 ?_ hs1 rfl
  rw [hs1]
  show wpAny _ _ (spliced ((false, eval e X.env) :: backTo pos2 (starEach [] X.env))) _ _ s
  refine Calls.spliced_cons (thn (he pins s σ H _ I h) fun u s1 ⟨x, H1, I1, r1, l, ys, ex, hl, q⟩ => ?_)
  subst ex
  cases r1
  refine Calls.spliced_nil ?_
  obtain ⟨its, rv, pl, hz⟩ := I1.list hl
  have hlt : l < s1.heap.objs.size := by obtain ⟨_, e, _⟩ := pl.isList; exact Heap.lt_size e
  refine call_reversed_list pl.isList (Calls.spliced_nil ?_)
  have W := Walks.listRev (prog := X.prog) (w := X.w) (A := X.A.in1.in1) (show X.A.in1.in1.handled = none from I.ok.hd hc) s1.heap.objs.size l (Nat.ne_of_lt hlt) its.toArray
  refine call_list_lri (s := { s1 with heap := s1.heap.push (revObj l ((its.toArray.size : Int) - 1)) }) W (fun i s' st => st.2.1.typeIs) ⟨Nat.zero_le _, ⟨_, Heap.get?_push_size _ rfl, rfl, by simp [revObj]⟩, pl.isList.push _⟩ (fun b hb => ?_) (by simp) (fun s' acc' c' hm hS' hacc => ?_) ?_
  · show b < (s1.heap.push _).objs.size
    rw [Heap.size_push]
    rcases List.mem_cons.mp hb with z | z
    · rw [z]; exact Nat.lt_succ_self _
    · rw [List.mem_singleton.mp z]; exact Nat.lt_succ_of_lt hlt
  · rw [Moved.eq_with hm]
    have kp : ∀ b o, s1.heap.get? b = some o → s'.heap.get? b = some o := fun b o e => hm.heap b o (fun z => by
      have hb : @LT.lt Nat _ b s1.heap.objs.size := Heap.lt_size e
      rcases List.mem_cons.mp z with z | z
      · rw [z] at hb
        simp only [Heap.size_push] at hb
        omega
      · rw [List.mem_singleton.mp z] at hb
        omega) (Heap.get?_push_of_some _ (Heap.get?_push_of_some _ e))
    have hv : Vals ys.reverse acc'.toList := vals_rev (its := its.toArray) (by simpa using rv) hacc
    have hf : H1 ((s1.heap.push (revObj l ((its.toArray.size : Int) - 1))).objs.size) = none := I1.hok.fresh (by rw [Heap.size_push]; omega)
    refine ⟨.ref _, _, I1.laid (t' := s'.toks) (h' := s'.heap) (o := .lst ys.reverse) kp (by rw [Heap.size_push]; omega) ⟨by rw [List.length_reverse]; exact hz, acc'.toList, c', hv, by simpa using hS'⟩, rfl, q _ hf⟩
  · have e := rv.length
    rw [List.size_toArray]
    omega
end L2
namespace L2
open PySem PySem.Spec PyProof.Rows
section
variable {X : Cx}
def CDivB (_ j : Int) : Prop := 0 < j ∧ j < 18446744073709551616
theorem op_fdivB : OpR X (binaryOp .FloorDiv) (rI CDivB fun i j => .int (i / j)) := opI fun i j _ _ _ _ _ hc q => by
  obtain ⟨h1, h2⟩ := hc
  have e : i.fdiv j = i / j := Int.fdiv_eq_ediv_of_nonneg _ (by omega)
  refine floordiv_int (by omega) (by rw [e]; exact q) (.inl (PyProof.noPylong_of_log2 ?_))
  have h3 : j.natAbs < 2 ^ 64 := by omega
  have h4 : j.natAbs ≠ 0 := by omega
  exact Nat.lt_trans ((Nat.log2_lt h4).mpr h3) (by decide)
end
def dk (s n : Int) (l : Addr) : List (Key × V) := [(.inr "seed", .int s), (.inr "number", .int n), (.inr "left", .ref l)]
theorem dk_seed {s n : Int} {l : Addr} : valV (dk s n l) (.inr "seed" : Key) = some (.int s) := by kernel_rfl
theorem dk_number {s n : Int} {l : Addr} : valV (dk s n l) (.inr "number" : Key) = some (.int n) := by kernel_rfl
theorem dk_left {s n : Int} {l : Addr} : valV (dk s n l) (.inr "left" : Key) = some (.ref l) := by kernel_rfl
theorem put_number {s n m : Int} {l : Addr} : putK (dk s n l) (.inr "number" : Key) (.int m) = dk s m l := by kernel_rfl
theorem put_seed {s n m : Int} {l : Addr} : putK (dk s n l) (.inr "seed" : Key) (.int m) = dk m n l := by kernel_rfl
structure DealS (H : Hp) (d l : Addr) (s n : Int) (ls : List Int) : Prop where
  hd : H d = some (.dK (dk s n l))
  hl : H l = some (.lst (ls.map V.int))
  s0 : 0 ≤ s
  s1 : s < 2147483647
  n0 : 0 ≤ n
  l0 : ∀ x ∈ ls, 0 ≤ x
def Deal (H : Hp) (d l : Addr) : Prop := ∃ s n ls, DealS H d l s n ls
def Kp (d l : Addr) (H H' : Hp) : Prop := ∀ b o, H b = some o → b ≠ d → b ≠ l → H' b = some o
theorem Kp.refl {d l : Addr} {H : Hp} : Kp d l H H := fun _ _ h _ _ => h
theorem Kp.trans {d l : Addr} {H H1 H2 : Hp} (a : Kp d l H H1) (b : Kp d l H1 H2) : Kp d l H H2 := fun c o h h1 h2 => b c o (a c o h h1 h2) h1 h2
theorem DealS.ne {H : Hp} {d l : Addr} {s n : Int} {ls : List Int} (D : DealS H d l s n ls) : d ≠ l := ne_of D.hd D.hl (by intro z; cases z)
theorem DealS.num {H : Hp} {d l : Addr} {s n m : Int} {ls : List Int} (D : DealS H d l s n ls) (h : 0 ≤ m) : DealS (upd H d (.dK (putK (dk s n l) (.inr "number" : Key) (.int m)))) d l s m ls :=
  ⟨by rw [upd_same, put_number], by rw [upd_ne D.ne.symm]; exact D.hl, D.s0, D.s1, h, D.l0⟩
theorem DealS.seed {H : Hp} {d l : Addr} {s n m : Int} {ls : List Int} (D : DealS H d l s n ls) (h : 0 ≤ m) (h2 : m < 2147483647) : DealS (upd H d (.dK (putK (dk s n l) (.inr "seed" : Key) (.int m)))) d l m n ls :=
  ⟨by rw [upd_same, put_seed], by rw [upd_ne D.ne.symm]; exact D.hl, h, h2, D.n0, D.l0⟩
theorem DealS.list {H : Hp} {d l : Addr} {s n : Int} {ls ls' : List Int} (D : DealS H d l s n ls) (h : ∀ x ∈ ls', 0 ≤ x) : DealS (upd H l (.lst (ls'.map V.int))) d l s n ls' :=
  ⟨by rw [upd_ne D.ne]; exact D.hd, upd_same, D.s0, D.s1, D.n0, h⟩
theorem Kp.updd {d l : Addr} {H H1 : Hp} {o : HO} (a : Kp d l H H1) : Kp d l H (upd H1 d o) := fun c u h h1 h2 => by rw [upd_ne h1]; exact a c u h h1 h2
theorem Kp.updl {d l : Addr} {H H1 : Hp} {o : HO} (a : Kp d l H H1) : Kp d l H (upd H1 l o) := fun c u h h1 h2 => by rw [upd_ne h2]; exact a c u h h1 h2
theorem Kp.new {d l p : Addr} {H H1 : Hp} {o : HO} (a : Kp d l H H1) (hp : H1 p = none) : Kp d l H (upd H1 p o) := fun c u h h1 h2 => by
  have z := a c u h h1 h2
  rw [upd_ne (ne_of_none z hp)]; exact z
theorem Same.new {p : Addr} {H H1 : Hp} {o : HO} (a : Same H H1) (hp : H1 p = none) : Same H (upd H1 p o) := fun c u h => by
  have z := a c u h
  rw [upd_ne (ne_of_none z hp)]; exact z
theorem Deal.new {d l p : Addr} {H : Hp} {o : HO} (D : Deal H d l) (hp : H p = none) : Deal (upd H p o) d l := by
  obtain ⟨s, n, ls, D⟩ := D
  exact ⟨s, n, ls, by rw [upd_ne (ne_of_none D.hd hp)]; exact D.hd, by rw [upd_ne (ne_of_none D.hl hp)]; exact D.hl, D.s0, D.s1, D.n0, D.l0⟩
theorem Deal.same {d l : Addr} {H H' : Hp} (D : Deal H d l) (h : Same H H') : Deal H' d l := by
  obtain ⟨s, n, ls, D⟩ := D
  exact ⟨s, n, ls, h _ _ D.hd, h _ _ D.hl, D.s0, D.s1, D.n0, D.l0⟩
def spDraw : Sp := fun vs H Q _ => ∃ (d l : Addr) (m : Int), vs = [.ref d, .int m] ∧ Deal H d l ∧ 0 < m ∧ m < 18446744073709551616 ∧
  ∀ (r : Int) (H' : Hp), 0 ≤ r → r < m → Deal H' d l → Kp d l H H' → Q (.int r) H'
def spDeal (K : PySem.W.Frag) : Sp := fun vs H Q _ => ∃ (a : Addr) (ns : List Int) (b : Int), vs = [.ref a, .int b] ∧ SqL K H a (ns.map V.int) ∧ ns.length ≤ 63 ∧ 0 ≤ b ∧ b ≤ 63 ∧
  ∀ (d l : Addr) (H' : Hp), H d = none → H l = none → Deal H' d l → Same H H' → Q (.ref d) H'
end L2
namespace L2
open PySem PySem.Spec PyProof.Rows
theorem while_inv {c : TT} {tb : TS} {D : Ends} {σ : St} {H : Hp} (I : Nat → St → Hp → Prop) {m : Nat} (h0 : I m σ H) (hend : ∀ m σ H, I m σ H → D.nx σ H)
    (hs : ∀ m σ H, I m σ H → D.nx σ H → c σ H fun b H1 => if b = true then ∃ N : St → Hp → Prop, (∀ σ' H', N σ' H' → ∃ m', m' < m ∧ I m' σ' H') ∧ tb { D with nx := N, ct := N, bk := D.nx } σ H1 else D.nx σ H1) : tWhile c tb D σ H :=
  ⟨I, ⟨m, h0⟩, fun m σ H h => hs m σ H h (hend m σ H h)⟩
theorem DealS.gseed {H : Hp} {d l : Addr} {s n : Int} {ls : List Int} (D : DealS H d l s n ls) : DGet H d (.str "seed") (some (.int s)) := by
  have z := DGet.k (k := (Sum.inr "seed" : Key)) D.hd
  rw [dk_seed] at z
  exact z
theorem DealS.gnum {H : Hp} {d l : Addr} {s n : Int} {ls : List Int} (D : DealS H d l s n ls) : DGet H d (.str "number") (some (.int n)) := by
  have z := DGet.k (k := (Sum.inr "number" : Key)) D.hd
  rw [dk_number] at z
  exact z
theorem DealS.gleft {H : Hp} {d l : Addr} {s n : Int} {ls : List Int} (D : DealS H d l s n ls) : DGet H d (.str "left") (some (.ref l)) := by
  have z := DGet.k (k := (Sum.inr "left" : Key)) D.hd
  rw [dk_left] at z
  exact z
theorem DealS.pnum {H : Hp} {d l : Addr} {s n m : Int} {ls : List Int} (D : DealS H d l s n ls) : DPut H d (.str "number") (.int m) (upd H d (.dK (putK (dk s n l) (.inr "number" : Key) (.int m)))) :=
  DPut.k (k := (Sum.inr "number" : Key)) D.hd (small1000 (by show 3 ≤ 1000; decide))
theorem DealS.pseed {H : Hp} {d l : Addr} {s n m : Int} {ls : List Int} (D : DealS H d l s n ls) : DPut H d (.str "seed") (.int m) (upd H d (.dK (putK (dk s n l) (.inr "seed" : Key) (.int m)))) :=
  DPut.k (k := (Sum.inr "seed" : Key)) D.hd (small1000 (by show 3 ≤ 1000; decide))
theorem mod_lt {x m : Int} (h : 0 < m) : 0 ≤ x % m ∧ x % m < m := ⟨Int.emod_nonneg _ (by omega), Int.emod_lt_of_pos _ h⟩
end L2
namespace L2
theorem cut_ints (ns : List Int) (lo hi : Option Int) : ∃ cs : List Int, cutV (ns.map V.int) lo hi = cs.map V.int ∧ cs.length ≤ ns.length := by
  refine ⟨(ns.drop (HT.sIx ns.length 0 lo)).take (HT.sIx ns.length ns.length hi - HT.sIx ns.length 0 lo), ?_, ?_⟩
  · unfold cutV
    rw [List.length_map, ← List.map_drop, ← List.map_take]
  · rw [List.length_take, List.length_drop]
    omega
theorem int_at {ns : List Int} {i : Nat} {x : V} (h : (ns.map V.int)[i]? = some x) : ∃ z, x = .int z := by
  rw [List.getElem?_map] at h
  cases e : ns[i]? with
  | none => rw [e] at h; cases h
  | some z => rw [e] at h; exact ⟨z, (Option.some.inj h).symm⟩
theorem int_mem {ns : List Int} {i : Nat} {x : V} (h : (ns.map V.int)[i]? = some x) : ∃ z, x = .int z ∧ z ∈ ns := by
  rw [List.getElem?_map] at h
  cases e : ns[i]? with
  | none => rw [e] at h; cases h
  | some z => rw [e] at h; exact ⟨z, (Option.some.inj h).symm, List.mem_of_getElem? e⟩
end L2
namespace L2
open PySem
theorem Deal.fresh {H : Hp} {d l p : Addr} (D : Deal H d l) (h : H p = none) : p ≠ d ∧ p ≠ l := by
  obtain ⟨s, n, ls, D⟩ := D
  exact ⟨(ne_of_none D.hd h).symm, (ne_of_none D.hl h).symm⟩
theorem atI_lt {α : Type} {xs : List α} {i : Int} (h0 : 0 ≤ i) (h1 : i < xs.length) : ∃ v, atI xs i = some v ∧ v ∈ xs := by
  obtain ⟨n, rfl⟩ : ∃ n : Nat, i = n := ⟨i.toNat, by omega⟩
  have h2 : n < xs.length := by omega
  refine ⟨xs[n], ?_, List.getElem_mem h2⟩
  unfold atI ixN
  rw [if_pos h0, if_pos h1]
  simp [h2]
theorem small_of {n : Nat} (h : n ≤ 10000) : n ≤ sizeLine := by
  have : (10000 : Nat) ≤ sizeLine := by decide
  omega
end L2
namespace L2
end L2
namespace L2
open PySem PySem.Spec PyProof.Rows
def strsOf : List Expr → Option (List Str)
  | [] => some []
  | .Constant (.str x) _ _ :: r => (strsOf r).map (x :: ·)
  | _ => none
theorem pa_strs {X : Cx} : ∀ {es : List Expr} {ws : List Str}, strsOf es = some ws → PA X es (fun _ H Q => Q (ws.map V.str) H)
  | [], ws, h => by
    cases h
    exact pa_nil
  | e :: es, ws, h => by
    unfold strsOf at h
    split at h
    · rename_i h1; cases h1
    · rename_i x j pos r h1
      cases h1
      cases e1 : strsOf es with
      | none => rw [e1] at h; cases h
      | some ws' =>
        rw [e1] at h
        cases h
        exact pa_cons pe_str (pa_strs e1)
    · cases h
def StrsIn (B : Nat) (xs : List V) : Prop := ∀ x ∈ xs, ∃ z : Str, x = .str z ∧ z.length ≤ B
theorem StrsIn.append {B : Nat} {xs ys : List V} (h : StrsIn B xs) (h2 : StrsIn B ys) : StrsIn B (xs ++ ys) := fun x hx => (List.mem_append.mp hx).elim (h x) (h2 x)
theorem StrsIn.cons {B : Nat} {z : Str} {xs : List V} (h : z.length ≤ B) (h2 : StrsIn B xs) : StrsIn B (.str z :: xs) := fun x hx => (List.mem_cons.mp hx).elim (fun e => ⟨z, e, h⟩) (h2 x)
theorem StrsIn.nil {B : Nat} : StrsIn B [] := fun _ h => nomatch h
theorem StrsIn.at {B : Nat} {xs : List V} {i : Int} (h : StrsIn B xs) (h0 : 0 ≤ i) (h1 : i < xs.length) : ∃ z, atI xs i = some (.str z) ∧ z.length ≤ B := by
  obtain ⟨v, e, hm⟩ := atI_lt h0 h1
  obtain ⟨z, rfl, hz⟩ := h v hm
  exact ⟨z, e, hz⟩
end L2
namespace L2
theorem gn_tst0 {i : Nat} {x : V} {σ : St} {H : Hp} {A B : St → Hp → Prop} (h : A (σ.set i (some x)) H) : gName i x σ H fun σ2 H3 => tTst0 σ2 H3 fun b H4 => if b = true then A σ2 H4 else B σ2 H4 := by
  show if true = true then A (σ.set i (some x)) H else B (σ.set i (some x)) H
  rw [if_pos rfl]
  exact h
end L2
namespace L2
end L2
namespace L2
open PySem PySem.Spec PyProof.Rows
section
variable {X : Cx}
def repS (z : Str) (n : Nat) : Str := ⟨(List.replicate n z.cps).foldl (· ++ ·) #[]⟩
theorem rep_fold (c : Array Nat) : ∀ (n : Nat) (acc : Array Nat), ((List.replicate n c).foldl (· ++ ·) acc).size = acc.size + n * c.size
  | 0, acc => by simp
  | n + 1, acc => by
    rw [List.replicate_succ, List.foldl_cons, rep_fold c n, Array.size_append, Nat.add_mul]
    omega
theorem len_repS (z : Str) (n : Nat) : (repS z n).length = n * z.length := by
  have h := rep_fold z.cps n #[]
  simpa [repS, Str.length] using h
theorem op_rep_str : OpR X (binaryOp .Mult) (fun x y H Q => ∃ z n, x = .str z ∧ y = .int n ∧ 0 ≤ n ∧ n ≤ 1000 ∧ z.length ≤ 1000 ∧ Q (.str (repS z n.toNat)) H) := by
  intro pins s σ H x y v u Q I rx ry h
  obtain ⟨z, n, rfl, rfl, n0, n1, hz, q⟩ := h
  obtain ⟨t, rfl⟩ := rx
  obtain ⟨t', rfl⟩ := ry
  have fin : ∀ (y : Str) (t' k : Nat), y = repS z n.toNat → EP X pins σ Q (.str y t') { s with toks := k } := fun y t' k e => by subst e; exact ⟨.str _, H, I.tok k, ⟨_, rfl⟩, q⟩
  have hp : ((z.length : Int) * n) ≤ 1000000 := by
    have h1 : (z.length : Int) * n ≤ 1000 * n := Int.mul_le_mul_of_nonneg_right (by omega) n0
    omega
  refine P.mul_str ?_ (fun h1 _ => ?_) (fun h1 _ => ?_) ?_
  · rw [decide_eq_false (by omega), decide_eq_false (by omega)]; rfl
  · have h2 : (1000 : Int) ≤ (2 ^ 63 - 1) / n := by
      rw [Int.le_ediv_iff_mul_le (by omega)]
      omega
    omega
  · unfold Builtin.Str.tooLong
    have h2 : z.length * n.toNat ≤ 1000000 := by
      have e : ((z.length * n.toNat : Nat) : Int) = (z.length : Int) * n := by rw [Int.natCast_mul, Int.toNat_of_nonneg n0]
      omega
    have : sizeLine = 16777216 := sizeLine_eq
    exact decide_eq_false (by omega)
  · by_cases h1 : n < 1
    · rw [if_pos h1]
      have e : n.toNat = 0 := by omega
      exact ⟨by decide, fin _ _ _ (by rw [e]; rfl)⟩
    · rw [if_neg h1]
      by_cases h2 : (n == 1 || z.length == 0) = true
      · rw [if_pos h2]
        refine fin z t s.toks ?_
        have h3 : n = 1 ∨ z.length = 0 := by simpa using h2
        rcases h3 with h3 | h3
        · subst h3
          show z = ⟨#[] ++ z.cps⟩
          simp
        · have e1 : z.cps = #[] := by simpa [Str.length] using h3
          have e2 := len_repS z n.toNat
          rw [h3] at e2
          have e3 : (repS z n.toNat).cps = #[] := by simpa [Str.length] using e2
          exact Str.ext' (by rw [e1, e3])
      · rw [if_neg h2]
        refine ⟨?_, fin _ _ _ rfl⟩
        have e := len_repS z n.toNat
        have h3 : n.toNat * z.length ≤ 1000000 := by
          have e : ((n.toNat * z.length : Nat) : Int) = (z.length : Int) * n := by rw [Int.natCast_mul, Int.toNat_of_nonneg n0, Int.mul_comm]
          omega
        have : sizeLine = 16777216 := sizeLine_eq
        show (repS z n.toNat).length ≤ sizeLine
        omega
end
end L2
namespace L2
open PySem
def lett (n : Nat) : Nat := 97 + n % 26
def baseW (c1 c2 : Str) (turn k : Nat) : Str := c1 ++ ⟨#[lett (turn + 7 * k)]⟩ ++ c2 ++ repS "x" (k % 2) ++ repS "y" (k / 26)
theorem baseW_list (c1 c2 : Str) (turn k : Nat) : (baseW c1 c2 turn k).cps.toList = c1.cps.toList ++ lett (turn + 7 * k) :: (c2.cps.toList ++ (repS "x" (k % 2)).cps.toList ++ (repS "y" (k / 26)).cps.toList) := by
  simp [baseW, Str.cps_append]
theorem baseW_len (c1 c2 : Str) (turn k : Nat) : (baseW c1 c2 turn k).length = c1.length + 1 + c2.length + k % 2 + k / 26 := by
  unfold baseW
  rw [Str.length_append, Str.length_append, Str.length_append, Str.length_append, len_repS, len_repS, show (⟨#[lett (turn + 7 * k)]⟩ : Str).length = 1 from rfl, show (Str.ofString "x").length = 1 from by decide +kernel, show (Str.ofString "y").length = 1 from by decide +kernel]
  omega
theorem at_c1 {a : List Nat} {x y : Nat} {b c : List Nat} (h : a ++ x :: b = a ++ y :: c) : x = y := by
  have := List.append_cancel_left h
  exact (List.cons.inj this).1
theorem lett_same {turn k j : Nat} (hk : k < 52) (hj : j < 52) (h : lett (turn + 7 * k) = lett (turn + 7 * j)) : k % 26 = j % 26 := by
  unfold lett at h
  omega
theorem rep_one : (repS "y" 1).cps.toList = [121] := by decide +kernel
theorem rep_zero (z : Str) : (repS z 0).cps.toList = [] := by simp [repS]
theorem words_differ {c1 c2 : Str} {turn k j : Nat} (hk : k < 52) (hj : j < 52) (hne : k ≠ j) {e f : Str} (he : e = Str.empty ∨ e = "q") (hf : f = Str.empty ∨ f = "q") : baseW c1 c2 turn k ++ e ≠ baseW c1 c2 turn j ++ f := by
  intro h
  have hc : (baseW c1 c2 turn k).cps.toList ++ e.cps.toList = (baseW c1 c2 turn j).cps.toList ++ f.cps.toList := by
    have := congrArg (fun z : Str => z.cps.toList) h
    simpa [Str.cps_append] using this
  have hl : (baseW c1 c2 turn k).length + e.length = (baseW c1 c2 turn j).length + f.length := by
    rw [← Str.length_append, h, Str.length_append]
  rw [baseW_list, baseW_list] at hc
  simp only [List.append_assoc, List.cons_append] at hc
  have hm := lett_same hk hj (at_c1 hc)
  have h1 : k % 2 = j % 2 := by omega
  have hd : (k / 26 = 0 ∧ j / 26 = 1) ∨ (k / 26 = 1 ∧ j / 26 = 0) := by omega
  rw [baseW_len, baseW_len] at hl
  have l0 : Str.empty.length = 0 := rfl
  have lq : (Str.ofString "q").length = 1 := by decide +kernel
  have tail := (List.cons.inj (List.append_cancel_left hc)).2
  rw [h1] at tail
  have tail2 := List.append_cancel_left (List.append_cancel_left tail)
  have eq : (Str.ofString "q").cps.toList = [113] := by decide +kernel
  have ee : Str.empty.cps.toList = [] := rfl
  rcases hd with ⟨d1, d2⟩ | ⟨d1, d2⟩
  · rw [d1, d2, rep_zero, rep_one] at tail2
    rcases he with rfl | rfl
    · rw [ee] at tail2; simp at tail2
    · rw [eq] at tail2
      have := congrArg List.head? tail2
      simp at this
  · rw [d1, d2, rep_zero, rep_one] at tail2
    rcases hf with rfl | rfl
    · rw [ee] at tail2; simp at tail2
    · rw [eq] at tail2
      have := congrArg List.head? tail2
      simp at this
theorem nodup_range {f : Nat → Str} {n : Nat} (h : ∀ i j, i < n → j < n → i ≠ j → f i ≠ f j) : ((List.range n).map f).Nodup := by
  rw [List.nodup_iff_pairwise_ne, List.pairwise_map]
  refine List.Pairwise.imp_of_mem ?_ (List.nodup_iff_pairwise_ne.mp List.nodup_range)
  intro i j hi hj hne
  exact h i j (List.mem_range.mp hi) (List.mem_range.mp hj) hne
theorem nodup_set {ws : List Str} {i : Nat} {w : Str} (h : ws.Nodup) (hw : w ∉ ws) : (ws.set i w).Nodup := by
  induction ws generalizing i with
  | nil => simp
  | cons a r ih =>
    obtain ⟨h1, h2⟩ := List.nodup_cons.mp h
    have hw1 : w ≠ a := fun z => hw (by simp [z])
    have hw2 : w ∉ r := fun z => hw (List.mem_cons_of_mem _ z)
    cases i with
    | zero => exact List.nodup_cons.mpr ⟨hw2, h2⟩
    | succ i =>
      refine List.nodup_cons.mpr ⟨fun z => ?_, ih h2 hw2⟩
      rcases List.mem_or_eq_of_mem_set z with z | z
      · exact h1 z
      · exact hw1 z.symm
end L2
namespace L2
open PySem
theorem inV_not {w : Str} {ws : List Str} (h : inV (.str w) (ws.map V.str) = false) : w ∉ ws := fun hm => by
  unfold inV at h
  rw [List.any_eq_false] at h
  have := h (.str w) (List.mem_map.mpr ⟨w, hm, rfl⟩)
  simp [eqV] at this
def wordOf (kept : List Str) (c1 c2 : Str) (turn k : Nat) : Str := baseW c1 c2 turn k ++ (if inV (.str (baseW c1 c2 turn k)) (kept.map V.str) = true then ("q" : Str) else Str.empty)
theorem wordOf_ne {kept : List Str} {c1 c2 : Str} {turn k j : Nat} (hk : k < 52) (hj : j < 52) (hne : k ≠ j) : wordOf kept c1 c2 turn k ≠ wordOf kept c1 c2 turn j := by
  unfold wordOf
  refine words_differ hk hj hne ?_ ?_
  · split
    · exact .inr rfl
    · exact .inl rfl
  · split
    · exact .inr rfl
    · exact .inl rfl
theorem wordOf_len {kept : List Str} {c1 c2 : Str} {turn k : Nat} (h1 : c1.length ≤ 5) (h2 : c2.length ≤ 5) (hk : k < 52) : 1 ≤ (wordOf kept c1 c2 turn k).length ∧ (wordOf kept c1 c2 turn k).length ≤ 20 := by
  unfold wordOf
  rw [Str.length_append, baseW_len]
  have l0 : Str.empty.length = 0 := rfl
  have lq : (Str.ofString "q").length = 1 := by decide +kernel
  split <;> omega
end L2
namespace L2
open PySem PySem.Spec PyProof.Rows
inductive Tr where
  | s (x : Str) | i (n : Int) | b (v : Bool) | n | t (xs : List Tr)
mutual
inductive Rep (H : Hp) : V → Tr → Prop where
  | s (x : Str) : Rep H (.str x) (.s x)
  | i (n : Int) : Rep H (.int n) (.i n)
  | b (v : Bool) : Rep H (.bl v) (.b v)
  | n : Rep H .non .n
  | t {a : Addr} {vs : List V} {ts : List Tr} : H a = some (.tup vs) → Reps H vs ts → Rep H (.ref a) (.t ts)
inductive Reps (H : Hp) : List V → List Tr → Prop where
  | nil : Reps H [] []
  | cons {v : V} {x : Tr} {vs : List V} {ts : List Tr} : Rep H v x → Reps H vs ts → Reps H (v :: vs) (x :: ts)
end
def TupKeep (H H' : Hp) : Prop := ∀ a vs, H a = some (.tup vs) → H' a = some (.tup vs)
theorem TupKeep.refl {H : Hp} : TupKeep H H := fun _ _ h => h
theorem TupKeep.trans {H H1 H2 : Hp} (a : TupKeep H H1) (b : TupKeep H1 H2) : TupKeep H H2 := fun c vs h => b c vs (a c vs h)
theorem Same.tk {H H' : Hp} (h : Same H H') : TupKeep H H' := fun a vs e => h a _ e
theorem Kp.tk {H H' : Hp} {d l : Addr} (h : Kp d l H H') (D : Deal H d l) : TupKeep H H' := fun a vs e => by
  obtain ⟨s, n, ls, D⟩ := D
  exact h a _ e (ne_of e D.hd (by intro z; cases z)) (ne_of e D.hl (by intro z; cases z))
theorem TupKeep.new {H H1 : Hp} {p : Addr} {o : HO} (h : TupKeep H H1) (hp : H1 p = none) : TupKeep H (upd H1 p o) := fun a vs e => by
  have z := h a vs e
  rw [upd_ne (ne_of_none z hp)]; exact z
theorem TupKeep.put {H H1 : Hp} {p : Addr} {o u : HO} (h : TupKeep H H1) (hp : H1 p = some u) (hu : ∀ vs, u ≠ .tup vs) : TupKeep H (upd H1 p o) := fun a vs e => by
  have z := h a vs e
  rw [upd_ne (ne_of z hp (hu vs).symm)]; exact z
mutual
theorem Rep.mono {H H' : Hp} (k : TupKeep H H') : ∀ {v : V} {t : Tr}, Rep H v t → Rep H' v t
  | _, _, .s x => .s x
  | _, _, .i n => .i n
  | _, _, .b v => .b v
  | _, _, .n => .n
  | _, _, .t h r => .t (k _ _ h) (Reps.mono k r)
theorem Reps.mono {H H' : Hp} (k : TupKeep H H') : ∀ {vs : List V} {ts : List Tr}, Reps H vs ts → Reps H' vs ts
  | _, _, .nil => .nil
  | _, _, .cons h r => .cons (Rep.mono k h) (Reps.mono k r)
end
theorem Rep.tup {H : Hp} {v : V} {ts : List Tr} (h : Rep H v (.t ts)) : ∃ a vs, v = .ref a ∧ H a = some (.tup vs) ∧ Reps H vs ts := by
  cases h with
  | t h r => exact ⟨_, _, rfl, h, r⟩
theorem Rep.str {H : Hp} {v : V} {x : Str} (h : Rep H v (.s x)) : v = .str x := by cases h; rfl
theorem Reps.length {H : Hp} : ∀ {vs : List V} {ts : List Tr}, Reps H vs ts → vs.length = ts.length
  | _, _, .nil => rfl
  | _, _, .cons _ r => by simp [Reps.length r]
theorem Reps.get {H : Hp} : ∀ {vs : List V} {ts : List Tr} {i : Nat} {v : V}, Reps H vs ts → vs[i]? = some v → ∃ t, ts[i]? = some t ∧ Rep H v t
  | _, _, _, _, .nil, h => by simp at h
  | _, _, 0, _, .cons h r, e => by
    simp at e
    subst e
    exact ⟨_, by simp, h⟩
  | _, _, i + 1, v, .cons h r, e => by
    obtain ⟨t, h1, h2⟩ := Reps.get (i := i) (v := v) r (by simpa using e)
    exact ⟨t, by simpa using h1, h2⟩
theorem Reps.one {H : Hp} {vs : List V} {x : Tr} (h : Reps H vs [x]) : ∃ v, vs = [v] ∧ Rep H v x := by
  cases h with
  | cons h r => cases r; exact ⟨_, rfl, h⟩
theorem Reps.two {H : Hp} {vs : List V} {x y : Tr} (h : Reps H vs [x, y]) : ∃ v w, vs = [v, w] ∧ Rep H v x ∧ Rep H w y := by
  cases h with
  | cons h r =>
    obtain ⟨w, rfl, hw⟩ := r.one
    exact ⟨_, w, rfl, h, hw⟩
theorem Reps.append {H : Hp} : ∀ {vs ws : List V} {ts us : List Tr}, Reps H vs ts → Reps H ws us → Reps H (vs ++ ws) (ts ++ us)
  | _, _, _, _, .nil, h => h
  | _, _, _, _, .cons h r, h2 => .cons h (Reps.append r h2)
theorem Reps.strs {H : Hp} : ∀ (xs : List Str), Reps H (xs.map V.str) (xs.map Tr.s)
  | [] => .nil
  | x :: r => .cons (.s x) (Reps.strs r)
abbrev Mk1 := Str × List Str
abbrev Kd := Str × List Mk1
def mkOf (ks : List Kd) (k : Str) : List Mk1 := match ks.find? (fun x => decide (x.1 = k)) with
  | some x => x.2
  | none => []
theorem mkOf_at {ks : List Kd} {k : Str} {i : Nat} {x : Kd} (h : ks[i]? = some x) (hx : x.1 = k) (hn : ∀ (j : Nat) (y : Kd), j < i → ks[j]? = some y → y.1 ≠ k) : mkOf ks k = x.2 := by
  induction ks generalizing i with
  | nil => simp at h
  | cons a r ih =>
    cases i with
    | zero =>
      simp at h
      subst h
      simp [mkOf, hx]
    | succ i =>
      have h0 : a.1 ≠ k := hn 0 a (by omega) (by simp)
      have z := ih (i := i) (by simpa using h) fun j y hj hy => hn (j + 1) y (by omega) (by simpa using hy)
      unfold mkOf at z ⊢
      rw [List.find?_cons, decide_eq_false h0]
      exact z
end L2
namespace L2
open PySem PySem.Spec PyProof.Rows
section
variable {prog : Program} {w : World} {A : Around} {E : Value → Shared → Prop} {s : Shared}
theorem next_tup_item {it t : Addr} {i : Nat} {items : Array Value} {x : Value} {Q : Value → Shared → Prop} (hit : s.heap.IsTupleIter it t i) (ht : s.heap.IsTuple t items) (hx : items[i]? = some x)
    (hQ : ∀ h', h'.IsTupleIter it t (i + 1) → Heap.SameBut it s.heap h' → Q x { s with heap := h' }) : wpAny (model prog w) A (Builtin.SmallTypes.nextOf (.ref it)) Q E s := by
  obtain ⟨o, ho, hc, hd⟩ := id hit
  obtain ⟨ol, hol, _, nl, hdl⟩ := ht
  unfold Builtin.SmallTypes.nextOf
  refine wpAny_bind (wpAny_callSpecial?_slot (name := Str.ofString "__next__") hit.typeIs F.slot_tuple_iterator_next
    (wpAny_call_entry F.slot_tuple_iterator_next hit.typeIs F.entry_tuple_iterator_next ?_ (F.args_tuple_iterator_next_1 _)))
  show wpAny _ _ (field (.ref it) 0 >>= _) _ _ s
  refine wpAny_bind (wpAny_field ho hd (x := .ref t) rfl ?_)
  show wpAny _ _ (if (Value.ref t == Value.none) = true then _ else _) _ _ s
  rw [if_neg (show ¬ ((Value.ref t == Value.none) = true) from Bool.false_ne_true)]
  show wpAny _ _ (field (.ref it) 1 >>= _) _ _ s
  refine wpAny_bind (wpAny_field ho hd (x := .int i 0) rfl ?_)
  show wpAny _ _ (seqItems? (.ref t) >>= _) _ _ s
  refine wpAny_bind (wpAny_seqItems hol hdl ?_)
  simp only [Int.toNat_natCast, hx]
  refine wpAny_bind (wpAny_setField ho hd (by simp) (wpAny_pure ⟨x, rfl, wpAny_pure (hQ _ ?_ (Heap.SameBut.update ..))⟩))
  exact ⟨_, Heap.get?_update_self _ ho (Obj.isFreed_of_fields (Obj.data_mapFields hd _)), (Obj.cls_mapFields ..).trans hc, by
    rw [Obj.data_mapFields hd]; simp [rawInt]⟩
theorem next_tup_end {it t : Addr} {i : Nat} {items : Array Value} {Q : Value → Shared → Prop} (hh : A.handled = none) (hit : s.heap.IsTupleIter it t i) (ht : s.heap.IsTuple t items) (hx : items[i]? = none)
    (hE : ∀ h' e, Heap.ExtBut it s.heap h' → (∃ o, h'.get? e = some o ∧ o.cls = .type "StopIteration") → E (.ref e) { s with heap := h' }) : wpAny (model prog w) A (Builtin.SmallTypes.nextOf (.ref it)) Q E s := by
  obtain ⟨o, ho, hc, hd⟩ := id hit
  obtain ⟨ol, hol, _, nl, hdl⟩ := ht
  unfold Builtin.SmallTypes.nextOf
  refine wpAny_bind (wpAny_callSpecial?_slot (name := Str.ofString "__next__") hit.typeIs F.slot_tuple_iterator_next
    (wpAny_call_entry F.slot_tuple_iterator_next hit.typeIs F.entry_tuple_iterator_next ?_ (F.args_tuple_iterator_next_1 _)))
  show wpAny _ _ (field (.ref it) 0 >>= _) _ _ s
  refine wpAny_bind (wpAny_field ho hd (x := .ref t) rfl ?_)
  show wpAny _ _ (if (Value.ref t == Value.none) = true then _ else _) _ _ s
  rw [if_neg (show ¬ ((Value.ref t == Value.none) = true) from Bool.false_ne_true)]
  show wpAny _ _ (field (.ref it) 1 >>= _) _ _ s
  refine wpAny_bind (wpAny_field ho hd (x := .int i 0) rfl ?_)
  show wpAny _ _ (seqItems? (.ref t) >>= _) _ _ s
  refine wpAny_bind (wpAny_seqItems hol hdl ?_)
  simp only [Int.toNat_natCast, hx]
  refine wpAny_bind (wpAny_rule (wpAny_bind (wpAny_setField ho hd (by simp) ?_)))
  show wpAny _ _ (newExc (.type "StopIteration") [] >>= _) _ _ _
  refine wpAny_bind ?_
  simp only [newExc, newTuple]
  refine wpAny_bind (wpAny_newObj_type ?_ (by size_fits))
  refine wpAny_bind (m := firstArgMember _ _) (wpAny_of_eq (a := Value.none) (by first | rfl | (simp only [firstArgMember]; rfl)) ?_)
  refine wpAny_newObj_type ?_ (by size_fits)
  simp only [raiseNew]
  refine wpAny_bind (wpAny_handled ?_)
  first | rw [show A.in1.handled = none from hh] | rw [hh]
  refine wpAny_bind (wpAny_pure (wpAny_throw ?_))
  exact hE _ _ (((Heap.SameBut.update ..).extBut.push _).push _) ⟨_, Heap.get?_push_size _ rfl, rfl⟩
def SeqIter (h : Heap) (tp : Bool) (it l : Addr) (k : Nat) : Prop := if tp = true then h.IsTupleIter it l k else h.IsListIter it l k
def SeqObj (h : Heap) (tp : Bool) (l : Addr) (items : Array Value) : Prop := if tp = true then h.IsTuple l items else h.IsList l items
theorem SeqIter.at {h h' : Heap} {tp : Bool} {it l : Addr} {k : Nat} (x : SeqIter h tp it l k) (e : ∀ o, h.get? it = some o → h'.get? it = some o) : SeqIter h' tp it l k := by
  cases tp with
  | true => obtain ⟨o, ho, r⟩ := (show h.IsTupleIter it l k from x); exact (show h'.IsTupleIter it l k from ⟨o, e o ho, r⟩)
  | false => obtain ⟨o, ho, r⟩ := (show h.IsListIter it l k from x); exact (show h'.IsListIter it l k from ⟨o, e o ho, r⟩)
theorem SeqObj.at {h h' : Heap} {tp : Bool} {l : Addr} {items : Array Value} (x : SeqObj h tp l items) (e : ∀ o, h.get? l = some o → h'.get? l = some o) : SeqObj h' tp l items := by
  cases tp with
  | true => obtain ⟨o, ho, r⟩ := (show h.IsTuple l items from x); exact (show h'.IsTuple l items from ⟨o, e o ho, r⟩)
  | false => obtain ⟨o, ho, r⟩ := (show h.IsList l items from x); exact (show h'.IsList l items from ⟨o, e o ho, r⟩)
theorem SeqIter.obj {h : Heap} {tp : Bool} {it l : Addr} {k : Nat} (x : SeqIter h tp it l k) : ∃ o, h.get? it = some o ∧ ∀ v, o.data ≠ .cell v := by
  cases tp with
  | true => obtain ⟨o, ho, _, hd⟩ := (show h.IsTupleIter it l k from x); exact ⟨o, ho, fun v => by rw [hd]; simp⟩
  | false => obtain ⟨o, ho, _, hd⟩ := (show h.IsListIter it l k from x); exact ⟨o, ho, fun v => by rw [hd]; simp⟩
theorem next_item {tp : Bool} {it l : Addr} {i : Nat} {items : Array Value} {x : Value} {Q : Value → Shared → Prop} (hit : SeqIter s.heap tp it l i) (hl : SeqObj s.heap tp l items) (hx : items[i]? = some x)
    (hQ : ∀ h', SeqIter h' tp it l (i + 1) → Heap.SameBut it s.heap h' → Q x { s with heap := h' }) : wpAny (model prog w) A (Builtin.SmallTypes.nextOf (.ref it)) Q E s := by
  cases tp with
  | true => exact next_tup_item hit hl hx hQ
  | false => exact wpAny_nextOf_list_item hit hl hx hQ
theorem next_end {tp : Bool} {it l : Addr} {i : Nat} {items : Array Value} {Q : Value → Shared → Prop} (hh : A.handled = none) (hit : SeqIter s.heap tp it l i) (hl : SeqObj s.heap tp l items) (hx : items[i]? = none)
    (hE : ∀ h' e, Heap.ExtBut it s.heap h' → (∃ o, h'.get? e = some o ∧ o.cls = .type "StopIteration") → E (.ref e) { s with heap := h' }) : wpAny (model prog w) A (Builtin.SmallTypes.nextOf (.ref it)) Q E s := by
  cases tp with
  | true => exact next_tup_end hh hit hl hx hE
  | false => exact wpAny_nextOf_list_end hh hit hl hx hE
end
end L2
namespace L2
open PySem PySem.Spec PyProof.Rows
theorem Reps.at {H : Hp} {α : Type} {f : α → Tr} {xs : List α} {vs : List V} {i : Nat} {v : V} (h : Reps H vs (xs.map f)) (hi : vs[i]? = some v) : ∃ x, xs[i]? = some x ∧ Rep H v (f x) := by
  obtain ⟨t, h1, h2⟩ := h.get hi
  rw [List.getElem?_map] at h1
  cases e : xs[i]? with
  | none => rw [e] at h1; cases h1
  | some x => rw [e] at h1; cases h1; exact ⟨x, rfl, h2⟩
theorem Same.put {H H1 : Hp} {p : Addr} {o : HO} (h : Same H H1) (hp : H p = none) : Same H (upd H1 p o) := fun c u hc => by
  rw [upd_ne (ne_of_none hc hp)]; exact h c u hc
def kindOf (ks : List Kd) (m : Str) : V := match ks.find? (fun x => decide (m ∈ x.2.map (·.1))) with
  | some x => .str x.1
  | none => .non
def allF (ks : List Kd) : List Str := ks.flatMap fun k => k.2.flatMap (·.2)
def flds (ks : List Kd) (k : Str) : List Str := (mkOf ks k).flatMap (·.2)
inductive Reach (ks : List Kd) (a : Str) : Str → Prop where
  | here : Reach ks a a
  | step {b c : Str} : Reach ks a b → c ∈ flds ks b → Reach ks a c
def SmK (ks : List Kd) : Prop := ks.length ≤ 100 ∧ (∀ k ∈ ks, k.2.length ≤ 100) ∧ (allF ks).length ≤ 900
theorem inV_iff {w : Str} {ws : List Str} : inV (.str w) (ws.map V.str) = true ↔ w ∈ ws := by
  constructor
  · intro h
    by_cases hm : w ∈ ws
    · exact hm
    · exfalso
      unfold inV at h
      rw [List.any_eq_true] at h
      obtain ⟨x, hx, e⟩ := h
      obtain ⟨z, hz, rfl⟩ := List.mem_map.mp hx
      have : z = w := by simpa [eqV] using e
      exact hm (this ▸ hz)
  · intro h
    unfold inV
    rw [List.any_eq_true]
    exact ⟨.str w, List.mem_map.mpr ⟨w, h, rfl⟩, by simp [eqV]⟩
theorem mkOf_mem {ks : List Kd} {k : Str} : mkOf ks k = [] ∨ ∃ x ∈ ks, mkOf ks k = x.2 ∧ x.1 = k := by
  unfold mkOf
  cases e : ks.find? (fun x => decide (x.1 = k)) with
  | none => exact .inl rfl
  | some x => exact .inr ⟨x, List.mem_of_find?_eq_some e, rfl, by have z := List.find?_some e; simpa using z⟩
theorem flds_sub {ks : List Kd} {k f : Str} (h : f ∈ flds ks k) : f ∈ allF ks := by
  unfold flds at h
  rcases mkOf_mem (ks := ks) (k := k) with e | ⟨x, hx, e, _⟩
  · rw [e] at h; simp at h
  · rw [e] at h
    exact List.mem_flatMap.mpr ⟨x, hx, h⟩
def un (U rs : List Str) : Nat := (U.filter fun u => decide (u ∉ rs)).length
theorem un_le {U rs : List Str} : un U rs ≤ U.length := List.length_filter_le _ _
theorem filt_le {p q : Str → Bool} (hpq : ∀ x, q x = true → p x = true) : ∀ U : List Str, (U.filter q).length ≤ (U.filter p).length
  | [] => Nat.le_refl _
  | u :: U => by
    have z := filt_le hpq U
    cases hq : q u with
    | true =>
      rw [List.filter_cons_of_pos hq, List.filter_cons_of_pos (hpq u hq)]
      simp only [List.length_cons]; omega
    | false =>
      rw [List.filter_cons_of_neg (by rw [hq]; decide)]
      cases hp : p u with
      | true => rw [List.filter_cons_of_pos hp]; simp only [List.length_cons]; omega
      | false => rw [List.filter_cons_of_neg (by rw [hp]; decide)]; exact z
theorem filt_lt {p q : Str → Bool} {f : Str} (hpq : ∀ x, q x = true → p x = true) (hp : p f = true) (hq : q f = false) : ∀ U : List Str, f ∈ U → (U.filter q).length + 1 ≤ (U.filter p).length
  | [], h => by simp at h
  | u :: U, h => by
    by_cases e : u = f
    · subst e
      have z := filt_le hpq U
      rw [List.filter_cons_of_neg (by rw [hq]; decide), List.filter_cons_of_pos hp]
      simp only [List.length_cons]; omega
    · have z := filt_lt hpq hp hq U (by
        rcases List.mem_cons.mp h with h | h
        · exact absurd h.symm e
        · exact h)
      cases hq2 : q u with
      | true =>
        rw [List.filter_cons_of_pos hq2, List.filter_cons_of_pos (hpq u hq2)]
        simp only [List.length_cons]; omega
      | false =>
        rw [List.filter_cons_of_neg (by rw [hq2]; decide)]
        cases hp2 : p u with
        | true => rw [List.filter_cons_of_pos hp2]; simp only [List.length_cons]; omega
        | false => rw [List.filter_cons_of_neg (by rw [hp2]; decide)]; exact z
theorem un_snoc {U rs : List Str} {f : Str} (hf : f ∈ U) (hn : f ∉ rs) : un U (rs ++ [f]) + 1 ≤ un U rs := by
  refine filt_lt (fun x hx => ?_) (decide_eq_true hn) (decide_eq_false (by simp)) U hf
  have hx := of_decide_eq_true hx
  exact decide_eq_true fun z => hx (List.mem_append.mpr (.inl z))
def marks (rs : List Str) : List (Key × V) := rs.map fun s => (.inr s, .bl true)
structure RS (ks : List Kd) (k here : Str) (done rs W : List Str) (c : Nat) : Prop where
  ki : k ∈ rs
  w : ∀ r ∈ W, r ∈ rs
  hi : here ∈ rs
  re : ∀ r ∈ rs, Reach ks k r
  cl : ∀ r ∈ rs, r ∉ W → r = here ∨ ∀ f ∈ flds ks r, f ∈ rs
  dn : ∀ f ∈ done, f ∈ rs
  sz : rs.length + un (allF ks) rs ≤ (allF ks).length + 1
  sw : W.length ≤ rs.length
  m : 2 * un (allF ks) rs + W.length < c
theorem RS.old {ks : List Kd} {k here f : Str} {done rs W : List Str} {c : Nat} (R : RS ks k here done rs W c) (hf : f ∈ rs) : RS ks k here (done ++ [f]) rs W c :=
  ⟨R.ki, R.w, R.hi, R.re, R.cl, fun g hg => (List.mem_append.mp hg).elim (R.dn g) fun h => by rw [List.mem_singleton.mp h]; exact hf, R.sz, R.sw, R.m⟩
theorem RS.new {ks : List Kd} {k here f : Str} {done rs W : List Str} {c : Nat} (R : RS ks k here done rs W c) (hn : f ∉ rs) (hf : f ∈ flds ks here) : RS ks k here (done ++ [f]) (rs ++ [f]) (W ++ [f]) c where
  ki := List.mem_append.mpr (.inl R.ki)
  w := fun r hr => by
    rcases List.mem_append.mp hr with h | h
    · exact List.mem_append.mpr (.inl (R.w r h))
    · exact List.mem_append.mpr (.inr h)
  hi := List.mem_append.mpr (.inl R.hi)
  re := fun r hr => by
    rcases List.mem_append.mp hr with h | h
    · exact R.re r h
    · rw [List.mem_singleton.mp h]; exact .step (R.re _ R.hi) hf
  cl := fun r hr hw => by
    rcases List.mem_append.mp hr with h | h
    · rcases R.cl r h (fun z => hw (List.mem_append.mpr (.inl z))) with e | e
      · exact .inl e
      · exact .inr fun g hg => List.mem_append.mpr (.inl (e g hg))
    · exact absurd (List.mem_append.mpr (.inr h)) hw
  dn := fun g hg => by
    rcases List.mem_append.mp hg with h | h
    · exact List.mem_append.mpr (.inl (R.dn g h))
    · exact List.mem_append.mpr (.inr h)
  sz := by
    have := un_snoc (flds_sub hf) hn
    have := R.sz
    simp only [List.length_append, List.length_singleton]
    omega
  sw := by
    have := R.sw
    simp only [List.length_append, List.length_singleton]
    omega
  m := by
    have := un_snoc (flds_sub hf) hn
    have := R.m
    simp only [List.length_append, List.length_singleton]
    omega
structure RWt (ks : List Kd) (k : Str) (rs W : List Str) : Prop where
  ki : k ∈ rs
  w : ∀ r ∈ W, r ∈ rs
  re : ∀ r ∈ rs, Reach ks k r
  cl : ∀ r ∈ rs, r ∉ W → ∀ f ∈ flds ks r, f ∈ rs
  sz : rs.length + un (allF ks) rs ≤ (allF ks).length + 1
  sw : W.length ≤ rs.length
theorem RWt.pop {ks : List Kd} {k here : Str} {rs W : List Str} (R : RWt ks k rs (W ++ [here])) : RS ks k here [] rs W (2 * un (allF ks) rs + (W ++ [here]).length) where
  ki := R.ki
  w := fun r hr => R.w r (List.mem_append.mpr (.inl hr))
  hi := R.w _ (by simp)
  re := R.re
  cl := fun r hr hw => by
    by_cases e : r = here
    · exact .inl e
    · exact .inr (R.cl r hr (by simp [hw, e]))
  dn := fun f hf => by simp at hf
  sz := R.sz
  sw := by
    have := R.sw
    simp only [List.length_append, List.length_singleton] at this
    omega
  m := by simp
theorem RS.fin {ks : List Kd} {k here : Str} {done rs W : List Str} {c : Nat} (R : RS ks k here done rs W c) (hd : done = flds ks here) : RWt ks k rs W :=
  { ki := R.ki, w := R.w, re := R.re, sz := R.sz, sw := R.sw,
    cl := fun r hr hw => by
      rcases R.cl r hr hw with e | e
      · subst e; subst hd; exact R.dn
      · exact e }
theorem RWt.all {ks : List Kd} {k : Str} {rs : List Str} (R : RWt ks k rs []) {s : Str} : s ∈ rs ↔ Reach ks k s := by
  refine ⟨R.re s, fun h => ?_⟩
  induction h with
  | here => exact R.ki
  | step _ hc ih => exact R.cl _ ih (by simp) _ hc
theorem RWt.start {ks : List Kd} {k : Str} : RWt ks k [k] [k] where
  ki := by simp
  w := fun r h => h
  re := fun r h => by rw [List.mem_singleton.mp h]; exact .here
  cl := fun r h n => absurd h n
  sz := by have := un_le (U := allF ks) (rs := [k]); simp; omega
  sw := Nat.le_refl _
end L2
namespace L2
open PySem PySem.Spec PyProof.Rows
end L2
namespace L2
open PySem PySem.Spec PyProof.Rows
section
variable {prog : Program} {w : World} {κ : Type} [DecidableEq κ]
end
def ClosedTo (ks : List Kd) (b : Nat) (R : Nat → List Str) : Prop := ∀ (m n : Nat) (km kn : Kd), m < b → ks[m]? = some km → ks[n]? = some kn → km.1 ∈ R n → ∀ s ∈ R m, s ∈ R n
structure Marked (ks : List Kd) (R : Nat → List Str) : Prop where
  re : ∀ (n : Nat) (kn : Kd), ks[n]? = some kn → ∀ s ∈ R n, Reach ks kn.1 s
  me : ∀ (n : Nat) (kn : Kd), ks[n]? = some kn → kn.1 ∈ R n
  fl : ∀ (n : Nat) (kn : Kd), ks[n]? = some kn → ∀ s ∈ flds ks kn.1, s ∈ R n
theorem Reach.trans {ks : List Kd} {a b c : Str} (h1 : Reach ks a b) (h2 : Reach ks b c) : Reach ks a c := by
  induction h2 with
  | here => exact h1
  | step _ h ih => exact .step ih h
theorem ClosedTo.next {ks : List Kd} {b : Nat} {R R' : Nat → List Str} {kb : Kd} (hb : ks[b]? = some kb) (h : ClosedTo ks b R)
    (hR : ∀ (n : Nat) (kn : Kd), ks[n]? = some kn → ∀ s, s ∈ R' n ↔ s ∈ R n ∨ kb.1 ∈ R n ∧ s ∈ R b) : ClosedTo ks (b + 1) R' := by
  intro m n km kn hm e1 e2 hin s hs
  rw [hR n kn e2] at hin ⊢
  rw [hR m km e1] at hs
  by_cases e : m = b
  · subst e
    rw [e1] at hb
    cases hb
    rcases hin with h1 | ⟨h1, _⟩
    · rcases hs with h2 | ⟨_, h2⟩
      · exact .inr ⟨h1, h2⟩
      · exact .inr ⟨h1, h2⟩
    · rcases hs with h2 | ⟨_, h2⟩
      · exact .inr ⟨h1, h2⟩
      · exact .inr ⟨h1, h2⟩
  · have hm : m < b := by omega
    rcases hin with h1 | ⟨h1, h3⟩
    · rcases hs with h2 | ⟨h4, h2⟩
      · exact .inl (h m n km kn hm e1 e2 h1 s h2)
      · exact .inr ⟨h m n km kn hm e1 e2 h1 _ h4, h2⟩
    · rcases hs with h2 | ⟨h4, h2⟩
      · exact .inr ⟨h1, h m b km kb hm e1 hb h3 s h2⟩
      · exact .inr ⟨h1, h2⟩
theorem Marked.next {ks : List Kd} {b : Nat} {R R' : Nat → List Str} {kb : Kd} (hb : ks[b]? = some kb) (h : Marked ks R)
    (hR : ∀ (n : Nat) (kn : Kd), ks[n]? = some kn → ∀ s, s ∈ R' n ↔ s ∈ R n ∨ kb.1 ∈ R n ∧ s ∈ R b) : Marked ks R' where
  re := fun n kn e s hs => by
    rcases (hR n kn e s).mp hs with h1 | ⟨h1, h2⟩
    · exact h.re n kn e s h1
    · exact (h.re n kn e _ h1).trans (h.re b kb hb s h2)
  me := fun n kn e => (hR n kn e _).mpr (.inl (h.me n kn e))
  fl := fun n kn e s hs => (hR n kn e _).mpr (.inl (h.fl n kn e s hs))
theorem Marked.all {ks : List Kd} {R : Nat → List Str} (h : Marked ks R) (c : ClosedTo ks ks.length R) {n : Nat} {kn : Kd} (e : ks[n]? = some kn) {s : Str} : s ∈ R n ↔ Reach ks kn.1 s := by
  refine ⟨h.re n kn e s, fun hr => ?_⟩
  induction hr with
  | here => exact h.me n kn e
  | @step b t _ hf ih =>
    rcases mkOf_mem (ks := ks) (k := b) with e0 | ⟨x, hx, e0, e1⟩
    · unfold flds at hf
      rw [e0] at hf
      simp at hf
    · obtain ⟨m, hm, e2⟩ := List.mem_iff_getElem.mp hx
      have e3 : ks[m]? = some x := by rw [List.getElem?_eq_getElem hm, e2]
      subst e1
      exact c m n x kn hm e3 e ih _ (h.fl m x e3 _ hf)
end L2
namespace L2
open PySem PySem.Spec PyProof.Rows
theorem nodup_len {as : List Str} : ∀ {bs : List Str}, as.Nodup → (∀ x ∈ as, x ∈ bs) → as.length ≤ bs.length := by
  induction as with
  | nil => intro bs _ _; exact Nat.zero_le _
  | cons a as ih =>
    intro bs nd sub
    rw [List.nodup_cons] at nd
    have ha : a ∈ bs := sub a (by simp)
    have z := ih (bs := bs.erase a) nd.2 fun x hx => (List.mem_erase_of_ne (fun (e : x = a) => nd.1 (by rw [← e]; exact hx))).mpr (sub x (by simp [hx]))
    rw [List.length_erase_of_mem ha] at z
    have := List.length_pos_of_mem ha
    simp only [List.length_cons]
    omega
theorem nodup_ixS : ∀ {xs : List Str} {i j : Nat} {x : Str}, xs.Nodup → xs[i]? = some x → xs[j]? = some x → i = j
  | [], _, _, _, _, h, _ => by simp at h
  | a :: xs, 0, 0, _, _, _, _ => rfl
  | a :: xs, 0, j + 1, x, hn, h1, h2 => by
    simp at h1 h2
    subst h1
    exact absurd (List.mem_of_getElem? h2) (List.nodup_cons.mp hn).1
  | a :: xs, i + 1, 0, x, hn, h1, h2 => by
    simp at h1 h2
    subst h2
    exact absurd (List.mem_of_getElem? h1) (List.nodup_cons.mp hn).1
  | a :: xs, i + 1, j + 1, x, hn, h1, h2 => by
    simp at h1 h2
    rw [nodup_ixS (List.nodup_cons.mp hn).2 h1 h2]
theorem names_ix {ks : List Kd} (hn : (ks.map (·.1)).Nodup) {i j : Nat} {x y : Kd} (h1 : ks[i]? = some x) (h2 : ks[j]? = some y) (e : x.1 = y.1) : i = j :=
  nodup_ixS (x := x.1) hn (by rw [List.getElem?_map, h1]; rfl) (by rw [List.getElem?_map, h2, e]; rfl)
theorem Reach.sub {ks : List Kd} {a s : Str} (h : Reach ks a s) : s ∈ a :: allF ks := by
  cases h with
  | here => simp
  | step _ hf => exact List.mem_cons_of_mem _ (flds_sub hf)
structure Fnd (ks : List Kd) (H H' : Hp) (f : Addr) (kvs : List (Key × V)) (i : Nat) (D : Nat → Addr) (R : Nat → List Str) : Prop where
  hf : H' f = some (.dK kvs)
  kl : kvs.length ≤ i
  va : ∀ (n : Nat) (kn : Kd), n < i → ks[n]? = some kn → valV kvs (.inr kn.1) = some (.ref (D n))
  hd : ∀ n, n < i → H' (D n) = some (.dK (marks (R n)))
  dj : ∀ n m, n < i → m < i → D n = D m → n = m
  df : ∀ n, n < i → D n ≠ f
  fr : ∀ n, n < i → H (D n) = none
  nd : ∀ n, n < i → (R n).Nodup
  sm : Same H H'
def setN {α : Type} (f : Nat → α) (i : Nat) (x : α) : Nat → α := fun n => if n = i then x else f n
theorem setN_same {α : Type} {f : Nat → α} {i : Nat} {x : α} : setN f i x i = x := if_pos rfl
theorem setN_ne {α : Type} {f : Nat → α} {i n : Nat} {x : α} (h : n ≠ i) : setN f i x n = f n := if_neg h
theorem Fnd.new {ks : List Kd} {H H' : Hp} {f p : Addr} {kvs : List (Key × V)} {i : Nat} {D : Nat → Addr} {R : Nat → List Str} {ki : Kd} (F : Fnd ks H H' f kvs i D R) (hfH : H f = none) (hp : H' p = none) (hi : ks[i]? = some ki) (hn : (ks.map (·.1)).Nodup) :
    Fnd ks H (upd (upd H' p (.dK (marks [ki.1]))) f (.dK (putK kvs (.inr ki.1) (.ref p)))) f (putK kvs (.inr ki.1) (.ref p)) (i + 1) (setN D i p) (setN R i [ki.1]) where
  hf := upd_same
  kl := Nat.le_trans (length_putK _ _ _) (Nat.succ_le_succ F.kl)
  va := fun n kn hni e => by
    rw [valV_put]
    by_cases c : n = i
    · subst c
      rw [hi] at e
      cases e
      rw [if_pos rfl, setN_same]
    · have ne : kn.1 ≠ ki.1 := fun z => c (names_ix hn e hi z)
      rw [if_neg (fun z => ne (Sum.inr.inj z)), setN_ne c]
      exact F.va n kn (by omega) e
  hd := fun n hn => by
    have fp : f ≠ p := ne_of_none F.hf hp
    by_cases c : n = i
    · subst c
      rw [setN_same, setN_same, upd_ne fp.symm, upd_same]
    · rw [setN_ne c, setN_ne c, upd_ne (F.df n (by omega)), upd_ne (ne_of_none (F.hd n (by omega)) hp)]
      exact F.hd n (by omega)
  dj := fun n m hn hm e => by
    by_cases c1 : n = i
    · by_cases c2 : m = i
      · omega
      · subst c1
        rw [setN_same, setN_ne c2] at e
        exact absurd e.symm (ne_of_none (F.hd m (by omega)) hp)
    · by_cases c2 : m = i
      · subst c2
        rw [setN_same, setN_ne c1] at e
        exact absurd e (ne_of_none (F.hd n (by omega)) hp)
      · rw [setN_ne c1, setN_ne c2] at e
        exact F.dj n m (by omega) (by omega) e
  df := fun n hn => by
    by_cases c : n = i
    · subst c
      rw [setN_same]
      exact (ne_of_none F.hf hp).symm
    · rw [setN_ne c]; exact F.df n (by omega)
  fr := fun n hn => by
    by_cases c : n = i
    · subst c
      rw [setN_same]
      exact F.sm.free hp
    · rw [setN_ne c]; exact F.fr n (by omega)
  nd := fun n hn => by
    by_cases c : n = i
    · subst c
      rw [setN_same]
      simp
    · rw [setN_ne c]; exact F.nd n (by omega)
  sm := (F.sm.new hp).put hfH
theorem Fnd.set {ks : List Kd} {H H' : Hp} {f : Addr} {kvs : List (Key × V)} {i m : Nat} {D : Nat → Addr} {R : Nat → List Str} {rs : List Str} (F : Fnd ks H H' f kvs i D R) (hm : m < i) (hr : rs.Nodup) :
    Fnd ks H (upd H' (D m) (.dK (marks rs))) f kvs i D (setN R m rs) where
  hf := by rw [upd_ne (F.df m hm).symm]; exact F.hf
  kl := F.kl
  va := F.va
  hd := fun n hn => by
    by_cases c : n = m
    · subst c
      rw [setN_same, upd_same]
    · rw [setN_ne c, upd_ne (fun z => c (F.dj n m hn hm z))]
      exact F.hd n hn
  dj := F.dj
  df := F.df
  fr := F.fr
  nd := fun n hn => by
    by_cases c : n = m
    · subst c
      rw [setN_same]; exact hr
    · rw [setN_ne c]; exact F.nd n hn
  sm := F.sm.put (F.fr m hm)
theorem Fnd.get {ks : List Kd} {H H' : Hp} {f : Addr} {kvs : List (Key × V)} {i n : Nat} {D : Nat → Addr} {R : Nat → List Str} {kn : Kd} (F : Fnd ks H H' f kvs i D R) (hn : n < i) (e : ks[n]? = some kn) : DGet H' f (.str kn.1) (some (.ref (D n))) := by
  have z := DGet.k (k := (.inr kn.1 : Key)) F.hf
  rw [F.va n kn hn e] at z
  exact z
def Ini (ks : List Kd) (i : Nat) (done : List Str) (R : Nat → List Str) : Prop := ∀ (n : Nat) (kn : Kd), ks[n]? = some kn →
  (n < i → ∀ s, s ∈ R n ↔ s = kn.1 ∨ s ∈ kn.2.flatMap (·.2)) ∧ (n = i → ∀ s, s ∈ R n ↔ s = kn.1 ∨ s ∈ done)
theorem Ini.first {ks : List Kd} {i : Nat} {R : Nat → List Str} {ki : Kd} (h : ∀ (n : Nat) (kn : Kd), ks[n]? = some kn → n < i → ∀ s, s ∈ R n ↔ s = kn.1 ∨ s ∈ kn.2.flatMap (·.2)) (hi : ks[i]? = some ki) : Ini ks i [] (setN R i [ki.1]) := fun n kn e => by
  refine ⟨fun hn s => ?_, fun hn s => ?_⟩
  · rw [setN_ne (by omega)]
    exact h n kn e hn s
  · subst hn
    rw [hi] at e
    cases e
    rw [setN_same]
    simp
theorem Ini.up {ks : List Kd} {i : Nat} {R : Nat → List Str} {ki : Kd} (h : Ini ks i (ki.2.flatMap (·.2)) R) (hi : ks[i]? = some ki) : ∀ (n : Nat) (kn : Kd), ks[n]? = some kn → n < i + 1 → ∀ s, s ∈ R n ↔ s = kn.1 ∨ s ∈ kn.2.flatMap (·.2) := fun n kn e hn s => by
  by_cases c : n = i
  · subst c
    rw [hi] at e
    cases e
    exact (h n ki hi).2 rfl s
  · exact (h n kn e).1 (by omega) s
def Half (ks : List Kd) (b : Nat) (kb : Kd) (i : Nat) (R0 R : Nat → List Str) : Prop := ∀ (n : Nat) (kn : Kd), ks[n]? = some kn →
  (n < i → ∀ s, s ∈ R n ↔ s ∈ R0 n ∨ kb.1 ∈ R0 n ∧ s ∈ R0 b) ∧ (i ≤ n → R n = R0 n)
theorem Half.start {ks : List Kd} {b : Nat} {kb : Kd} {R0 : Nat → List Str} : Half ks b kb 0 R0 R0 := fun n kn e => ⟨fun h => absurd h (Nat.not_lt_zero _), fun _ => rfl⟩
theorem Half.no {ks : List Kd} {b i : Nat} {kb ki : Kd} {R0 R : Nat → List Str} (h : Half ks b kb i R0 R) (hi : ks[i]? = some ki) (hno : kb.1 ∉ R i) : Half ks b kb (i + 1) R0 R := fun n kn e => by
  refine ⟨fun hn s => ?_, fun hn => (h n kn e).2 (by omega)⟩
  by_cases c : n = i
  · subst c
    have z := (h n ki hi).2 (Nat.le_refl _)
    rw [z] at hno ⊢
    exact ⟨.inl, fun x => x.elim id fun y => absurd y.1 hno⟩
  · exact (h n kn e).1 (by omega) s
theorem Half.mem {ks : List Kd} {b i : Nat} {kb : Kd} {R0 R : Nat → List Str} (h : Half ks b kb i R0 R) (hb : ks[b]? = some kb) (s : Str) : s ∈ R b ↔ s ∈ R0 b := by
  by_cases c : b < i
  · rw [(h b kb hb).1 c s]
    exact ⟨fun x => x.elim id fun y => y.2, .inl⟩
  · rw [(h b kb hb).2 (by omega)]
end L2
namespace L2
open PySem PySem.Spec PyProof.Rows
theorem Inv.turnedL {X : Cx} {pins : List (Addr × Obj)} {σ : St} {H : Hp} {s : Shared} {h' : Heap} {t' : Nat} {fp : List Addr} (I : Inv X pins σ H s) (k : ∀ b o, b ∉ fp → s.heap.get? b = some o → h'.get? b = some o) (hf : ∀ b ∈ fp, FpOk X pins H b) :
    Inv X pins σ H { s with heap := h', toks := t' } := by
  have nit : ∀ b u, H b = some u → b ∉ fp := fun b u e z => by
    have := (hf b z).1
    rw [e] at this
    cases this
  refine I.step (g' := s.gens) (d' := s.drawn) (ch := fp) (fun b hb => ?_) (fun b o _ _ hc e _ => k b o hc e) (fun b o _ _ hc e _ => ⟨o.slots, k b o hc e⟩) (fun _ _ _ _ n => n)
    (fun b o hc e => ⟨o, k b o hc e⟩) (fun _ _ e => e) (fun _ _ _ e => e) (fun b ps e => ⟨#[], by rw [e]; simp⟩) (fun m hm => ?_) (fun b u e => ?_) I.bare
  · obtain ⟨f0, f1, f2, f3, f4, f5⟩ := hf b hb
    exact ⟨f3, f1, f4, f5⟩
  · obtain ⟨o, es, ep, ho, r⟩ := hm
    exact ⟨o, es, ep, k _ o (fun z => (hf _ z).2.1 rfl) ho, r⟩
  · refine (I.hok b u e).stay (fun c v hc q => k c v ?_ q) (fun _ q => q) fun _ _ q => q
    rcases hc with z | z
    · rw [z]; exact nit b u e
    · exact nit c _ z
def SqB (K : PySem.W.Frag) (tp : Bool) (H : Hp) (a : Addr) (xs : List V) : Prop := if tp = true then SqT K H a xs else SqL K H a xs
theorem Inv.seqB {X : Cx} {pins : List (Addr × Obj)} {σ : St} {H : Hp} {s : Shared} {tp : Bool} {a : Addr} {xs : List V} (I : Inv X pins σ H s) (h : SqB X.K tp H a xs) : ∃ its : List Value, Vals xs its ∧ SeqObj s.heap tp a its.toArray ∧ xs.length ≤ sizeLine := by
  cases tp with
  | true =>
    obtain ⟨its, r, p, z⟩ := I.tuple (show SqT X.K H a xs from h)
    exact ⟨its, r, (show s.heap.IsTuple a its.toArray from p), z⟩
  | false =>
    obtain ⟨its, r, p, z⟩ := I.list (show SqL X.K H a xs from h)
    exact ⟨its, r, p.isList, z⟩
theorem Inv.seqB_inj {X : Cx} {pins : List (Addr × Obj)} {σ : St} {H : Hp} {s : Shared} {tp : Bool} {a : Addr} {xs ys : List V} (I : Inv X pins σ H s) (h : SqB X.K tp H a xs) (h2 : SqB X.K tp H a ys) : xs = ys := by
  cases tp with
  | true => exact I.tuple_inj (show SqT X.K H a xs from h) (show SqT X.K H a ys from h2)
  | false => exact I.list_inj (show SqL X.K H a xs from h) (show SqL X.K H a ys from h2)
def itc (tp : Bool) : String := if tp = true then "tuple_iterator" else "list_iterator"
theorem iter_seq {prog : Program} {w : World} {A : Around} {E : Value → Shared → Prop} {s : Shared} {tp : Bool} {l : Addr} {xs : Array Value} {Q : Value → Shared → Prop} (h : SeqObj s.heap tp l xs)
    (hQ : Q (.ref s.heap.objs.size) { s with heap := s.heap.push { cls := .type (itc tp), data := .fields #[.ref l, .int 0 0] } }) : wpAny (model prog w) A (pyIter (.ref l)) Q E s := by
  cases tp with
  | true => exact wpAny_pyIter_tuple (show s.heap.IsTuple l xs from h) hQ
  | false => exact wpAny_pyIter_list (show s.heap.IsList l xs from h) hQ
theorem seqIter_new {h : Heap} {tp : Bool} {l it : Addr} (e : h.get? it = some { cls := .type (itc tp), data := .fields #[.ref l, .int 0 0] }) : SeqIter h tp it l 0 := by
  cases tp with
  | true => exact (show h.IsTupleIter it l 0 from ⟨_, e, rfl, rfl⟩)
  | false => exact (show h.IsListIter it l 0 from ⟨_, e, rfl, rfl⟩)
theorem SeqObj.obj {h : Heap} {tp : Bool} {l : Addr} {xs : Array Value} (x : SeqObj h tp l xs) : ∃ o, h.get? l = some o := by
  cases tp with
  | true => obtain ⟨o, ho, _⟩ := (show h.IsTuple l xs from x); exact ⟨o, ho⟩
  | false => obtain ⟨o, ho, _⟩ := (show h.IsList l xs from x); exact ⟨o, ho⟩
end L2
namespace L2
open PySem PySem.Spec PyProof.Rows
theorem rot_nodup {ws : List Str} {t : Nat} (h : ws.Nodup) : (ws.drop t ++ ws.take t).Nodup :=
  (List.perm_append_comm (l₁ := ws.take t) (l₂ := ws.drop t)).nodup_iff.mp (by rw [List.take_append_drop]; exact h)
structure KS (H H' : Hp) (d l w wm p : Addr) (ws m : List Str) (fv : List V) : Prop where
  D : Deal H' d l
  k : Kp d l H H'
  ew : H' w = some (.lst (ws.map V.str))
  em : H' wm = some (.lst (m.map V.str))
  ep : H' p = some (.lst fv)
theorem KS.new {H H' : Hp} {d l w wm p q : Addr} {ws m : List Str} {fv : List V} {o : HO} (S : KS H H' d l w wm p ws m fv) (hq : H' q = none) : KS H (upd H' q o) d l w wm p ws m fv :=
  ⟨S.D.new hq, S.k.new hq, by rw [upd_ne (ne_of_none S.ew hq)]; exact S.ew, by rw [upd_ne (ne_of_none S.em hq)]; exact S.em, by rw [upd_ne (ne_of_none S.ep hq)]; exact S.ep⟩
theorem Deal.other {H : Hp} {d l q : Addr} {o : HO} (D : Deal H d l) (h1 : q ≠ d) (h2 : q ≠ l) : Deal (upd H q o) d l := by
  obtain ⟨s, n, ls, D⟩ := D
  exact ⟨s, n, ls, by rw [upd_ne h1.symm]; exact D.hd, by rw [upd_ne h2.symm]; exact D.hl, D.s0, D.s1, D.n0, D.l0⟩
theorem KS.put {H H' : Hp} {d l w wm p q : Addr} {ws m : List Str} {fv : List V} {o : HO} (S : KS H H' d l w wm p ws m fv) (hq : H q = none) (qd : q ≠ d) (ql : q ≠ l) (qw : w ≠ q) (qm : wm ≠ q) (qp : p ≠ q) : KS H (upd H' q o) d l w wm p ws m fv :=
  ⟨S.D.other qd ql, fun c u h h1 h2 => by rw [upd_ne (ne_of_none h hq)]; exact S.k c u h h1 h2, by rw [upd_ne qw]; exact S.ew, by rw [upd_ne qm]; exact S.em, by rw [upd_ne qp]; exact S.ep⟩
theorem KS.free {H H' : Hp} {d l w wm p q : Addr} {ws m : List Str} {fv : List V} (S : KS H H' d l w wm p ws m fv) (hq : H' q = none) : H q = none := by
  obtain ⟨qd, ql⟩ := S.D.fresh hq
  cases e : H q with
  | none => rfl
  | some o =>
    have z := S.k q o e qd ql
    rw [hq] at z
    cases z
def names (ks : List Kd) : List Str := ks.flatMap fun k => k.2.map (·.1)
structure Made (ws m : List Str) (ks : List Kd) (k made : Nat) : Prop where
  nm : ks.map (·.1) = ws.take k
  mn : names ks = m.take made
  b1 : made ≤ 6 * k
  b2 : ∀ x ∈ ks, x.2.length ≤ 100
  b3 : (allF ks).length ≤ 24 * k
theorem take_one {xs : List Str} {i : Nat} {x : Str} (h : xs[i]? = some x) : xs.take i ++ [x] = xs.take (i + 1) := by rw [List.take_add_one, h]; rfl
theorem Made.next {ws m : List Str} {ks : List Kd} {k made made' : Nat} {ms : List Mk1} {n : Str} (M : Made ws m ks k made) (hn : ws[k]? = some n) (hm : m.take made ++ ms.map (·.1) = m.take made') (h1 : ms.length ≤ 6) (h2 : made' ≤ made + ms.length) (h3 : (ms.flatMap (·.2)).length ≤ 4 * ms.length) :
    Made ws m (ks ++ [(n, ms)]) (k + 1) made' where
  nm := by rw [List.map_append, M.nm, ← take_one hn]; rfl
  mn := by
    have : names (ks ++ [(n, ms)]) = names ks ++ ms.map (·.1) := by unfold names; rw [List.flatMap_append]; simp
    rw [this, M.mn, hm]
  b1 := by have := M.b1; omega
  b2 := fun x hx => by
    rcases List.mem_append.mp hx with h | h
    · exact M.b2 x h
    · rw [List.mem_singleton.mp h]; show ms.length ≤ 100; omega
  b3 := by
    have : allF (ks ++ [(n, ms)]) = allF ks ++ ms.flatMap (·.2) := by unfold allF; rw [List.flatMap_append]; simp
    rw [this, List.length_append]
    have := M.b3
    omega
end L2
namespace L2
open PySem PySem.Spec PyProof.Rows
theorem pg_tupK {X : Cx} {K : PySem.W.Frag} {es : List Expr} {k : Nat} {pos : Pos} {t : TGs} {n : Nat} (hK : X.K = K) (hc : X.calm = true) (h : PGs X es t)
    (hn : (assignEach es X.env).length = n := by rfl) (hst : (assignEach es X.env).findIdx? (·.1) = none := by rfl) : PG X (.Tuple es k pos) (gTup K n t) := hK ▸ pg_tup hc h hn hst
theorem len_flat {α : Type} {f : α → List Str} : ∀ {xs : List α} {x : α}, x ∈ xs → (f x).length ≤ (xs.flatMap f).length
  | a :: xs, x, h => by
    rw [List.flatMap_cons, List.length_append]
    rcases List.mem_cons.mp h with e | h
    · rw [e]; omega
    · have := len_flat (f := f) h
      omega
theorem SmK.fl {ks : List Kd} (h : SmK ks) {k : Kd} (hk : k ∈ ks) {m : Mk1} (hm : m ∈ k.2) : m.2.length ≤ 1000 := by
  have h1 := len_flat (f := fun m : Mk1 => m.2) hm
  have h2 := len_flat (f := fun k : Kd => k.2.flatMap (·.2)) hk
  have h3 := h.2.2
  unfold allF at h3
  omega
theorem names_apart : ∀ {ks : List Kd} {i j : Nat} {x y : Kd} {m : Str}, (names ks).Nodup → ks[i]? = some x → ks[j]? = some y → m ∈ x.2.map (·.1) → m ∈ y.2.map (·.1) → i = j
  | [], _, _, _, _, _, _, h, _, _, _ => by simp at h
  | a :: r, 0, 0, _, _, _, _, _, _, _, _ => rfl
  | a :: r, 0, j + 1, x, y, m, hn, h1, h2, m1, m2 => by
    have hn : (a.2.map (·.1) ++ names r).Nodup := hn
    rw [List.nodup_append] at hn
    simp at h1 h2
    subst h1
    exact absurd rfl (hn.2.2 m m1 m (List.mem_flatMap.mpr ⟨y, List.mem_of_getElem? h2, m2⟩))
  | a :: r, i + 1, 0, x, y, m, hn, h1, h2, m1, m2 => by
    have hn : (a.2.map (·.1) ++ names r).Nodup := hn
    rw [List.nodup_append] at hn
    simp at h1 h2
    subst h2
    exact absurd rfl (hn.2.2 m m2 m (List.mem_flatMap.mpr ⟨x, List.mem_of_getElem? h1, m1⟩))
  | a :: r, i + 1, j + 1, x, y, m, hn, h1, h2, m1, m2 => by
    have hn : (a.2.map (·.1) ++ names r).Nodup := hn
    rw [List.nodup_append] at hn
    simp at h1 h2
    rw [names_apart hn.2.1 h1 h2 m1 m2]
end L2
namespace L2
open PySem PySem.Spec PyProof.Rows
abbrev IsZipX (h : Heap) (z TI TO : Addr) (a : Addr) (f : Bool) : Prop :=
  h.get? z = some { cls := .type "zip", dict := none, data := .fields #[rawInt a, .bool f, .bool false, .ref TI, .ref TO], slots := #[] }
section
variable {prog : Program} {w : World} {A : Around} {E : Value → Shared → Prop} {s : Shared}
end
end L2
namespace L2
open PySem PySem.Spec PyProof.Rows
structure ZSt (h : Heap) (z TI TO i1 i2 l1 l2 S : Addr) (t1 t2 : Bool) (i : Nat) : Prop where
  ti : IsPair h TI (.ref i1) (.ref i2)
  s1 : SeqIter h t1 i1 l1 i
  s2 : SeqIter h t2 i2 l2 i
  st : (IsZip h z TI TO .none ∧ ∃ a b, IsPair h TO a b) ∨ ∃ (a : Addr) (f : Bool) (oa : Obj), IsZipX h z TI TO a f ∧ h.get? a = some oa ∧ a ≠ z ∧ a ≠ S ∧ a ≠ i1 ∧ a ≠ i2
theorem ZSt.keep {h h' : Heap} {z TI TO i1 i2 l1 l2 S : Addr} {t1 t2 : Bool} {i : Nat} (x : ZSt h z TI TO i1 i2 l1 l2 S t1 t2 i) (k : ∀ b o, b ≠ S → h.get? b = some o → h'.get? b = some o) (hz : z ≠ S) (hTI : TI ≠ S) (hTO : TO ≠ S) (h1 : i1 ≠ S) (h2 : i2 ≠ S) : ZSt h' z TI TO i1 i2 l1 l2 S t1 t2 i :=
  ⟨k _ _ hTI x.ti, x.s1.at fun o e => k _ o h1 e, x.s2.at fun o e => k _ o h2 e, by
    rcases x.st with ⟨e, a, b, e2⟩ | ⟨a, f, oa, e, e2, n1, n2, n3⟩
    · exact .inl ⟨k _ _ hz e, a, b, k _ _ hTO e2⟩
    · exact .inr ⟨a, f, oa, k _ _ hz e, k _ _ n2 e2, n1, n2, n3⟩⟩
structure ZG (xs ys : Array Value) (lo : Nat) (h : Heap) (as : List Addr) : Prop where
  rise : as.Pairwise (· < ·)
  above : ∀ a ∈ as, lo ≤ a
  pairs : ∀ (j : Nat) (a : Addr), as[j]? = some a → ∃ x y, xs[j]? = some x ∧ ys[j]? = some y ∧ IsPair h a x y
theorem ZG.there {xs ys : Array Value} {lo : Nat} {h : Heap} {as : List Addr} (g : ZG xs ys lo h as) {a : Addr} (ha : a ∈ as) : a < h.objs.size := by
  obtain ⟨j, hj⟩ := List.mem_iff_getElem?.mp ha
  obtain ⟨_, _, _, _, e⟩ := g.pairs j a hj
  exact Heap.lt_size e
section
variable {prog : Program} {w : World} {A : Around} {s : Shared}
end
end L2
namespace L2
open PySem PySem.Spec PyProof.Rows
section
variable {prog : Program} {w : World} {A : Around} {s : Shared}
end
end L2
namespace L2
open PySem PySem.Spec PyProof.Rows
section
variable {X : Cx} {a b : Expr} {tl : TA} {pos p pos2 p2 : Pos}
end
end L2
namespace L2
open PySem PySem.Spec PyProof.Rows
section
variable {prog : Program} {w : World} {A : Around} {E : Value → Shared → Prop} {s : Shared}
theorem enum_item {e it l : Addr} {tp : Bool} {i : Nat} {items : Array Value} {x old : Value} {Q : Option Value → Shared → Prop}
    (he : IsEnum s.heap e it i old) (hit : SeqIter s.heap tp it l i) (hl : SeqObj s.heap tp l items) (hx : items[i]? = some x) (hne : e ≠ it)
    (hQ : ∀ h', IsEnumOut h' e it ((i : Int) + 1) x s.heap.objs.size → SeqIter h' tp it l (i + 1) → h'.get? s.heap.objs.size = some { cls := .type "tuple", data := .seq #[.int i s.toks, x] } → h'.objs.size = s.heap.objs.size + 1 →
      (∀ b o, b ≠ e → b ≠ it → s.heap.get? b = some o → h'.get? b = some o) → Q (some (.ref s.heap.objs.size)) { s with heap := h', toks := s.toks + 1 }) : wpAny (model prog w) A (pyNext (.ref e)) Q E s := by
  have hT : s.TypeIs (.ref e) "enumerate" := ⟨_, he, rfl⟩
  obtain ⟨hp, g, d, tk, os⟩ := s
  unfold pyNext
  refine wpAny_bind (wpAny_attempt (wpAny_callSpecial?_slot (name := Str.ofString "__next__") hT F.slot_enumerate_next (wpAny_call_entry F.slot_enumerate_next hT F.entry_enumerate_next ?_ (F.args_enumerate_next_1 _))))
  show wpAny _ _ (field (.ref e) 2 >>= _) _ _ _
  refine wpAny_bind (wpAny_field he rfl (x := .ref it) rfl ?_)
  refine wpAny_bind (next_item hit hl hx fun h1 hit1 hs1 => ?_)
  have he1 : IsEnum h1 e it i old := (hs1.2 e hne).trans he
  show wpAny _ _ (field (.ref e) 3 >>= _) _ _ ⟨h1, g, d, tk, os⟩
  refine wpAny_bind (wpAny_field he1 rfl (x := rawInt i) rfl ?_)
  show wpAny _ _ (field (.ref e) 4 >>= _) _ _ ⟨h1, g, d, tk, os⟩
  refine wpAny_bind (wpAny_field he1 rfl (x := .none) rfl ?_)
  show wpAny _ _ (mkInt i >>= _) _ _ ⟨h1, g, d, tk, os⟩
  refine wpAny_bind (wpAny_mkInt ?_)
  show wpAny _ _ (setField (.ref e) 3 (rawInt ((i : Int) + 1)) >>= _) _ _ ⟨h1, g, d, tk + 1, os⟩
  refine wpAny_bind (wpAny_setField_rec he1 (by simp) fun h2 he2 hs2 => ?_)
  replace hs2 : Heap.SameBut e h1 h2 := hs2
  replace he2 : IsEnum h2 e it ((i : Int) + 1) old := he2
  show wpAny _ _ (setField (.ref e) 4 .none >>= _) _ _ ⟨h2, g, d, tk + 1, os⟩
  refine wpAny_bind (wpAny_setField_rec he2 (by simp) fun h3 he3 hs3 => ?_)
  replace hs3 : Heap.SameBut e h2 h3 := hs3
  replace he3 : IsEnum h3 e it ((i : Int) + 1) old := he3
  show wpAny _ _ (newTuple [.int i tk, x] >>= _) _ _ ⟨h3, g, d, tk + 1, os⟩
  refine wpAny_bind (wpAny_newTuple ?_)
  have he4 : IsEnum (h3.push { cls := .type "tuple", data := .seq #[.int i tk, x] }) e it ((i : Int) + 1) old := Heap.get?_push_of_some _ he3
  have hsz : h3.objs.size = hp.objs.size := by rw [hs3.1, hs2.1, hs1.1]
  have hel : e < hp.objs.size := Heap.lt_size he
  have ht4 : (h3.push { cls := .type "tuple", data := .seq #[.int i tk, x] }).get? hp.objs.size = some { cls := .type "tuple", data := .seq #[.int i tk, x] } := by rw [← hsz]; exact Heap.get?_push_size _ rfl
  have hz4 : (h3.push { cls := .type "tuple", data := .seq #[.int i tk, x] }).objs.size = hp.objs.size + 1 := by rw [Heap.size_push, hsz]
  have hk4 : ∀ b o, b ≠ e → b ≠ it → hp.get? b = some o → (h3.push { cls := .type "tuple", data := .seq #[.int i tk, x] }).get? b = some o := fun b o hbe hbi hb => Heap.get?_push_of_some _ (hs3.extBut b o hbe (hs2.extBut b o hbe (hs1.extBut b o hbi hb)))
  have hit4 : SeqIter (h3.push { cls := .type "tuple", data := .seq #[.int i tk, x] }) tp it l (i + 1) := hit1.at fun o eo => Heap.get?_push_of_some _ (hs3.extBut _ o hne.symm (hs2.extBut _ o hne.symm eo))
  generalize h3.push { cls := .type "tuple", data := .seq #[.int i tk, x] } = h4 at he4 ht4 hz4 hk4 hit4
  show wpAny _ _ (Builtin.SmallTypes.ownedTupleIsFree (.ref e) >>= _) _ _ ⟨h4, g, d, tk + 1, os⟩
  rw [hsz]
  refine wpAny_bind ?_
  unfold Builtin.SmallTypes.ownedTupleIsFree
  refine wpAny_bind (wpAny_field he4 rfl (x := .none) rfl (wpAny_pure ?_))
  simp only [if_true]
  refine wpAny_bind (wpAny_rule ?_)
  refine wpAny_bind (wpAny_field he4 rfl (x := old) rfl ?_)
  refine wpAny_bind (wpAny_setField_rec he4 (by simp) fun h5 he5 hs5 => ?_)
  replace hs5 : Heap.SameBut e h4 h5 := hs5
  replace he5 : IsEnum h5 e it ((i : Int) + 1) x := he5
  show wpAny _ _ (Builtin.SmallTypes.ownedTupleHandOut (.ref e) (.ref hp.objs.size) >>= _) _ _ ⟨h5, g, d, tk + 1, os⟩
  refine wpAny_bind ?_
  unfold Builtin.SmallTypes.ownedTupleHandOut
  refine wpAny_bind (wpAny_setField_rec he5 (by simp) fun h6 he6 hs6 => ?_)
  replace hs6 : Heap.SameBut e h5 h6 := hs6
  replace he6 : IsEnumOut h6 e it ((i : Int) + 1) x hp.objs.size := he6
  refine wpAny_setField_rec he6 (by simp) fun h7 he7 hs7 => ?_
  replace hs7 : Heap.SameBut e h6 h7 := hs7
  replace he7 : IsEnumOut h7 e it ((i : Int) + 1) x hp.objs.size := he7
  have up : ∀ c o, c ≠ e → h4.get? c = some o → h7.get? c = some o := fun c o hc z => hs7.extBut _ _ hc (hs6.extBut _ _ hc (hs5.extBut _ _ hc z))
  refine wpAny_bind (wpAny_letGo (wpAny_pure ⟨_, rfl, wpAny_pure (hQ h7 he7 (hit4.at fun o eo => up _ o hne.symm eo) (up _ _ (Nat.ne_of_gt hel) ht4) ?_ fun b o hbe hbi hb => up b o hbe (hk4 b o hbe hbi hb))⟩))
  rw [hs7.1, hs6.1, hs5.1, hz4]
theorem enum_end {e it l : Addr} {tp : Bool} {i : Nat} {items : Array Value} {old : Value} {Q : Option Value → Shared → Prop} (hh : A.handled = none)
    (he : IsEnum s.heap e it i old) (hit : SeqIter s.heap tp it l i) (hl : SeqObj s.heap tp l items) (hx : items[i]? = none) (hQ : ∀ h', Heap.ExtBut it s.heap h' → Q none { s with heap := h' }) : wpAny (model prog w) A (pyNext (.ref e)) Q E s := by
  have hT : s.TypeIs (.ref e) "enumerate" := ⟨_, he, rfl⟩
  unfold pyNext
  refine wpAny_bind (wpAny_attempt (wpAny_callSpecial?_slot (name := Str.ofString "__next__") hT F.slot_enumerate_next (wpAny_call_entry F.slot_enumerate_next hT F.entry_enumerate_next ?_ (F.args_enumerate_next_1 _))))
  show wpAny _ _ (field (.ref e) 2 >>= _) _ _ _
  refine wpAny_bind (wpAny_field he rfl (x := .ref it) rfl ?_)
  refine wpAny_bind (next_end hh hit hl hx fun h' x he' hx' => ?_)
  obtain ⟨o, ho, hc⟩ := hx'
  refine wpAny_bind (wpAny_isInstance (T := "StopIteration") (b := true) ⟨o, ho, hc⟩ isSubtype_stop ?_)
  exact wpAny_pure (hQ _ he')
abbrev eH1 (tp : Bool) (h : Heap) (l : Addr) : Heap := h.push { cls := .type (itc tp), data := .fields #[.ref l, .int 0 0] }
abbrev eH2 (tp : Bool) (h : Heap) (l : Addr) : Heap := (eH1 tp h l).push { cls := .type "enumerate", data := .fields #[.none, .bool false, .ref h.objs.size, rawInt 0, .none, .none] }
theorem meets_enum_seq (tp : Bool) (l : Addr) (xs : Array Value) :
    Meets (Builtin.«enumerate.__new__» ⟨[.type "enumerate", .ref l], []⟩) (fun _ R s => SeqObj s.heap tp l xs ∧ R (.ok (.ret (.ref (eH1 tp s.heap l).objs.size))) { s with heap := eH2 tp s.heap l }) :=
  .of_wp fun prog w A R s h => by
    obtain ⟨hp, g, d, tk, os⟩ := s; obtain ⟨hl, h⟩ := h
    have hsub := sub_enumerate
    have hL : SeqObj (Shared.heap ⟨hp, g, d, tk, os⟩) tp l xs := hl
    wp_walk
    refine wpAny_stack_any fun st => wpAny_pure ?_
    split
    · rename_i c _ _ _ _ _
      cases (c == Value.type "enumerate")
      · wp_walk using iter_seq hL
        exact ⟨_, rfl, h⟩
      · wp_walk using iter_seq hL
        exact ⟨_, rfl, h⟩
    · wp_walk using iter_seq hL
      exact ⟨_, rfl, h⟩
theorem call_enum_seq {tp : Bool} {l : Addr} {xs : Array Value} {Q : Value → Shared → Prop} (hl : SeqObj s.heap tp l xs)
    (h : ∀ h', IsEnum h' (s.heap.objs.size + 1) s.heap.objs.size 0 .none → SeqIter h' tp s.heap.objs.size l 0 → (∀ b o, s.heap.get? b = some o → h'.get? b = some o) → Q (.ref (s.heap.objs.size + 1)) { s with heap := h' }) :
    wpAny (model prog w) A (call (.type "enumerate") [.ref l]) Q E s := by
  refine callType_new F.called_enumerate (by decide) (F.typeCall_enumerate_1 _) (F.newCall_enumerate_1 _) (fun obj => F.args_object_init_2 obj _) F.entry_enumerate_new (meets_enum_seq tp l xs) ⟨hl, ?_⟩
  have z1 : (eH1 tp s.heap l).objs.size = s.heap.objs.size + 1 := Heap.size_push ..
  have g2 : (eH2 tp s.heap l).get? (eH1 tp s.heap l).objs.size = some _ := Heap.get?_push_size _ rfl
  have g1 : (eH2 tp s.heap l).get? s.heap.objs.size = some _ := Heap.get?_push_of_some _ (Heap.get?_push_size _ rfl)
  show _ ∧ _
  rw [z1] at g2 ⊢
  exact ⟨⟨_, g2, rfl⟩, h _ g2 (seqIter_new g1) fun c o x => Heap.get?_push_of_some _ (Heap.get?_push_of_some _ x)⟩
end
def Ite (K : PySem.W.Frag) (tp : Bool) (l : Addr) : It :=
  ⟨fun i H => ∃ xs x, SqB K tp H l xs ∧ xs[i]? = some x,
   fun i H v H' => ∃ (p : Addr) (x : V), H p = none ∧ v = .ref p ∧ H' = upd H p (.tup [.int i, x]) ∧ ∀ xs, SqB K tp H l xs → xs[i]? = some x,
   fun i H => ∃ xs, SqB K tp H l xs ∧ xs.length ≤ i⟩
theorem turn_enum {P : Program} {w : World} {K : PySem.W.Frag} {elts : List Expr} {x1} {pos : Pos} {tp : Bool} (e it l : Addr) (hne : e ≠ it) :
    Turn P w K (.Tuple elts x1 pos) (Ite K tp l) [e, it] e (fun i h => (∃ old, IsEnum h e it i old) ∧ SeqIter h tp it l i) where
  mem := by simp
  obj := by
    rintro i h ⟨⟨old, h1⟩, h2⟩ c hc
    simp only [List.mem_cons, List.not_mem_nil, or_false] at hc
    rcases hc with rfl | rfl
    · exact ⟨_, h1, fun v e => by cases e⟩
    · exact h2.obj
  keep := by
    rintro i h h' ⟨⟨old, h1⟩, h2⟩ k
    exact ⟨⟨old, k e (by simp) _ h1⟩, h2.at fun o z => k it (by simp) o z⟩
  item := by
    intro X hP hw hK hc i pins s σ H E I hf st hg
    subst hP hw hK
    obtain ⟨⟨old, h1⟩, h2⟩ := st
    obtain ⟨xs, x, q1, e1⟩ := hg
    obtain ⟨its, rv, o1, z1⟩ := I.seqB q1
    obtain ⟨u1, hu1, ru1⟩ := rv.get e1
    refine enum_item h1 h2 o1 (x := u1) (by simpa using hu1) hne fun h' ho' hi' hT' hsz' hk' => ⟨_, rfl, ?_⟩
    refine wpAny_letOwnedTupleGo_enum ho' fun h'' he'' hs'' => ?_
    have hn := I.hok.fresh (Nat.le_refl s.heap.objs.size)
    have le : e < s.heap.objs.size := Heap.lt_size h1
    obtain ⟨oi, goi, _⟩ := h2.obj
    have li : it < s.heap.objs.size := Heap.lt_size goi
    have lall : ∀ b ∈ [e, it], b ≠ s.heap.objs.size := fun b hb => by
      simp only [List.mem_cons, List.not_mem_nil, or_false] at hb
      rcases hb with rfl | rfl
      · exact Nat.ne_of_lt le
      · exact Nat.ne_of_lt li
    have up : ∀ c o, c ≠ e → h'.get? c = some o → h''.get? c = some o := fun c o hc z => hs''.extBut _ _ hc z
    have I1 : Inv X pins σ (upd H s.heap.objs.size (.tup [.int i, x])) { s with heap := s.heap.push { cls := .type "tuple", data := .seq #[.int i s.toks, u1] }, toks := s.toks + 1 } :=
      I.laid (t' := s.toks + 1) (fun b u z => Heap.get?_push_of_some _ z) (Nat.le_refl _) ⟨by show 2 ≤ sizeLine; decide, [.int i s.toks, u1], .cons ⟨_, rfl⟩ (.cons ru1 .nil), ⟨⟨_, Heap.get?_push_size _ rfl, rfl, _, rfl⟩, _, Heap.get?_push_size _ rfl, rfl⟩⟩
    have hf' : ∀ b ∈ [e, it], FpOk X pins (upd H s.heap.objs.size (.tup [.int i, x])) b := fun b hb => by
      obtain ⟨f0, r⟩ := hf b hb
      exact ⟨by rw [upd_ne (lall b hb)]; exact f0, r⟩
    have I2 : Inv X pins σ (upd H s.heap.objs.size (.tup [.int i, x])) { s with heap := h'', toks := s.toks + 1 } := by
      refine I1.turnedL (h' := h'') (t' := s.toks + 1) (fun b o hb z => ?_) hf'
      simp only [List.mem_cons, List.not_mem_nil, or_false, not_or] at hb
      obtain ⟨b1, b2⟩ := hb
      rcases Heap.get?_push_cases z with ⟨rfl, rfl⟩ | z'
      · exact up _ _ b1 hT'
      · exact up _ _ b1 (hk' b o b1 b2 z')
    refine ⟨.ref s.heap.objs.size, upd H s.heap.objs.size (.tup [.int i, x]), I2, rfl, ⟨_, x, hn, rfl, rfl, fun zs hz => by rw [I.seqB_inj hz q1]; exact e1⟩, ?_, fun b hb => (hf' b hb).1⟩
    exact ⟨⟨_, by simpa using he''⟩, hi'.at fun o z => up _ _ hne.symm z⟩
  done := by
    intro X hP hw hK hc i pins s σ H E I hf st hg
    subst hP hw hK
    obtain ⟨⟨old, h1⟩, h2⟩ := st
    obtain ⟨xs, q1, hend⟩ := hg
    obtain ⟨its, rv, o1, z1⟩ := I.seqB q1
    have g1 := rv.length
    refine enum_end (I.ok.hd hc) h1 h2 o1 (by simp; omega) fun h' k => ⟨rfl, I.turnedL (t' := s.toks) (fun b o hb z => ?_) hf⟩
    simp only [List.mem_cons, List.not_mem_nil, or_false, not_or] at hb
    exact k b o hb.2 z
  self := fun _ _ _ _ _ st h => let ⟨⟨_, z⟩, _⟩ := st; wpAny_pyIter_enum z h
def iEnum (K : PySem.W.Frag) (tp : Bool) (ta : TA) : TI := fun σ H R => ta σ H fun vs H1 => ∃ l, vs = [.ref l] ∧ (∃ xs, SqB K tp H1 l xs) ∧ R (Ite K tp l) H1
theorem pi_enum {X : Cx} {elts : List Expr} {x1} {pos' : Pos} {a : Expr} {ta : TA} {p pos : Pos} {tp : Bool} (hg : Gl X "enumerate") (hm : X.mg "enumerate" = none) (hboot : bootBuiltins "enumerate" = some (.type "enumerate")) (ha : PA X [a] ta) (hs : starEach [a] X.env = [(false, eval a X.env)] := by rfl) :
    PI X (.Tuple elts x1 pos') (.Call (.Name "enumerate" p) [a] [] pos) (iEnum X.K tp ta) := by
  intro pins s σ H R I h
  refine Call_ (ld_blt I hg hm hboot (PyProof.Rows.callWith_type1 (thn (ha pos pins s σ H _ I h) fun us s1 ⟨vs, H1, I1, r1, q1⟩ => ?_) hs rfl))
  obtain ⟨l, e, ⟨xs, q2⟩, q⟩ := q1
  subst e
  obtain ⟨u1, rfl, ru1⟩ := vals1 r1
  cases ru1
  obtain ⟨its, rv, o1, z1⟩ := I1.seqB q2
  refine call_enum_seq o1 fun h' he hi hk => wpAny_pyIter_enum he ?_
  refine ⟨_, [s1.heap.objs.size + 1, s1.heap.objs.size], _, _, H1, rfl, I1.kept (t' := s1.toks) hk, turn_enum _ _ l (fun z => absurd (show @Eq Nat _ _ from z) (by omega)), ⟨⟨_, he⟩, hi⟩, fun c hc => ?_, q⟩
  have hc' : s1.heap.objs.size ≤ c := by
    simp only [List.mem_cons, List.not_mem_nil, or_false] at hc
    rcases hc with rfl | rfl <;> first | exact Nat.le_add_right _ _ | exact Nat.le_refl _
  exact I1.fpOk hc' (I1.hok.fresh hc')
end L2
namespace L2
open PySem PySem.Spec PyProof.Rows
abbrev IsTrip (h : Heap) (a : Addr) (x y z : Value) : Prop := h.get? a = some { cls := .type "tuple", data := .seq #[x, y, z] }
theorem typeCall_zip_3 (a b c : Value) : checkTypeCall "zip" ⟨[a, b, c], []⟩ = pure () := by kernel_rfl
theorem newCall_zip_3 (a b c : Value) : checkBuiltinCall "zip.__new__" ⟨[.type "zip", a, b, c], []⟩ = pure () := by kernel_rfl
theorem args_obj_init_4 (a b c d : Value) : argsOk "object.__init__" ⟨[a, b, c, d], []⟩ := by
  unfold argsOk
  rw [signature?_of (id := "object.__init__") (n := ['_', '_', 't', 'i', 'n', 'i', '_', '_']) (o := ['t', 'c', 'e', 'j', 'b', 'o']) (by kernel_rfl) F.owner_object]
  kernel_rfl
structure Ap3 (z TI TO i1 i2 i3 l1 l2 l3 : Addr) : Prop where
  TIz : TI ≠ z
  TOz : TO ≠ z
  i1z : i1 ≠ z
  i2z : i2 ≠ z
  i3z : i3 ≠ z
  TITO : TI ≠ TO
  TIi1 : TI ≠ i1
  TIi2 : TI ≠ i2
  TIi3 : TI ≠ i3
  TOi1 : TO ≠ i1
  TOi2 : TO ≠ i2
  TOi3 : TO ≠ i3
  i12 : i1 ≠ i2
  i13 : i1 ≠ i3
  i23 : i2 ≠ i3
  l1z : l1 ≠ z
  l2z : l2 ≠ z
  l3z : l3 ≠ z
  l2TO : l2 ≠ TO
  l3TO : l3 ≠ TO
  l2i1 : l2 ≠ i1
  l3i1 : l3 ≠ i1
  l3i2 : l3 ≠ i2
section
variable {prog : Program} {w : World} {A : Around} {E : Value → Shared → Prop} {s : Shared}
theorem upd_trip {a : Addr} {x y z u : Value} {k : Nat} {Q : Unit → Shared → Prop} (hT : IsTrip s.heap a x y z)
    (h : ∀ h', h'.get? a = some { cls := .type "tuple", data := .seq ((#[x, y, z] : Array Value).setIfInBounds k u) } → Heap.SameBut a s.heap h' → Q () { s with heap := h' }) : wpAny (model prog w) A (updateSeq a (·.setIfInBounds k u)) Q E s := by
  refine wpAny_updateSeq hT rfl (h _ ?_ (Heap.SameBut.update ..))
  rw [Heap.get?_update_self _ hT rfl]
  simp [Obj.mapSeq]
theorem zip3_item {z TI TO i1 i2 i3 l1 l2 l3 : Addr} {t1 t2 t3 : Bool} {k : Nat} {xs ys zs : Array Value} {x y v a b c : Value} {Q : Option Value → Shared → Prop} (D : Ap3 z TI TO i1 i2 i3 l1 l2 l3)
    (hz : IsZip s.heap z TI TO .none) (hTI : IsTrip s.heap TI (.ref i1) (.ref i2) (.ref i3)) (hTO : IsTrip s.heap TO a b c)
    (h1 : SeqIter s.heap t1 i1 l1 k) (h2 : SeqIter s.heap t2 i2 l2 k) (h3 : SeqIter s.heap t3 i3 l3 k) (hl1 : SeqObj s.heap t1 l1 xs) (hl2 : SeqObj s.heap t2 l2 ys) (hl3 : SeqObj s.heap t3 l3 zs)
    (hx : xs[k]? = some x) (hy : ys[k]? = some y) (hv : zs[k]? = some v)
    (hQ : ∀ h', IsZip h' z TI TO (rawInt s.heap.objs.size) → IsTrip h' TO x y v → SeqIter h' t1 i1 l1 (k + 1) → SeqIter h' t2 i2 l2 (k + 1) → SeqIter h' t3 i3 l3 (k + 1) → IsTrip h' s.heap.objs.size x y v → h'.objs.size = s.heap.objs.size + 1 →
      (∀ c o, c ≠ z → c ≠ TO → c ≠ i1 → c ≠ i2 → c ≠ i3 → s.heap.get? c = some o → h'.get? c = some o) → Q (some (.ref s.heap.objs.size)) { s with heap := h' }) :
    wpAny (model prog w) A (pyNext (.ref z)) Q E s := by
  have hT : s.TypeIs (.ref z) "zip" := ⟨_, hz, rfl⟩
  unfold pyNext
  refine wpAny_bind (wpAny_attempt (wpAny_callSpecial?_slot (name := Str.ofString "__next__") hT F.slot_zip_next (wpAny_call_entry F.slot_zip_next hT F.entry_zip_next ?_ (F.args_zip_next_1 _))))
  show wpAny _ _ (field (.ref z) 2 >>= _) _ _ _
  refine wpAny_bind (wpAny_field hz rfl (x := .bool false) rfl ?_)
  show wpAny _ _ (field (.ref z) 3 >>= _) _ _ _
  refine wpAny_bind (wpAny_field hz rfl (x := .ref TI) rfl ?_)
  refine wpAny_bind (wpAny_seqItems hTI rfl ?_)
  show wpAny _ _ (Builtin.SmallTypes.ownedTupleIsFree (.ref z) >>= _) _ _ _
  refine wpAny_bind ?_
  unfold Builtin.SmallTypes.ownedTupleIsFree
  refine wpAny_bind (wpAny_field hz rfl (x := .none) rfl (wpAny_pure ?_))
  simp only [if_true]
  refine wpAny_bind (wpAny_rule ?_)
  refine wpAny_bind (wpAny_field hz rfl (x := .ref TO) rfl ?_)
  refine wpAny_bind (wpAny_setField_rec hz (by simp) fun g1 hz1 hs1 => ?_)
  replace hz1 : IsZip g1 z TI TO .ellipsis := hz1
  refine wpAny_bind ?_
  simp only [List.zipIdx_cons, List.zipIdx_nil, List.forIn_cons, List.forIn_nil]
  refine wpAny_bind (wpAny_bind (wpAny_onRaise ?_))
  show wpAny _ _ (Builtin.SmallTypes.nextOf (.ref i1) >>= _) _ _ _
  refine wpAny_bind (next_item (h1.at fun o e => hs1.extBut _ o D.i1z e) (hl1.at fun o e => hs1.extBut _ o D.l1z e) hx fun g2 n1 hs2 => wpAny_pure ?_)
  have hTO2 : IsTrip g2 TO a b c := hs2.extBut _ _ D.TOi1 (hs1.extBut _ _ D.TOz hTO)
  refine wpAny_bind (wpAny_seqItems hTO2 rfl ?_)
  refine wpAny_bind (upd_trip hTO2 fun g3 hTO3 hs3 => ?_)
  replace hTO3 : IsTrip g3 TO x b c := hTO3
  refine wpAny_bind (wpAny_letGo (wpAny_pure ?_))
  refine wpAny_bind (wpAny_bind (wpAny_onRaise ?_))
  show wpAny _ _ (Builtin.SmallTypes.nextOf (.ref i2) >>= _) _ _ _
  refine wpAny_bind (next_item (h2.at fun o e => hs3.extBut _ o D.TOi2.symm (hs2.extBut _ o D.i12.symm (hs1.extBut _ o D.i2z e)))
    (hl2.at fun o e => hs3.extBut _ o D.l2TO (hs2.extBut _ o D.l2i1 (hs1.extBut _ o D.l2z e))) hy fun g4 n2 hs4 => wpAny_pure ?_)
  have hTO4 : IsTrip g4 TO x b c := hs4.extBut _ _ D.TOi2 hTO3
  refine wpAny_bind (wpAny_seqItems hTO4 rfl ?_)
  refine wpAny_bind (upd_trip hTO4 fun g5 hTO5 hs5 => ?_)
  replace hTO5 : IsTrip g5 TO x y c := hTO5
  refine wpAny_bind (wpAny_letGo (wpAny_pure ?_))
  refine wpAny_bind (wpAny_bind (wpAny_onRaise ?_))
  show wpAny _ _ (Builtin.SmallTypes.nextOf (.ref i3) >>= _) _ _ _
  refine wpAny_bind (next_item (h3.at fun o e => hs5.extBut _ o D.TOi3.symm (hs4.extBut _ o D.i23.symm (hs3.extBut _ o D.TOi3.symm (hs2.extBut _ o D.i13.symm (hs1.extBut _ o D.i3z e)))))
    (hl3.at fun o e => hs5.extBut _ o D.l3TO (hs4.extBut _ o D.l3i2 (hs3.extBut _ o D.l3TO (hs2.extBut _ o D.l3i1 (hs1.extBut _ o D.l3z e))))) hv fun g6 n3 hs6 => wpAny_pure ?_)
  have hTO6 : IsTrip g6 TO x y c := hs6.extBut _ _ D.TOi3 hTO5
  refine wpAny_bind (wpAny_seqItems hTO6 rfl ?_)
  refine wpAny_bind (upd_trip hTO6 fun g7 hTO7 hs7 => ?_)
  replace hTO7 : IsTrip g7 TO x y v := hTO7
  refine wpAny_bind (wpAny_letGo (wpAny_pure (wpAny_pure ?_)))
  refine wpAny_bind (wpAny_seqItems hTO7 rfl ?_)
  refine wpAny_bind (wpAny_newTuple ?_)
  have hsz : g7.objs.size = s.heap.objs.size := by rw [hs7.1, hs6.1, hs5.1, hs4.1, hs3.1, hs2.1, hs1.1]
  have hz7 : IsZip g7 z TI TO .ellipsis := hs7.extBut _ _ D.TOz.symm (hs6.extBut _ _ D.i3z.symm (hs5.extBut _ _ D.TOz.symm (hs4.extBut _ _ D.i2z.symm (hs3.extBut _ _ D.TOz.symm (hs2.extBut _ _ D.i1z.symm hz1)))))
  have hk7 : ∀ c o, c ≠ z → c ≠ TO → c ≠ i1 → c ≠ i2 → c ≠ i3 → s.heap.get? c = some o → g7.get? c = some o := fun c o c1 c2 c3 c4 c5 e =>
    hs7.extBut _ _ c2 (hs6.extBut _ _ c5 (hs5.extBut _ _ c2 (hs4.extBut _ _ c4 (hs3.extBut _ _ c2 (hs2.extBut _ _ c3 (hs1.extBut _ _ c1 e))))))
  have m1 : SeqIter g7 t1 i1 l1 (k + 1) := n1.at fun o e => hs7.extBut _ o D.TOi1.symm (hs6.extBut _ o D.i13 (hs5.extBut _ o D.TOi1.symm (hs4.extBut _ o D.i12 (hs3.extBut _ o D.TOi1.symm e))))
  have m2 : SeqIter g7 t2 i2 l2 (k + 1) := n2.at fun o e => hs7.extBut _ o D.TOi2.symm (hs6.extBut _ o D.i23 (hs5.extBut _ o D.TOi2.symm e))
  have m3 : SeqIter g7 t3 i3 l3 (k + 1) := n3.at fun o e => hs7.extBut _ o D.TOi3.symm e
  have hzlt : z < g7.objs.size := Heap.lt_size hz7
  show wpAny _ _ (Builtin.SmallTypes.ownedTupleHandOut (.ref z) (.ref g7.objs.size) >>= _) _ _ _
  refine wpAny_bind ?_
  unfold Builtin.SmallTypes.ownedTupleHandOut
  have hz8 : IsZip (g7.push { cls := .type "tuple", data := .seq #[x, y, v] }) z TI TO .ellipsis := Heap.get?_push_of_some _ hz7
  refine wpAny_bind (wpAny_setField_rec hz8 (by simp) fun g9 hz9 hs9 => ?_)
  replace hz9 : IsZip g9 z TI TO (rawInt g7.objs.size) := hz9
  refine wpAny_setField_rec hz9 (by simp) fun g10 hz10 hs10 => ?_
  replace hz10 : IsZip g10 z TI TO (rawInt g7.objs.size) := hz10
  have up : ∀ c o, c ≠ z → g7.get? c = some o → g10.get? c = some o := fun c o c1 e => hs10.extBut _ _ c1 (hs9.extBut _ _ c1 (Heap.get?_push_of_some _ e))
  have hT10 : IsTrip g10 g7.objs.size x y v := hs10.extBut _ _ (Nat.ne_of_gt hzlt) (hs9.extBut _ _ (Nat.ne_of_gt hzlt) (Heap.get?_push_size _ rfl))
  have hs' : g10.objs.size = g7.objs.size + 1 := by rw [hs10.1, hs9.1, Heap.size_push]
  rw [hsz] at hz10 hT10 hs'
  refine wpAny_pure ⟨_, rfl, wpAny_pure ?_⟩
  show Q (some (.ref g7.objs.size)) _
  rw [hsz]
  exact hQ g10 hz10 (up _ _ D.TOz hTO7) (m1.at fun o e => up _ o D.i1z e) (m2.at fun o e => up _ o D.i2z e) (m3.at fun o e => up _ o D.i3z e) hT10 hs' fun c o c1 c2 c3 c4 c5 e => up c o c1 (hk7 c o c1 c2 c3 c4 c5 e)
theorem zip3_end {z TI TO i1 i2 i3 l1 l2 l3 : Addr} {t1 : Bool} {k : Nat} {xs : Array Value} {a b c : Value} {Q : Option Value → Shared → Prop} (hh : A.handled = none) (D : Ap3 z TI TO i1 i2 i3 l1 l2 l3)
    (hz : IsZip s.heap z TI TO .none) (hTI : IsTrip s.heap TI (.ref i1) (.ref i2) (.ref i3)) (hTO : IsTrip s.heap TO a b c)
    (h1 : SeqIter s.heap t1 i1 l1 k) (hl1 : SeqObj s.heap t1 l1 xs) (hend : xs[k]? = none)
    (hQ : ∀ h', (∀ c o, c ≠ z → c ≠ i1 → s.heap.get? c = some o → h'.get? c = some o) → Q none { s with heap := h' }) : wpAny (model prog w) A (pyNext (.ref z)) Q E s := by
  have hT : s.TypeIs (.ref z) "zip" := ⟨_, hz, rfl⟩
  have fin : ∀ h' e, (∀ c o, c ≠ z → c ≠ i1 → s.heap.get? c = some o → h'.get? c = some o) → (∃ o, h'.get? e = some o ∧ o.cls = .type "StopIteration") →
      wpAny (model prog w) A (do if ← isInstance (.ref e) (.type "StopIteration") then pure none else throw (.ref e)) Q E { s with heap := h' } := fun h' e hk he => by
    obtain ⟨o, ho, hc⟩ := he
    refine wpAny_bind (wpAny_isInstance (T := "StopIteration") (b := true) ⟨o, ho, hc⟩ isSubtype_stop ?_)
    exact wpAny_pure (hQ _ hk)
  unfold pyNext
  refine wpAny_bind (wpAny_attempt (wpAny_callSpecial?_slot (name := Str.ofString "__next__") hT F.slot_zip_next (wpAny_call_entry F.slot_zip_next hT F.entry_zip_next ?_ (F.args_zip_next_1 _))))
  show wpAny _ _ (field (.ref z) 2 >>= _) _ _ _
  refine wpAny_bind (wpAny_field hz rfl (x := .bool false) rfl ?_)
  show wpAny _ _ (field (.ref z) 3 >>= _) _ _ _
  refine wpAny_bind (wpAny_field hz rfl (x := .ref TI) rfl ?_)
  refine wpAny_bind (wpAny_seqItems hTI rfl ?_)
  show wpAny _ _ (Builtin.SmallTypes.ownedTupleIsFree (.ref z) >>= _) _ _ _
  refine wpAny_bind ?_
  unfold Builtin.SmallTypes.ownedTupleIsFree
  refine wpAny_bind (wpAny_field hz rfl (x := .none) rfl (wpAny_pure ?_))
  simp only [if_true]
  refine wpAny_bind (wpAny_rule ?_)
  refine wpAny_bind (wpAny_field hz rfl (x := .ref TO) rfl ?_)
  refine wpAny_bind (wpAny_setField_rec hz (by simp) fun g1 hz1 hs1 => ?_)
  replace hz1 : IsZip g1 z TI TO .ellipsis := hz1
  refine wpAny_bind ?_
  simp only [List.zipIdx_cons, List.zipIdx_nil, List.forIn_cons, List.forIn_nil]
  refine wpAny_bind (wpAny_bind (wpAny_onRaise ?_))
  show wpAny _ _ (Builtin.SmallTypes.nextOf (.ref i1) >>= _) _ _ _
  refine wpAny_bind (next_end hh (h1.at fun o e => hs1.extBut _ o D.i1z e) (hl1.at fun o e => hs1.extBut _ o D.l1z e) hend fun g2 e hs2 he => ?_)
  obtain ⟨oe, hoe, hce⟩ := he
  have hz2 : IsZip g2 z TI TO .ellipsis := hs2 _ _ D.i1z.symm hz1
  have hez : e ≠ z := fun x => by subst x; rw [hz2] at hoe; cases hoe; simp at hce
  exact wpAny_setField_rec hz2 (by simp) fun g3 _ hs3 => fin g3 e (fun c o c1 c3 x => hs3.extBut _ _ c1 (hs2 _ _ c3 (hs1.extBut _ _ c1 x))) ⟨oe, hs3.extBut _ _ hez hoe, hce⟩
abbrev yH1 (t1 : Bool) (h : Heap) (l1 : Addr) : Heap := h.push { cls := .type (itc t1), data := .fields #[.ref l1, .int 0 0] }
abbrev yH4 (t1 t2 t3 : Bool) (h : Heap) (l1 l2 l3 : Addr) : Heap := (yH1 t3 (yH1 t2 (yH1 t1 h l1) l2) l3).push { cls := .type "tuple", data := .seq #[.ref h.objs.size, .ref (yH1 t1 h l1).objs.size, .ref (yH1 t2 (yH1 t1 h l1) l2).objs.size] }
abbrev yH5 (t1 t2 t3 : Bool) (h : Heap) (l1 l2 l3 : Addr) : Heap := (yH4 t1 t2 t3 h l1 l2 l3).push { cls := .type "tuple", data := .seq #[.none, .none, .none] }
abbrev yH6 (t1 t2 t3 : Bool) (h : Heap) (l1 l2 l3 : Addr) : Heap := (yH5 t1 t2 t3 h l1 l2 l3).push { cls := .type "zip", data := .fields #[.none, .bool false, .bool false, .ref (yH1 t3 (yH1 t2 (yH1 t1 h l1) l2) l3).objs.size, .ref (yH4 t1 t2 t3 h l1 l2 l3).objs.size] }
theorem meets_zip3 (t1 t2 t3 : Bool) (l1 l2 l3 : Addr) (xs ys zs : Array Value) :
    Meets (Builtin.«zip.__new__» ⟨[.type "zip", .ref l1, .ref l2, .ref l3], []⟩) (fun _ R s => SeqObj s.heap t1 l1 xs ∧ SeqObj s.heap t2 l2 ys ∧ SeqObj s.heap t3 l3 zs ∧
      R (.ok (.ret (.ref (yH5 t1 t2 t3 s.heap l1 l2 l3).objs.size))) { s with heap := yH6 t1 t2 t3 s.heap l1 l2 l3 }) :=
  .of_wp fun prog w A R s h => by
    obtain ⟨hp, g, d, tk, os⟩ := s; obtain ⟨hl1, hl2, hl3, h⟩ := h
    have hsub := sub_zip
    have hL1 : SeqObj (Shared.heap ⟨hp, g, d, tk, os⟩) t1 l1 xs := hl1
    have hL2 : SeqObj (Shared.heap ⟨hp.push { cls := .type (itc t1), data := .fields #[.ref l1, .int 0 0] }, g, d, tk, os⟩) t2 l2 ys := hl2.at fun o e => Heap.get?_push_of_some _ e
    have hL3 : SeqObj (Shared.heap ⟨(hp.push { cls := .type (itc t1), data := .fields #[.ref l1, .int 0 0] }).push { cls := .type (itc t2), data := .fields #[.ref l2, .int 0 0] }, g, d, tk, os⟩) t3 l3 zs := hl3.at fun o e => Heap.get?_push_of_some _ (Heap.get?_push_of_some _ e)
    wp_walk using iter_seq hL1, iter_seq hL2, iter_seq hL3
    exact ⟨_, rfl, h⟩
theorem call_zip3 {t1 t2 t3 : Bool} {l1 l2 l3 : Addr} {xs ys zs : Array Value} {Q : Value → Shared → Prop} (hl1 : SeqObj s.heap t1 l1 xs) (hl2 : SeqObj s.heap t2 l2 ys) (hl3 : SeqObj s.heap t3 l3 zs)
    (h : ∀ h', IsZip h' (s.heap.objs.size + 5) (s.heap.objs.size + 3) (s.heap.objs.size + 4) .none → IsTrip h' (s.heap.objs.size + 3) (.ref s.heap.objs.size) (.ref (s.heap.objs.size + 1)) (.ref (s.heap.objs.size + 2)) →
      IsTrip h' (s.heap.objs.size + 4) .none .none .none → SeqIter h' t1 s.heap.objs.size l1 0 → SeqIter h' t2 (s.heap.objs.size + 1) l2 0 → SeqIter h' t3 (s.heap.objs.size + 2) l3 0 →
      (∀ c o, s.heap.get? c = some o → h'.get? c = some o) → Q (.ref (s.heap.objs.size + 5)) { s with heap := h' }) :
    wpAny (model prog w) A (call (.type "zip") [.ref l1, .ref l2, .ref l3]) Q E s := by
  refine callType_new F.called_zip (by decide) (typeCall_zip_3 _ _ _) (newCall_zip_3 _ _ _) (fun obj => args_obj_init_4 obj _ _ _) F.entry_zip_new (meets_zip3 t1 t2 t3 l1 l2 l3 xs ys zs) ⟨hl1, hl2, hl3, ?_⟩
  have z1 : (yH1 t1 s.heap l1).objs.size = s.heap.objs.size + 1 := Heap.size_push ..
  have z2 : (yH1 t2 (yH1 t1 s.heap l1) l2).objs.size = s.heap.objs.size + 2 := by rw [Heap.size_push, z1]
  have z3 : (yH1 t3 (yH1 t2 (yH1 t1 s.heap l1) l2) l3).objs.size = s.heap.objs.size + 3 := by rw [Heap.size_push, z2]
  have z4 : (yH4 t1 t2 t3 s.heap l1 l2 l3).objs.size = s.heap.objs.size + 4 := by rw [Heap.size_push, z3]
  have z5 : (yH5 t1 t2 t3 s.heap l1 l2 l3).objs.size = s.heap.objs.size + 5 := by rw [Heap.size_push, z4]
  have g6 : (yH6 t1 t2 t3 s.heap l1 l2 l3).get? (yH5 t1 t2 t3 s.heap l1 l2 l3).objs.size = some _ := Heap.get?_push_size _ rfl
  have g5 : (yH6 t1 t2 t3 s.heap l1 l2 l3).get? (yH4 t1 t2 t3 s.heap l1 l2 l3).objs.size = some _ := Heap.get?_push_of_some _ (Heap.get?_push_size _ rfl)
  have g4 : (yH6 t1 t2 t3 s.heap l1 l2 l3).get? (yH1 t3 (yH1 t2 (yH1 t1 s.heap l1) l2) l3).objs.size = some _ := Heap.get?_push_of_some _ (Heap.get?_push_of_some _ (Heap.get?_push_size _ rfl))
  have g3 : (yH6 t1 t2 t3 s.heap l1 l2 l3).get? (yH1 t2 (yH1 t1 s.heap l1) l2).objs.size = some _ := Heap.get?_push_of_some _ (Heap.get?_push_of_some _ (Heap.get?_push_of_some _ (Heap.get?_push_size _ rfl)))
  have g2 : (yH6 t1 t2 t3 s.heap l1 l2 l3).get? (yH1 t1 s.heap l1).objs.size = some _ := Heap.get?_push_of_some _ (Heap.get?_push_of_some _ (Heap.get?_push_of_some _ (Heap.get?_push_of_some _ (Heap.get?_push_size _ rfl))))
  have g1 : (yH6 t1 t2 t3 s.heap l1 l2 l3).get? s.heap.objs.size = some _ := Heap.get?_push_of_some _ (Heap.get?_push_of_some _ (Heap.get?_push_of_some _ (Heap.get?_push_of_some _ (Heap.get?_push_of_some _ (Heap.get?_push_size _ rfl)))))
  show _ ∧ _
  rw [z3, z4, z5] at g6
  rw [z1, z2, z3] at g4
  rw [z4] at g5
  rw [z2] at g3
  rw [z1] at g2
  rw [z5]
  exact ⟨⟨_, g6, rfl⟩, h _ g6 g4 g5 (seqIter_new g1) (seqIter_new g2) (seqIter_new g3) fun c o x =>
    Heap.get?_push_of_some _ (Heap.get?_push_of_some _ (Heap.get?_push_of_some _ (Heap.get?_push_of_some _ (Heap.get?_push_of_some _ (Heap.get?_push_of_some _ x)))))⟩
end
def Itz3 (K : PySem.W.Frag) (t1 t2 t3 : Bool) (l1 l2 l3 : Addr) : It :=
  ⟨fun i H => ∃ xs ys zs x y z, SqB K t1 H l1 xs ∧ SqB K t2 H l2 ys ∧ SqB K t3 H l3 zs ∧ xs[i]? = some x ∧ ys[i]? = some y ∧ zs[i]? = some z,
   fun i H v H' => ∃ (p : Addr) (x y z : V), H p = none ∧ v = .ref p ∧ H' = upd H p (.tup [x, y, z]) ∧ (∀ xs, SqB K t1 H l1 xs → xs[i]? = some x) ∧ (∀ ys, SqB K t2 H l2 ys → ys[i]? = some y) ∧ ∀ zs, SqB K t3 H l3 zs → zs[i]? = some z,
   fun i H => ∃ xs, SqB K t1 H l1 xs ∧ xs.length ≤ i⟩
theorem turn_zip3 {P : Program} {w : World} {K : PySem.W.Frag} {elts : List Expr} {x1} {pos : Pos} {t1 t2 t3 : Bool} (z TI TO i1 i2 i3 l1 l2 l3 : Addr) (D : Ap3 z TI TO i1 i2 i3 l1 l2 l3) :
    Turn P w K (.Tuple elts x1 pos) (Itz3 K t1 t2 t3 l1 l2 l3) [z, TI, TO, i1, i2, i3] z (fun i h => IsZip h z TI TO .none ∧ IsTrip h TI (.ref i1) (.ref i2) (.ref i3) ∧ (∃ a b c, IsTrip h TO a b c) ∧ SeqIter h t1 i1 l1 i ∧ SeqIter h t2 i2 l2 i ∧ SeqIter h t3 i3 l3 i) where
  mem := by simp
  obj := by
    rintro i h ⟨h1, h2, ⟨a, b, c, h3⟩, h4, h5, h6⟩ d hd
    simp only [List.mem_cons, List.not_mem_nil, or_false] at hd
    rcases hd with rfl | rfl | rfl | rfl | rfl | rfl
    · exact ⟨_, h1, fun v e => by cases e⟩
    · exact ⟨_, h2, fun v e => by cases e⟩
    · exact ⟨_, h3, fun v e => by cases e⟩
    · exact h4.obj
    · exact h5.obj
    · exact h6.obj
  keep := by
    rintro i h h' ⟨h1, h2, ⟨a, b, c, h3⟩, h4, h5, h6⟩ k
    exact ⟨k z (by simp) _ h1, k TI (by simp) _ h2, ⟨a, b, c, k TO (by simp) _ h3⟩, h4.at fun o e => k i1 (by simp) o e, h5.at fun o e => k i2 (by simp) o e, h6.at fun o e => k i3 (by simp) o e⟩
  item := by
    intro X hP hw hK hc i pins s σ H E I hf st hg
    subst hP hw hK
    obtain ⟨h1, h2, ⟨a, b, c, h3⟩, h4, h5, h6⟩ := st
    obtain ⟨xs, ys, zs, x, y, v, q1, q2, q3, e1, e2, e3⟩ := hg
    obtain ⟨its1, rv1, o1, z1⟩ := I.seqB q1
    obtain ⟨its2, rv2, o2, z2⟩ := I.seqB q2
    obtain ⟨its3, rv3, o3, z3⟩ := I.seqB q3
    obtain ⟨u1, hu1, ru1⟩ := rv1.get e1
    obtain ⟨u2, hu2, ru2⟩ := rv2.get e2
    obtain ⟨u3, hu3, ru3⟩ := rv3.get e3
    refine zip3_item D h1 h2 h3 h4 h5 h6 o1 o2 o3 (x := u1) (y := u2) (v := u3) (by simpa using hu1) (by simpa using hu2) (by simpa using hu3) fun h' hz' hTO' n1 n2 n3 hp' hsz' hk' => ⟨_, rfl, ?_⟩
    refine wpAny_letOwnedTupleGo_zip hz' fun h'' hz'' hs'' => ?_
    have hn := I.hok.fresh (Nat.le_refl s.heap.objs.size)
    obtain ⟨oi1, goi1, _⟩ := h4.obj
    obtain ⟨oi2, goi2, _⟩ := h5.obj
    obtain ⟨oi3, goi3, _⟩ := h6.obj
    have lall : ∀ b ∈ [z, TI, TO, i1, i2, i3], b ≠ s.heap.objs.size := fun b hb => by
      simp only [List.mem_cons, List.not_mem_nil, or_false] at hb
      rcases hb with rfl | rfl | rfl | rfl | rfl | rfl
      · exact Nat.ne_of_lt (Heap.lt_size h1)
      · exact Nat.ne_of_lt (Heap.lt_size h2)
      · exact Nat.ne_of_lt (Heap.lt_size h3)
      · exact Nat.ne_of_lt (Heap.lt_size goi1)
      · exact Nat.ne_of_lt (Heap.lt_size goi2)
      · exact Nat.ne_of_lt (Heap.lt_size goi3)
    have up : ∀ c o, c ≠ z → h'.get? c = some o → h''.get? c = some o := fun c o hc e => hs''.extBut _ _ hc e
    have I1 : Inv X pins σ (upd H s.heap.objs.size (.tup [x, y, v])) { s with heap := s.heap.push { cls := .type "tuple", data := .seq #[u1, u2, u3] } } :=
      I.laid (t' := s.toks) (fun b u e => Heap.get?_push_of_some _ e) (Nat.le_refl _) ⟨by show 3 ≤ sizeLine; decide, [u1, u2, u3], .cons ru1 (.cons ru2 (.cons ru3 .nil)), ⟨⟨_, Heap.get?_push_size _ rfl, rfl, _, rfl⟩, _, Heap.get?_push_size _ rfl, rfl⟩⟩
    have hf' : ∀ b ∈ [z, TI, TO, i1, i2, i3], FpOk X pins (upd H s.heap.objs.size (.tup [x, y, v])) b := fun b hb => by
      obtain ⟨f0, r⟩ := hf b hb
      exact ⟨by rw [upd_ne (lall b hb)]; exact f0, r⟩
    have I2 : Inv X pins σ (upd H s.heap.objs.size (.tup [x, y, v])) { s with heap := h'' } := by
      refine I1.turnedL (h' := h'') (t' := s.toks) (fun b o hb e => ?_) hf'
      simp only [List.mem_cons, List.not_mem_nil, or_false, not_or] at hb
      obtain ⟨b1, b2, b3, b4, b5, b6⟩ := hb
      rcases Heap.get?_push_cases e with ⟨rfl, rfl⟩ | e'
      · exact up _ _ b1 hp'
      · exact up _ _ b1 (hk' b o b1 b3 b4 b5 b6 e')
    refine ⟨.ref s.heap.objs.size, upd H s.heap.objs.size (.tup [x, y, v]), I2, rfl, ⟨_, x, y, v, hn, rfl, rfl, fun zs hz => by rw [I.seqB_inj hz q1]; exact e1, fun zs hz => by rw [I.seqB_inj hz q2]; exact e2, fun zs hz => by rw [I.seqB_inj hz q3]; exact e3⟩, ?_, fun b hb => (hf' b hb).1⟩
    exact ⟨hz'', up _ _ D.TIz (hk' TI _ D.TIz D.TITO D.TIi1 D.TIi2 D.TIi3 h2), ⟨_, _, _, up _ _ D.TOz hTO'⟩, n1.at fun o e => up _ _ D.i1z e, n2.at fun o e => up _ _ D.i2z e, n3.at fun o e => up _ _ D.i3z e⟩
  done := by
    intro X hP hw hK hc i pins s σ H E I hf st hg
    subst hP hw hK
    obtain ⟨h1, h2, ⟨a, b, c, h3⟩, h4, h5, h6⟩ := st
    obtain ⟨xs, q1, hend⟩ := hg
    obtain ⟨its1, rv1, o1, z1⟩ := I.seqB q1
    have g1 := rv1.length
    refine zip3_end (I.ok.hd hc) D h1 h2 h3 h4 o1 (by simp; omega) fun h' k => ⟨rfl, I.turnedL (t' := s.toks) (fun b o hb e => ?_) hf⟩
    simp only [List.mem_cons, List.not_mem_nil, or_false, not_or] at hb
    exact k b o hb.1 hb.2.2.2.1 e
  self := fun _ _ _ _ _ st h => wpAny_pyIter_zip st.1 h
def iZip3 (K : PySem.W.Frag) (t1 t2 t3 : Bool) (ta : TA) : TI := fun σ H R => ta σ H fun vs H1 => ∃ l1 l2 l3, vs = [.ref l1, .ref l2, .ref l3] ∧ (∃ xs, SqB K t1 H1 l1 xs) ∧ (∃ ys, SqB K t2 H1 l2 ys) ∧ (∃ zs, SqB K t3 H1 l3 zs) ∧ R (Itz3 K t1 t2 t3 l1 l2 l3) H1
theorem ap3_of {n l1 l2 l3 : Nat} (h1 : l1 < n) (h2 : l2 < n) (h3 : l3 < n) : Ap3 (n + 5) (n + 3) (n + 4) n (n + 1) (n + 2) l1 l2 l3 := by
  constructor <;> (intro z; refine absurd (show @Eq Nat _ _ from z) ?_; omega)
theorem pi_zip3 {X : Cx} {elts : List Expr} {x1} {pos' : Pos} {a b c : Expr} {ta : TA} {p pos : Pos} {t1 t2 t3 : Bool} (hg : Gl X "zip") (hm : X.mg "zip" = none) (hboot : bootBuiltins "zip" = some (.type "zip")) (ha : PA X [a, b, c] ta) (hs : starEach [a, b, c] X.env = [(false, eval a X.env), (false, eval b X.env), (false, eval c X.env)] := by rfl) (hs2 : starEach [b, c] X.env = [(false, eval b X.env), (false, eval c X.env)] := by rfl) :
    PI X (.Tuple elts x1 pos') (.Call (.Name "zip" p) [a, b, c] [] pos) (iZip3 X.K t1 t2 t3 ta) := by
  intro pins s σ H R I h
  refine Call_ (ld_blt I hg hm hboot (PyProof.Rows.callWith_type1 (thn (ha pos pins s σ H _ I h) fun us s1 ⟨vs, H1, I1, r1, q1⟩ => ?_) (by rw [hs, hs2]) (by rw [hs2]; rfl)))
  obtain ⟨l1, l2, l3, e, ⟨xs, q2⟩, ⟨ys, q3⟩, ⟨zs, q4⟩, q⟩ := q1
  subst e
  cases r1 with
  | cons ru1 r1 =>
    cases r1 with
    | cons ru2 r1 =>
      cases r1 with
      | cons ru3 r1 =>
        cases r1
        cases ru1
        cases ru2
        cases ru3
        obtain ⟨its1, rv1, o1, z1⟩ := I1.seqB q2
        obtain ⟨its2, rv2, o2, z2⟩ := I1.seqB q3
        obtain ⟨its3, rv3, o3, z3⟩ := I1.seqB q4
        obtain ⟨ob1, e1⟩ := o1.obj
        obtain ⟨ob2, e2⟩ := o2.obj
        obtain ⟨ob3, e3⟩ := o3.obj
        refine call_zip3 o1 o2 o3 fun h' hz hTI hTO n1 n2 n3 hk => wpAny_pyIter_zip hz ?_
        refine ⟨_, [s1.heap.objs.size + 5, s1.heap.objs.size + 3, s1.heap.objs.size + 4, s1.heap.objs.size, s1.heap.objs.size + 1, s1.heap.objs.size + 2], _, _, H1, rfl, I1.kept (t' := s1.toks) hk, turn_zip3 _ _ _ _ _ _ l1 l2 l3 (ap3_of (Heap.lt_size e1) (Heap.lt_size e2) (Heap.lt_size e3)), ⟨hz, hTI, ⟨_, _, _, hTO⟩, n1, n2, n3⟩, fun c hc => ?_, q⟩
        have hc' : s1.heap.objs.size ≤ c := by
          simp only [List.mem_cons, List.not_mem_nil, or_false] at hc
          rcases hc with rfl | rfl | rfl | rfl | rfl | rfl <;> first | exact Nat.le_add_right _ _ | exact Nat.le_refl _
        exact I1.fpOk hc' (I1.hok.fresh hc')
end L2
namespace PySem
open Sem (wp)
section
variable {prog : Program} {w : World} {K : Type} [DecidableEq K] {knd : KeyKind prog w K} {A : Around} {E : Value → Shared → Prop} {s : Shared}
theorem Pairs.at_ {es : List DictEntry} {kvs : List (K × Value)} (h : Pairs knd es kvs) : ∀ {i : Nat} {e : DictEntry}, es[i]? = some e → ∃ kv, kvs[i]? = some kv ∧ knd.is kv.1 e.key = true ∧ e.val = kv.2 := by
  induction h with
  | nil => intro i e h; simp at h
  | cons h1 h2 _ ih =>
    intro i e he
    cases i with
    | zero => simp at he; subst he; exact ⟨_, rfl, h1, h2⟩
    | succ i => simpa using ih (by simpa using he)
theorem findIdx_key {kvs : List (K × Value)} : ∀ {i : Nat} {kv : K × Value}, (kvs.map (·.1)).Nodup → kvs[i]? = some kv → (kvs.findIdx? fun p => decide (p.1 = kv.1)) = some i := by
  induction kvs with
  | nil => intro i kv _ h; simp at h
  | cons p r ih =>
    intro i kv hn h
    have hn' := List.nodup_cons.mp hn
    cases i with
    | zero => simp at h; subst h; simp [List.findIdx?_cons]
    | succ i =>
      have h : r[i]? = some kv := by simpa using h
      have ne : ¬ p.1 = kv.1 := fun z => hn'.1 (List.mem_map.mpr ⟨kv, List.mem_of_getElem? h, z.symm⟩)
      rw [List.findIdx?_cons, decide_eq_false ne, ih hn'.2 h]
      rfl
theorem same_pairs {nm : String} {a b : Addr} {kvs kvs' : List (K × Value)} {Q : Bool → Shared → Prop} (hsa : (a == sysModules) = false) (hsb : (b == sysModules) = false) (ha : s.heap.DictOf knd a kvs) (hb : s.heap.DictOf knd b kvs') (hk : kvs.map (·.1) = kvs'.map (·.1))
    (hv : ∀ (i : Nat) (p p' : K × Value), kvs[i]? = some p → kvs'[i]? = some p' → ∀ Q' : Bool → Shared → Prop, Q' true s → wpAny (model prog w) A (eqBool p.2 p'.2) Q' E s) (hQ : Q true s) : wpAny (model prog w) A (Builtin.Dict.samePairs nm a b) Q E s := by
  obtain ⟨oa, ea, epa, hoa, hca, hda, hka, hpa, hna⟩ := ha
  obtain ⟨ob, eb, epb, hob, hcb, hdb, hkb, hpb, hnb⟩ := hb
  have la : ea.size = kvs.length := by rw [← hpa.length]; simp
  have lb : eb.size = kvs'.length := by rw [← hpb.length]; simp
  have lk : kvs.length = kvs'.length := by have := congrArg List.length hk; simpa using this
  unfold Builtin.Dict.samePairs Builtin.Dict.showsAll
  rw [if_neg (by rw [hsa]; exact Bool.false_ne_true), if_neg (by rw [hsb]; exact Bool.false_ne_true)]
  refine wpAny_bind (wpAny_pure (wpAny_bind (wpAny_pure ?_)))
  refine wpAny_bind (wpAny_dictEntries hoa hda ?_)
  refine wpAny_bind (wpAny_dictEntries hob hdb ?_)
  rw [if_neg (by simp; omega)]
  refine wpAny_bind (wpAny_dictEpoch hoa hda ?_)
  refine wpAny_bind ?_
  rw [Std.Legacy.Range.forIn_eq_forIn_range']
  simp only [Std.Legacy.Range.size, Nat.sub_zero, Nat.add_sub_cancel, Nat.div_one]
  refine wpAny_forIn_list _ (fun rest st s' => ∃ i, st = (none, ()) ∧ s' = s ∧ rest = List.range' i (ea.size - i) ∧ i ≤ ea.size) _ ?_ ?_ _ _ ⟨0, rfl, rfl, by simp, Nat.zero_le _⟩
  · rintro x rest st s' ⟨i, rfl, rfl, hr, hi⟩
    have hlt : i < ea.size := by
      rcases Nat.lt_or_ge i ea.size with h | h
      · exact h
      · rw [Nat.sub_eq_zero_of_le h] at hr; simp at hr
    obtain ⟨rfl, hrest⟩ : x = i ∧ rest = List.range' (i + 1) (ea.size - (i + 1)) := by
      have e : ea.size - i = (ea.size - (i + 1)) + 1 := by omega
      rw [e, List.range'_succ] at hr
      injection hr with h1 h2
      exact ⟨h1, h2⟩
    refine wpAny_bind (wpAny_dictEntries hoa hda ?_)
    have hx : ea[x]? = some ea[x] := Array.getElem?_eq_getElem hlt
    rw [hx]
    obtain ⟨kv, hkv, his, hval⟩ := hpa.at_ (i := x) (e := ea[x]) (by simpa using hx)
    obtain ⟨kv', hkv'⟩ : ∃ kv', kvs'[x]? = some kv' := ⟨kvs'[x]'(by omega), by simp⟩
    have ek : kv.1 = kv'.1 := by
      have h1 : (kvs.map (·.1))[x]? = some kv.1 := by rw [List.getElem?_map, hkv]; rfl
      have h2 : (kvs'.map (·.1))[x]? = some kv'.1 := by rw [List.getElem?_map, hkv']; rfl
      rw [hk, h2] at h1
      exact (Option.some.inj h1).symm
    obtain ⟨k0, hk0, hh0⟩ := hka ea[x] (Array.getElem_mem hlt)
    have e0 : k0 = kv.1 := by
      have := KeyKind.is_eq_decide his k0
      rw [hk0] at this
      exact of_decide_eq_true this.symm
    refine wpAny_bind (wpAny_holding ?_)
    rw [hh0, e0]
    refine wpAny_bind (wpAny_dictFind_of his hob hdb hkb ?_)
    have hidx : (eb.findIdx? fun e => knd.is kv.1 e.key) = some x := by
      have h1 := hpb.findIdx kv.1
      rw [ek, findIdx_key hnb hkv'] at h1
      rw [ek, ← h1]
      obtain ⟨l⟩ := eb
      simp
    rw [hidx]
    refine wpAny_bind (wpAny_dictEntries hob hdb ?_)
    have hlt2 : x < eb.size := by omega
    have hx2 : eb[x]? = some eb[x] := Array.getElem?_eq_getElem hlt2
    rw [hx2]
    obtain ⟨kv2, hkv2, _, hval2⟩ := hpb.at_ (i := x) (e := eb[x]) (by simpa using hx2)
    rw [hkv'] at hkv2
    cases hkv2
    refine wpAny_holding ?_
    rw [hval, hval2]
    refine hv x kv kv' hkv hkv' _ ?_
    rw [if_neg (by decide)]
    refine wpAny_bind (wpAny_dictEpoch hoa hda ?_)
    rw [if_neg (by simp)]
    exact wpAny_pure ⟨x + 1, rfl, rfl, hrest, hlt⟩
  · rintro st s' ⟨i, rfl, rfl, hr, hi⟩
    exact wpAny_pure hQ
theorem dict_eq_call {op : CmpOp} {a b : Addr} {kvs kvs' : List (K × Value)} {Q : Value → Shared → Prop} (hop : op = .Eq ∨ op = .NotEq) (hsa : (a == sysModules) = false) (hsb : (b == sysModules) = false) (ha : s.heap.DictOf knd a kvs) (hb : s.heap.DictOf knd b kvs') (hk : kvs.map (·.1) = kvs'.map (·.1))
    (hv : ∀ (A' : Around) (E' : Value → Shared → Prop) (i : Nat) (p p' : K × Value), kvs[i]? = some p → kvs'[i]? = some p' → ∀ Q' : Bool → Shared → Prop, Q' true s → wpAny (model prog w) A' (eqBool p.2 p'.2) Q' E' s) (hu : A.units < cLine) (hQ : Q (.bool (op == .Eq)) s) : wpAny (model prog w) A (richCompare op (.ref a) (.ref b)) Q E s := by
  rcases hop with rfl | rfl
  · refine wpAny_richCompare_same_room ha.typeIs hb.typeIs F.slot_dict_eq (wpAny_call_entry F.slot_dict_eq ha.typeIs F.entry_dict_eq ?_ (F.args_dict_eq_2 _ _)) hu
    show wpAny _ _ (Builtin.Dict.dictSlotArgs "__eq__" ⟨[.ref a, .ref b], []⟩ >>= _) _ _ _
    unfold Builtin.Dict.dictSlotArgs
    refine wpAny_bind (wpAny_bind (wpAny_notOrdered_dict ha.typeIs (wpAny_pure ?_)))
    refine wpAny_bind (wpAny_isInstance hb.typeIs isSubtype_dict_dict ?_)
    show wpAny _ _ (Builtin.Dict.samePairs _ a b >>= _) _ _ _
    exact wpAny_bind (same_pairs hsa hsb ha hb hk (hv _ _) (wpAny_pure ⟨_, rfl, (fun z => nomatch z), hQ⟩))
  · refine wpAny_richCompare_same_room ha.typeIs hb.typeIs F.slot_dict_ne (wpAny_call_entry F.slot_dict_ne ha.typeIs F.entry_dict_ne ?_ (F.args_dict_ne_2 _ _)) hu
    show wpAny _ _ (Builtin.Dict.dictSlotArgs "__ne__" ⟨[.ref a, .ref b], []⟩ >>= _) _ _ _
    unfold Builtin.Dict.dictSlotArgs
    refine wpAny_bind (wpAny_bind (wpAny_notOrdered_dict ha.typeIs (wpAny_pure ?_)))
    refine wpAny_bind (wpAny_isInstance hb.typeIs isSubtype_dict_dict ?_)
    show wpAny _ _ (Builtin.Dict.samePairs _ a b >>= _) _ _ _
    exact wpAny_bind (same_pairs hsa hsb ha hb hk (hv _ _) (wpAny_pure ⟨_, rfl, (fun z => nomatch z), hQ⟩))
end
theorem rv_mro : mroOf (.type "reversed") = pure [.type "reversed", .type "object"] := by rw [mroOf_type]; kernel_rfl
theorem rv_new : typeLookup (.type "reversed") "__new__" = pure (some (.builtin "reversed.__new__")) := by rw [typeLookup_type, builtinLookup_eq_fast]; kernel_rfl
theorem rv_slot_init : Slot "reversed" "__init__" "object.__init__" :=
  .of (owner := "object") (n := "__init__") (by rw [typeLookup_type, builtinLookup_eq_fast]; kernel_rfl) (by decide +kernel) (by decide +kernel) (by decide +kernel) (by first | exact .inl (by decide +kernel) | exact .inr (by decide +kernel)) (by rw [isSubtype_type]; kernel_rfl)
theorem rv_sub : isSubtype (.type "reversed") (.type "reversed") = pure true := by rw [isSubtype_type]; kernel_rfl
theorem rv_called : TypeCalled "reversed" "reversed.__new__" "object.__init__" :=
  ⟨by decide +kernel, by decide +kernel, ⟨_, _, rv_mro⟩, madeBy_type rv_mro rv_new (by decide +kernel), by decide +kernel, by rw [isSubtype_type]; kernel_rfl, rv_slot_init⟩
theorem rv_typeCall (a : Value) : checkTypeCall "reversed" ⟨[a], []⟩ = pure () := by kernel_rfl
theorem rv_newCall (a : Value) : checkBuiltinCall "reversed.__new__" ⟨[.type "reversed", a], []⟩ = pure () := by kernel_rfl
theorem rv_entry_new : entryFor table "reversed.__new__" = some Builtin.«reversed.__new__» := entryFor_of_tree (by kernel_rfl)
theorem rv_owner : Manifest.owners.lookup (String.ofList ['d', 'e', 's', 'r', 'e', 'v', 'e', 'r'].reverse) = some Manifest.sig_reversed := by kernel_rfl
theorem rv_slot_next : Slot "reversed" "__next__" "reversed.__next__" :=
  .of (owner := "reversed") (n := "__next__") (by rw [typeLookup_type, builtinLookup_eq_fast]; kernel_rfl) (by decide +kernel) (by decide +kernel) (by decide +kernel) (by first | exact .inl (by decide +kernel) | exact .inr (by decide +kernel)) (by rw [isSubtype_type]; kernel_rfl)
theorem rv_entry_next : entryFor table "reversed.__next__" = some Builtin.«reversed.__next__» := entryFor_of_tree (by kernel_rfl)
theorem rv_args_next (a : Value) : argsOk "reversed.__next__" ⟨[a], []⟩ := by
  unfold argsOk
  rw [signature?_of (id := "reversed.__next__") (n := ['_', '_', 't', 'x', 'e', 'n', '_', '_']) (o := ['d', 'e', 's', 'r', 'e', 'v', 'e', 'r']) (by kernel_rfl) rv_owner]
  kernel_rfl
theorem rv_slot_iter : Slot "reversed" "__iter__" "reversed.__iter__" :=
  .of (owner := "reversed") (n := "__iter__") (by rw [typeLookup_type, builtinLookup_eq_fast]; kernel_rfl) (by decide +kernel) (by decide +kernel) (by decide +kernel) (by first | exact .inl (by decide +kernel) | exact .inr (by decide +kernel)) (by rw [isSubtype_type]; kernel_rfl)
theorem rv_args_iter (a : Value) : argsOk "reversed.__iter__" ⟨[a], []⟩ := by
  unfold argsOk
  rw [signature?_of (id := "reversed.__iter__") (n := ['_', '_', 'r', 'e', 't', 'i', '_', '_']) (o := ['d', 'e', 's', 'r', 'e', 'v', 'e', 'r']) (by kernel_rfl) rv_owner]
  kernel_rfl
theorem rv_entry_iter : entryFor table "reversed.__iter__" = some Builtin.«dict_keyiterator.__iter__» :=
  entryFor_alias (id' := "dict_keyiterator.__iter__") (by kernel_rfl) (by first | rfl | decide +kernel | (unfold String.splitOn; simp +decide [String.splitOnAux])) (by decide +kernel) (by kernel_rfl)
theorem rv_slot_hint : Slot "reversed" "__length_hint__" "reversed.__length_hint__" :=
  .of (owner := "reversed") (n := "__length_hint__") (by rw [typeLookup_type, builtinLookup_eq_fast]; kernel_rfl) (by decide +kernel) (by decide +kernel) (by decide +kernel) (by first | exact .inl (by decide +kernel) | exact .inr (by decide +kernel)) (by rw [isSubtype_type]; kernel_rfl)
theorem rv_entry_hint : entryFor table "reversed.__length_hint__" = some Builtin.«reversed.__length_hint__» := entryFor_of_tree (by kernel_rfl)
theorem rv_args_hint (a : Value) : argsOk "reversed.__length_hint__" ⟨[a], []⟩ := by
  unfold argsOk
  rw [signature?_of (id := "reversed.__length_hint__") (n := ['_', '_', 't', 'n', 'i', 'h', '_', 'h', 't', 'g', 'n', 'e', 'l', '_', '_']) (o := ['d', 'e', 's', 'r', 'e', 'v', 'e', 'r']) (by kernel_rfl) rv_owner]
  kernel_rfl
theorem rv_no_len : typeLookup (.type "reversed") "__len__" = pure none := by rw [typeLookup_type, builtinLookup_eq_fast]; kernel_rfl
theorem tup_no_rev : typeLookup (.type "tuple") "__reversed__" = pure none := by rw [typeLookup_type, builtinLookup_eq_fast]; kernel_rfl
theorem tup_not_dict : isSubtype (.type "tuple") (.type "dict") = pure false := by rw [isSubtype_type]; kernel_rfl
section
variable {prog : Program} {w : World} {A : Around} {E : Value → Shared → Prop} {s : Shared}
def rvObj (l : Addr) (i : Int) : Obj := { cls := .type "reversed", data := .fields #[.ref l, rawInt i] }
abbrev IsRv (h : Heap) (a l : Addr) (i : Int) : Prop := h.get? a = some { cls := .type "reversed", dict := none, data := .fields #[.ref l, rawInt i], slots := #[] }
theorem rv_meets (l : Addr) (items : Array Value) (hfit : (items.size : Int) < 2 ^ 63) :
    Meets (Builtin.«reversed.__new__» ⟨[.type "reversed", .ref l], []⟩) (fun _ R s => s.heap.IsTuple l items ∧
      R (.ok (.ret (.ref s.heap.objs.size))) { s with heap := s.heap.push (rvObj l ((items.size : Int) - 1)), toks := s.toks + 1 + 1 }) :=
  .of_wp fun prog w A R s h => by
    obtain ⟨hp, g, d, tk, os⟩ := s; obtain ⟨hl, h⟩ := h
    have hT : (⟨hp, g, d, tk, os⟩ : Shared).TypeIs (.ref l) "tuple" := by obtain ⟨o, ho, hc, _⟩ := id hl; exact ⟨o, ho, hc⟩
    unfold Builtin.«reversed.__new__»
    refine wpAny_bind (wpAny_of_eq (a := (Value.type "reversed", [Value.ref l])) ?_ ?_)
    · unfold Builtin.SmallTypes.newClass
      simp only [isType, rv_sub, pure_bind, Bool.not_true, Bool.false_eq_true, if_false]
    refine wpAny_bind (wpAny_of_eq (a := ()) (by first | rfl | kernel_rfl) ?_)
    refine wpAny_bind (wpAny_of_eq (a := ()) (by first | rfl | kernel_rfl) ?_)
    refine wpAny_bind (wpAny_specialOf hT tup_no_rev ?_)
    refine wpAny_bind ?_
    show wpAny _ _ (isInstance (.ref l) (.type "dict") >>= _) _ _ _
    refine wpAny_bind (wpAny_isInstance hT tup_not_dict ?_)
    show wpAny _ _ (specialOf (.ref l) "__getitem__" >>= _) _ _ _
    refine wpAny_bind (wpAny_specialOf hT F.slot_tuple_getitem.lookup ?_)
    show wpAny _ _ (if (_ : List String).contains "tuple.__getitem__" = true then _ else _) _ _ _
    rw [if_pos (by decide)]
    refine wpAny_pure ?_
    rw [if_neg (by decide)]
    show wpAny _ _ (call (.builtin "len") [.ref l] >>= _) _ _ _
    refine wpAny_bind (PyProof.Rows.len_tuple hl (by omega) ?_)
    refine wpAny_bind (wpAny_of_eq (a := some (items.size : Int)) rfl ?_)
    refine wpAny_bind ?_
    unfold Builtin.SmallTypes.newRecord
    exact wpAny_newObj_type (wpAny_pure ⟨_, rfl, h⟩)
theorem rv_call {l : Addr} {items : Array Value} {Q : Value → Shared → Prop} (hfit : (items.size : Int) < 2 ^ 63) (hl : s.heap.IsTuple l items)
    (h : Q (.ref s.heap.objs.size) { s with heap := s.heap.push (rvObj l ((items.size : Int) - 1)), toks := s.toks + 1 + 1 }) : wpAny (model prog w) A (call (.type "reversed") [.ref l]) Q E s :=
  callType_new rv_called (by decide) (rv_typeCall _) (rv_newCall _) (fun obj => F.args_object_init_2 obj _) rv_entry_new (rv_meets l items hfit) ⟨hl, ⟨_, Heap.get?_push_size _ rfl, rfl⟩, h⟩
theorem rv_item {a l : Addr} {i : Nat} {items : Array Value} {x : Value} {Q : Option Value → Shared → Prop} (hfit : (items.size : Int) < 2 ^ 63) (hr : IsRv s.heap a l (i : Int)) (hl : s.heap.IsTuple l items) (hx : items[i]? = some x)
    (hQ : ∀ h', IsRv h' a l ((i : Int) - 1) → Heap.SameBut a s.heap h' → Q (some x) { s with heap := h', toks := s.toks + 1 }) : wpAny (model prog w) A (pyNext (.ref a)) Q E s := by
  have hT : s.TypeIs (.ref a) "reversed" := ⟨_, hr, rfl⟩
  have hTl : s.TypeIs (.ref l) "tuple" := by obtain ⟨o, ho, hc, _⟩ := id hl; exact ⟨o, ho, hc⟩
  have hlt : i < items.size := (Array.getElem?_eq_some_iff.mp hx).1
  unfold pyNext
  refine wpAny_bind (wpAny_attempt (wpAny_callSpecial?_slot (name := Str.ofString "__next__") hT rv_slot_next (wpAny_call_entry rv_slot_next hT rv_entry_next ?_ (rv_args_next _))))
  show wpAny _ _ (field (.ref a) 0 >>= _) _ _ _
  refine wpAny_bind (wpAny_field hr rfl (x := .ref l) rfl ?_)
  show wpAny _ _ (field (.ref a) 1 >>= _) _ _ _
  refine wpAny_bind (wpAny_field hr rfl (x := rawInt (i : Int)) rfl ?_)
  show wpAny _ _ (if (i : Int) < 0 then _ else _) _ _ s
  rw [if_neg (by omega)]
  show wpAny _ _ (specialOf (.ref l) "__getitem__" >>= _) _ _ _
  refine wpAny_bind (wpAny_specialOf hTl F.slot_tuple_getitem.lookup ?_)
  rw [if_neg (by decide)]
  show wpAny _ _ (mkInt i >>= _) _ _ _
  refine wpAny_bind (wpAny_mkInt ?_)
  refine wpAny_bind (wpAny_attempt (PyProof.Rows.getItem_tuple (j := i) (x := x) hl (by omega) (by omega) ?_ hx ?_))
  · unfold seqIndex?
    simp
    omega
  show wpAny _ _ (field (.ref a) 1 >>= _) _ _ _
  refine wpAny_bind (wpAny_field hr rfl (x := rawInt (i : Int)) rfl ?_)
  show wpAny _ _ (setField (.ref a) 1 (rawInt ((i : Int) - 1)) >>= _) _ _ _
  refine wpAny_bind (wpAny_setField_rec hr (by simp) fun h' hr' hs' => ?_)
  exact wpAny_pure ⟨_, rfl, wpAny_pure (hQ h' hr' hs')⟩
theorem rv_end {a l : Addr} {Q : Option Value → Shared → Prop} (hh : A.handled = none) (hr : IsRv s.heap a l (-1)) (hQ : ∀ h', Heap.ExtBut a s.heap h' → Q none { s with heap := h' }) : wpAny (model prog w) A (pyNext (.ref a)) Q E s := by
  have hT : s.TypeIs (.ref a) "reversed" := ⟨_, hr, rfl⟩
  unfold pyNext
  refine wpAny_bind (wpAny_attempt (wpAny_callSpecial?_slot (name := Str.ofString "__next__") hT rv_slot_next (wpAny_call_entry rv_slot_next hT rv_entry_next ?_ (rv_args_next _))))
  show wpAny _ _ (field (.ref a) 0 >>= _) _ _ _
  refine wpAny_bind (wpAny_field hr rfl (x := .ref l) rfl ?_)
  show wpAny _ _ (field (.ref a) 1 >>= _) _ _ _
  refine wpAny_bind (wpAny_field hr rfl (x := rawInt (-1)) rfl ?_)
  show wpAny _ _ (if (-1 : Int) < 0 then _ else _) _ _ s
  rw [if_pos (by decide)]
  refine wpAny_bind (wpAny_rule ?_)
  refine wpAny_bind ?_
  show wpAny _ _ (setField (.ref a) 1 (rawInt (-1)) >>= _) _ _ _
  refine wpAny_bind (wpAny_setField_rec hr (by simp) fun h1 hr1 hs1 => ?_)
  replace hr1 : IsRv h1 a l (-1) := hr1
  refine wpAny_setField_rec hr1 (by simp) fun h2 hr2 hs2 => ?_
  refine wpAny_bind ?_
  show wpAny _ _ (newExc (.type "StopIteration") [] >>= _) _ _ _
  refine wpAny_bind ?_
  simp only [newExc, newTuple]
  refine wpAny_bind (wpAny_newObj_type ?_ (by size_fits))
  refine wpAny_bind (m := firstArgMember _ _) (wpAny_of_eq (a := Value.none) (by first | rfl | (simp only [firstArgMember]; rfl)) ?_)
  refine wpAny_newObj_type ?_ (by size_fits)
  simp only [raiseNew]
  refine wpAny_bind (wpAny_handled ?_)
  first | rw [show A.in1.handled = none from hh] | rw [hh]
  refine wpAny_bind (wpAny_pure (wpAny_throw ?_))
  refine wpAny_bind (wpAny_isInstance (T := "StopIteration") (b := true) ⟨_, Heap.get?_push_size _ rfl, rfl⟩ isSubtype_stop ?_)
  exact wpAny_pure (hQ _ (fun b o hb e => Heap.get?_push_of_some _ (Heap.get?_push_of_some _ (hs2.extBut b o hb (hs1.extBut b o hb e)))))
theorem rv_iter {a l : Addr} {i : Int} {Q : Value → Shared → Prop} (hr : IsRv s.heap a l i) (h : Q (.ref a) s) : wpAny (model prog w) A (pyIter (.ref a)) Q E s := by
  have hT : s.TypeIs (.ref a) "reversed" := ⟨_, hr, rfl⟩
  refine wpAny_pyIter_slot hT rv_slot_iter (wpAny_call_entry rv_slot_iter hT rv_entry_iter ?_ (rv_args_iter _))
  show wpAny _ _ (ret (.ref a)) _ _ s
  exact wpAny_pure ⟨_, rfl, "reversed", _, hT, rv_slot_next.lookup, h⟩
end
section
variable {prog : Program} {w : World} {A : Around} {E : Value → Shared → Prop} {s : Shared}
theorem rv_hint {I l : Addr} {items : Array Value} {i : Nat} {Q : Bool → Shared → Prop} (hz : items.size ≤ sizeLine) (hfit : (items.size : Int) < 2 ^ 63) (hi : i ≤ items.size) (hr : IsRv s.heap I l ((i : Int) - 1)) (hl : s.heap.IsTuple l items) (hQ : ∀ b tk, s.toks ≤ tk → Q b { s with toks := tk }) :
    wpAny (model prog w) A (Builtin.List.listLengthHint (.ref I)) Q E s := by
  have hT : s.TypeIs (.ref I) "reversed" := ⟨_, hr, rfl⟩
  unfold Builtin.List.listLengthHint
  refine wpAny_bind (wpAny_specialOf hT rv_no_len ?_)
  show wpAny _ _ (specialOf (Value.ref I) (Str.ofString "__length_hint__") >>= _) _ _ _
  refine wpAny_bind (wpAny_specialOf hT rv_slot_hint.lookup ?_)
  generalize hid : ("reversed.__length_hint__" : String) = id0
  wp_delta
  rw [show splitId id0 = some ("reversed", "__length_hint__") from by subst hid; decide +kernel]
  subst hid
  refine wpAny_bind (wpAny_isInstance (b := true) hT rv_sub ?_)
  rw [if_neg (by decide)]
  rw [if_neg (by decide +kernel)]
  show wpAny _ _ (rule "list.length-hint.hint" >>= _) _ _ _
  refine wpAny_bind (wpAny_rule ?_)
  refine wpAny_bind (wpAny_of_eq (rv_slot_hint.bind _) ?_)
  refine wpAny_bind (wpAny_attempt (wpAny_call_entry rv_slot_hint hT rv_entry_hint ?_ (rv_args_hint _)))
  show wpAny _ _ (field (.ref I) 0 >>= _) _ _ _
  refine wpAny_bind (wpAny_field hr rfl (x := .ref l) rfl ?_)
  show wpAny _ _ (call (.builtin "len") [.ref l] >>= _) _ _ _
  refine wpAny_bind (PyProof.Rows.len_tuple hl (by omega) ?_)
  refine wpAny_bind (wpAny_of_eq (a := some (items.size : Int)) rfl ?_)
  show wpAny _ _ (field (.ref I) 1 >>= _) _ _ _
  refine wpAny_bind (wpAny_field hr rfl (x := rawInt ((i : Int) - 1)) rfl ?_)
  show wpAny _ _ (if (items.size : Int) < (i : Int) - 1 + 1 then _ else _) _ _ _
  rw [if_neg (by omega)]
  refine wpAny_bind (wpAny_mkInt (wpAny_pure ⟨_, rfl, ?_⟩))
  show wpAny _ _ (asInt? _ >>= _) _ _ _
  refine wpAny_bind (wpAny_of_eq (a := some ((i : Int) - 1 + 1)) rfl ?_)
  have f1 : Builtin.List.listFitsIndex ((i : Int) - 1 + 1) = true := by unfold Builtin.List.listFitsIndex; simp; omega
  have f2 : ¬ ((i : Int) - 1 + 1) < 0 := by omega
  have f3 : Builtin.List.listTooLong ((i : Int) - 1 + 1).toNat = false := by unfold Builtin.List.listTooLong; simp; omega
  dsimp only
  rw [if_neg (by rw [f1]; decide), if_neg f2, if_neg (by rw [f3]; decide)]
  exact wpAny_pure (hQ _ _ (by show s.toks ≤ s.toks + 1 + 1 + 1; omega))
theorem Walks.rv (hh : A.handled = none) (I l : Addr) (hne : l ≠ I) (items : Array Value) (hfit : (items.size : Int) < 2 ^ 63) :
    Walks prog w A I [I, l] [I] items.size (fun i v => items[items.size - 1 - i]? = some v) (fun i h => i ≤ items.size ∧ IsRv h I l (((items.size - i : Nat) : Int) - 1) ∧ h.IsTuple l items) where
  sub := fun b hb => by simp at hb; simp [hb]
  frame := fun _ _ _ x hk => ⟨x.1, hk I (by simp) _ x.2.1, let ⟨o, ho, r⟩ := x.2.2; ⟨o, hk l (by simp) o ho, r⟩⟩
  item := fun i s Q E hi x hQ => by
    have e : ((items.size - i : Nat) : Int) - 1 = ((items.size - 1 - i : Nat) : Int) := by omega
    have hit := x.2.1
    rw [e] at hit
    have hx : items[items.size - 1 - i]? = some (items[items.size - 1 - i]'(by omega)) := Array.getElem?_eq_getElem (by omega)
    refine rv_item hfit hit x.2.2 hx fun h' hit' hs' => ?_
    have e2 : ((items.size - 1 - i : Nat) : Int) - 1 = ((items.size - (i + 1) : Nat) : Int) - 1 := by omega
    rw [e2] at hit'
    exact hQ _ h' _ hx ⟨hi, hit', let ⟨o, ho, r⟩ := x.2.2; ⟨o, hs'.extBut _ _ hne ho, r⟩⟩ fun b o hb eo => hs'.extBut b o (fun h => hb (by simp [h])) eo
  done := fun s Q E x hQ => by
    have hit := x.2.1
    rw [Nat.sub_self] at hit
    exact rv_end hh hit fun h' he' => hQ h' s.toks fun b o hb eo => he' b o (fun h => hb (by simp [h])) eo
  self := fun _ _ _ _ x hQ => rv_iter x.2.1 hQ
theorem extend_walk {R : Result → Shared → Prop} {I : Addr} {fp wr : List Addr} {n : Nat} {P : Nat → Value → Prop} {St : Nat → Heap → Prop} {ty : String} (W : Walks prog w A.in1 I fp wr n P St) (hT : ∀ i (s : Shared), St i s.heap → s.TypeIs (.ref I) ty)
    (ht1 : (Value.type ty == .type "list" || Value.type ty == .type "tuple") = false) (ht2 : ∀ x ∈ ["set", "frozenset", "dict", "dict_keys", "dict_values", "dict_items"], (Value.type ty == .type x) = false)
    (hint : ∀ (s : Shared) (Q : Bool → Shared → Prop) (E : Value → Shared → Prop), St 0 s.heap → (∀ b tk, s.toks ≤ tk → Q b { s with toks := tk }) → wpAny (model prog w) A.in1 (Builtin.List.listLengthHint (.ref I)) Q E s)
    (S : Addr) (res : Value) (c₀ : Nat) (hst : St 0 s.heap) (hSf : S ∉ fp) (hI : I ∈ fp) (hS : s.heap.get? S = some { cls := .type "list", data := .seq #[] c₀ })
    (hR : ∀ s' acc' c', Moved (S :: wr) (fun g g' => g' = g) s s' → s'.heap.get? S = some { cls := .type "list", dict := none, data := .seq acc' c', slots := #[] } → ItemsOf P acc' n → R (.ok (.ret res)) s') (hn : n ≤ sizeLine) :
    wpAny (model prog w) A.in1 (Builtin.List.listExtendWith (.ref S) (.ref I) res)
      (fun fin s' => match fin with | .done f => R (.ok f) s' | .again c' => c'.quiet = true ∧ codeAny (model prog w) A c' R s') (fun e s' => R (.error e) s') s := by
  have hSI : S ≠ I := fun e => hSf (e ▸ hI)
  have h1 : Builtin.List.listSameRef (.ref S) (.ref I) = false := by simp [Builtin.List.listSameRef, hSI]
  unfold Builtin.List.listExtendWith
  refine wpAny_bind (wpAny_typeOf (hT 0 _ hst) ?_)
  rw [if_neg (by rw [Bool.or_assoc, h1, ht1]; decide)]
  refine wpAny_bind (W.self 0 _ _ _ hst ?_)
  refine wpAny_bind (wpAny_holding (hint _ _ _ hst fun b tk htk => ?_))
  have tail : ∀ (h' : Heap) (tk' : Nat) (c : Nat), s.toks ≤ tk' → (∀ b o, b ≠ S → s.heap.get? b = some o → h'.get? b = some o) → h'.get? S = some { cls := .type "list", dict := none, data := .seq #[] c, slots := #[] } →
      wpAny (model prog w) A.in1 (again (.builtin "list.extend.loop" ⟨[.ref S, .ref I, res], []⟩)) (fun fin s' => match fin with | .done f => R (.ok f) s' | .again c' => c'.quiet = true ∧ codeAny (model prog w) A c' R s') (fun e s' => R (.error e) s') { s with heap := h', toks := tk' } := by
    intro h' tk' c ht hk hS'
    refine wpAny_pure ⟨plainId_quiet F.plain_extend_loop _, codeAny_extend_loopS W.toS hn _ hSf _ n 0 _ _ _ rfl (Nat.zero_le _) (W.frame 0 s.heap _ hst fun b hb o e => hk b o (fun z => hSf (z ▸ hb)) e) hS' (ItemsOf.nil P) fun s' acc' c' hm hS'' hacc => hR s' acc' c' ?_ hS'' hacc⟩
    exact ⟨fun b o hb e => hm.heap b o hb (hk b o (fun z => hb (by rw [z]; exact List.mem_cons_self)) e), hm.gens, hm.drawn, hm.os, Nat.le_trans ht hm.toks⟩
  cases b with
  | false =>
    dsimp only
    rw [if_neg ?_]
    · exact tail _ _ _ htk (fun _ _ _ e => e) hS
    · intro z
      rw [Bool.false_or, List.any_eq_true] at z
      obtain ⟨x, hx, hz⟩ := z
      rw [ht2 x hx] at hz
      cases hz
  | true =>
    dsimp only
    rw [if_pos (by rw [Bool.true_or])]
    refine wpAny_bind (wpAny_rule ?_)
    refine wpAny_bind ?_
    show wpAny _ A.in1 (updateSeq S (·.push .none) >>= fun _ => updateSeq S (·.pop)) _ _ _
    refine wpAny_bind (wpAny_updateSeq hS rfl ?_)
    have hS2 := Heap.get?_update_self (Obj.mapSeq (·.push Value.none)) hS rfl
    refine wpAny_updateSeq (hz := by seq_fits) hS2 rfl ?_
    have hS3 := Heap.get?_update_self (Obj.mapSeq (·.pop)) hS2 rfl
    exact tail _ _ _ htk (fun b o hb e => (Heap.get?_update_other _ _ (Ne.symm hb)).trans ((Heap.get?_update_other _ _ (Ne.symm hb)).trans e)) hS3
theorem call_list_walk {Q : Value → Shared → Prop} {I : Addr} {fp wr : List Addr} {n : Nat} {P : Nat → Value → Prop} {St : Nat → Heap → Prop} {ty : String} (W : Walks prog w A.in1.in1 I fp wr n P St) (hT : ∀ i (s : Shared), St i s.heap → s.TypeIs (.ref I) ty)
    (ht1 : (Value.type ty == .type "list" || Value.type ty == .type "tuple") = false) (ht2 : ∀ x ∈ ["set", "frozenset", "dict", "dict_keys", "dict_values", "dict_items"], (Value.type ty == .type x) = false)
    (hint : ∀ (s : Shared) (Q : Bool → Shared → Prop) (E : Value → Shared → Prop), St 0 s.heap → (∀ b tk, s.toks ≤ tk → Q b { s with toks := tk }) → wpAny (model prog w) A.in1.in1 (Builtin.List.listLengthHint (.ref I)) Q E s)
    (hst : St 0 s.heap) (hfp : ∀ b ∈ fp, b < s.heap.objs.size) (hI : I ∈ fp)
    (hQ : ∀ s' acc' c', Moved (s.heap.objs.size :: wr) (fun g g' => g' = g) { s with heap := s.heap.push { cls := .type "list", data := .seq #[] } } s' →
      s'.heap.get? s.heap.objs.size = some { cls := .type "list", dict := none, data := .seq acc' c', slots := #[] } → ItemsOf P acc' n → Q (.ref s.heap.objs.size) s') (hn : n ≤ sizeLine) :
    wpAny (model prog w) A (call (.type "list") [.ref I]) Q E s := by
  have hSf : s.heap.objs.size ∉ fp := fun hm => Nat.lt_irrefl _ (hfp _ hm)
  refine callType_codes (Q₁ := fun obj s₁ => obj = .ref s.heap.objs.size ∧ s₁ = { s with heap := s.heap.push { cls := .type "list", data := .seq #[] } }) F.called_list (F.typeCall_list_1 _) F.entry_list_init (code_list_new _ ⟨rfl, rfl⟩) fun obj s₁ h₁ => ?_
  obtain ⟨rfl, rfl⟩ := h₁
  have hS : (s.heap.push { cls := .type "list", data := .seq #[] }).get? s.heap.objs.size = some { cls := .type "list", data := .seq #[] } := Heap.get?_push_size _ rfl
  refine ⟨⟨_, hS, rfl⟩, F.args_list_init_2 _ _, ?_⟩
  show wpAny _ _ (do let old ← Builtin.List.listItems (.ref s.heap.objs.size); Builtin.List.listUpdate (.ref s.heap.objs.size) (fun _ => #[]); letGo old.toList.reverse; Builtin.List.listExtendWith (.ref s.heap.objs.size) (.ref I) .none) _ _ _
  refine wpAny_bind ?_
  unfold Builtin.List.listItems
  refine wpAny_bind (wpAny_seqItems hS rfl (wpAny_pure ?_))
  show wpAny _ _ (updateSeq s.heap.objs.size (fun _ => #[]) >>= fun _ => letGo (#[] : Array Value).toList.reverse >>= fun _ => Builtin.List.listExtendWith (.ref s.heap.objs.size) (.ref I) .none) _ _ _
  refine wpAny_bind (wpAny_updateSeq hS rfl ?_)
  have hS2 := Heap.get?_update_self (Obj.mapSeq (fun _ => (#[] : Array Value))) hS rfl
  have oth : ∀ b o, b ≠ s.heap.objs.size → (s.heap.push { cls := .type "list", data := .seq #[] }).get? b = some o → ((s.heap.push { cls := .type "list", data := .seq #[] }).update s.heap.objs.size (Obj.mapSeq (fun _ => (#[] : Array Value)))).get? b = some o :=
    fun b o hb e => (Heap.get?_update_other _ _ (Ne.symm hb)).trans e
  refine wpAny_bind (wpAny_letGo ?_)
  refine extend_walk (hn := hn) W hT ht1 ht2 hint s.heap.objs.size .none _ (W.frame 0 s.heap _ hst fun b hb o e => oth b o (fun z => hSf (z ▸ hb)) (Heap.get?_push_of_some _ e)) hSf hI hS2 fun s' acc' c' hm hS' hacc => ?_
  exact ⟨rfl, hQ s' acc' c' ⟨fun b o hb e => hm.heap b o hb (oth b o (fun z => hb (by rw [z]; exact List.mem_cons_self)) e), hm.gens, hm.drawn, hm.os, hm.toks⟩ hS' hacc⟩
end
end PySem
namespace L2
open PySem PySem.Spec PyProof.Rows
def tListRevT (K : PySem.W.Frag) (te : TE) : TE := fun σ H Q => te σ H fun x H1 => ∃ l ys, x = .ref l ∧ SqT K H1 l ys ∧ ∀ q, H1 q = none → Q (.ref q) (upd H1 q (.lst ys.reverse))
theorem pe_listrevT {X : Cx} {e : Expr} {te : TE} {p1 p2 pos2 pos : Pos} (hc : X.calm = true) (hg1 : Gl X "list") (hm1 : X.mg "list" = none) (hg2 : Gl X "reversed") (hm2 : X.mg "reversed" = none) (he : PE X e te)
    (hs1 : starEach [e] X.env = [(false, eval e X.env)] := by rfl) (hs2 : starEach [.Call (.Name "reversed" p2) [e] [] pos2] X.env = [(false, eval (.Call (.Name "reversed" p2) [e] [] pos2) X.env)] := by rfl) :
    PE X (.Call (.Name "list" p1) [.Call (.Name "reversed" p2) [e] [] pos2] [] pos) (tListRevT X.K te) := by
  intro pins s σ H Q I h
  refine wpAny_Call_Name_kw (ld_blt I hg1 hm1 boot_list ?_)
  refine PyProof.Rows.callWith_type1 ?_ hs2 rfl
  rw [hs2]
  show wpAny _ _ (spliced ((false, eval (.Call (.Name "reversed" p2) [e] [] pos2) X.env) :: backTo pos (starEach [] X.env))) _ _ s
  refine Calls.spliced_cons ?_
  refine wpAny_Call_Name_kw (ld_blt I hg2 hm2 boot_reversed ?_)
  refine PyProof.Rows.callWith_type1 ?_ hs1 rfl
  rw [hs1]
  show wpAny _ _ (spliced ((false, eval e X.env) :: backTo pos2 (starEach [] X.env))) _ _ s
  refine Calls.spliced_cons (thn (he pins s σ H _ I h) fun u s1 ⟨x, H1, I1, r1, l, ys, ex, hl, q⟩ => ?_)
  subst ex
  cases r1
  refine Calls.spliced_nil ?_
  obtain ⟨its, rv, pl, hz⟩ := I1.tuple hl
  have pl : s1.heap.IsTuple l its.toArray := pl
  have hlen := rv.length
  have h63 := line63
  have hfit : (its.toArray.size : Int) < 2 ^ 63 := by rw [List.size_toArray]; omega
  have hlt : l < s1.heap.objs.size := by obtain ⟨_, e, _⟩ := id pl; exact Heap.lt_size e
  refine rv_call hfit pl (Calls.spliced_nil ?_)
  have W := Walks.rv (prog := X.prog) (w := X.w) (A := X.A.in1.in1) (show X.A.in1.in1.handled = none from I.ok.hd hc) s1.heap.objs.size l (Nat.ne_of_lt hlt) its.toArray hfit
  refine call_list_walk (s := { s1 with heap := s1.heap.push (rvObj l ((its.toArray.size : Int) - 1)), toks := s1.toks + 1 + 1 }) W (fun i s' st => ⟨_, st.2.1, rfl⟩) (by decide) (by decide)
    (fun s' Q' E' st hq => rv_hint (i := its.toArray.size) (by rw [List.size_toArray]; omega) hfit (Nat.le_refl _) (by simpa using st.2.1) st.2.2 hq)
    ⟨Nat.zero_le _, by rw [Nat.sub_zero]; exact Heap.get?_push_size _ rfl, let ⟨o, ho, r⟩ := pl; ⟨o, Heap.get?_push_of_some _ ho, r⟩⟩ (fun b hb => ?_) (by simp) (fun s' acc' c' hm hS' hacc => ?_) ?_
  · show b < (s1.heap.push _).objs.size
    rw [Heap.size_push]
    rcases List.mem_cons.mp hb with z | z
    · rw [z]; exact Nat.lt_succ_self _
    · rw [List.mem_singleton.mp z]; exact Nat.lt_succ_of_lt hlt
  · rw [Moved.eq_with hm]
    have kp : ∀ b o, s1.heap.get? b = some o → s'.heap.get? b = some o := fun b o e => hm.heap b o (fun z => by
      have hb : @LT.lt Nat _ b s1.heap.objs.size := Heap.lt_size e
      rcases List.mem_cons.mp z with z | z
      · rw [z] at hb
        simp only [Heap.size_push] at hb
        omega
      · rw [List.mem_singleton.mp z] at hb
        omega) (Heap.get?_push_of_some _ (Heap.get?_push_of_some _ e))
    have hv : Vals ys.reverse acc'.toList := vals_rev (its := its.toArray) (by simpa using rv) hacc
    have hf : H1 ((s1.heap.push (rvObj l ((its.toArray.size : Int) - 1))).objs.size) = none := I1.hok.fresh (by rw [Heap.size_push]; omega)
    refine ⟨.ref _, _, I1.laid (t' := s'.toks) (h' := s'.heap) (o := .lst ys.reverse) kp (by rw [Heap.size_push]; omega) ⟨by rw [List.length_reverse]; exact hz, acc'.toList, c', hv, by simpa using hS'⟩, rfl, q _ hf⟩
  · rw [List.size_toArray]
    omega
end L2
namespace L2
open PySem PySem.Spec PyProof.Rows
theorem Paired.at_ {α β : Type} {r : α → β → Prop} {xs : List α} {ys : List β} (h : Paired r xs ys) : ∀ {i : Nat} {y : β}, ys[i]? = some y → ∃ x, xs[i]? = some x ∧ r x y := by
  induction h with
  | nil => intro i y h; simp at h
  | cons h1 _ ih =>
    intro i y hy
    cases i with
    | zero => simp at hy; subst hy; exact ⟨_, rfl, h1⟩
    | succ i => simpa using ih (by simpa using hy)
section
variable {X : Cx} {pins : List (Addr × Obj)} {σ : St} {H : Hp} {s : Shared} {a : Addr} {u u' : HO}
theorem Inv.relab (I : Inv X pins σ H s) (ha : H a = some u) (h1 : ∀ xs, u ≠ .tup xs) (h2 : ∀ c, u ≠ .own c) (h3 : ∀ ps, u ≠ .tbl ps) (hz : ∀ o v, X.H₀ a ≠ some (.frz o v)) (new : ObjOk X.prog X.w (upd H a u') s.heap a u') : Inv X pins σ (upd H a u') s := by
  have ne : ∀ {b : Addr}, H b = none → b ≠ a := fun {b} e z => by rw [z, ha] at e; cases e
  refine ⟨I.ok, I.os, I.bare, ⟨I.base.keep, I.base.slot, fun b o e n hx => ?_, I.base.there, fun b xs e => ?_, fun b o v e => ?_, fun b ps e => ?_⟩, I.loc, I.cell, ?_, fun x c e => ?_, fun p hp => ?_, fun b o e => ?_, I.len⟩
  · have := I.base.free b o e n hx
    rw [upd_ne (ne this)]
    exact this
  · have := I.base.tups b xs e
    rw [upd_ne fun z => by rw [z, ha] at this; exact h1 xs (Option.some.inj this)]
    exact this
  · have := I.base.frzs b o v e
    rw [upd_ne fun z => by rw [z] at e; exact hz o v e]
    exact this
  · obtain ⟨more, this⟩ := I.base.tbls b ps e
    refine ⟨more, ?_⟩
    rw [upd_ne fun z => by rw [z, ha] at this; exact h3 _ (Option.some.inj this)]
    exact this
  · rw [upd_ne (ne I.free)]; exact I.free
  · rw [upd_ne (ne (I.freeC x c e))]; exact I.freeC x c e
  · obtain ⟨p1, p2, p3⟩ := I.pin p hp
    exact ⟨p1, by rw [upd_ne (ne p2)]; exact p2, p3⟩
  · by_cases hb : b = a
    · subst hb
      rw [upd_same] at e
      cases e
      exact new
    · rw [upd_ne hb] at e
      refine (I.hok b o e).stay (fun _ _ _ q => q) (fun c q => ?_) fun c xs q => ?_
      · rw [upd_ne fun z => by rw [z, ha] at q; exact h2 _ (Option.some.inj q)]; exact q
      · rw [upd_ne fun z => by rw [z, ha] at q; exact h1 _ (Option.some.inj q)]; exact q
theorem Inv.freeze {kvs : List (Key × V)} (I : Inv X pins σ H s) (ha : H a = some (.dK kvs)) : (∀ o v, X.H₀ a ≠ some (.frz o v)) ∧ ∃ o, Inv X pins σ (upd H a (.frz o (.dK kvs))) s := by
  have hz : ∀ o v, X.H₀ a ≠ some (.frz o v) := fun o v e => by
    have := I.base.frzs a o v e
    rw [ha] at this
    cases this
  obtain ⟨z, hs, vs, r, o, es, ep, e, c⟩ := (show ObjOk X.prog X.w H s.heap a (.dK kvs) from I.hok a _ ha)
  exact ⟨hz, o, I.relab ha (fun _ z => nomatch z) (fun _ z => nomatch z) (fun _ z => nomatch z) hz ⟨e, z, hs, vs, r, o, es, ep, e, c⟩⟩
theorem Inv.thaw {kvs : List (Key × V)} {o : Obj} (I : Inv X pins σ H s) (hz : ∀ o v, X.H₀ a ≠ some (.frz o v)) (ha : H a = some (.frz o (.dK kvs))) : Inv X pins σ (upd H a (.dK kvs)) s := by
  obtain ⟨_, z, hs, vs, r⟩ := (show ObjOk X.prog X.w H s.heap a (.frz o (.dK kvs)) from I.hok a _ ha)
  exact I.relab ha (fun _ z => nomatch z) (fun _ z => nomatch z) (fun _ z => nomatch z) hz ⟨z, hs, vs, r⟩
end
def tFrzE (i : Nat) (te : TE) : TE := fun σ H Q => ∃ a kvs, σ[i]? = some (some (.ref a)) ∧ H a = some (.dK kvs) ∧ ∀ o, te σ (upd H a (.frz o (.dK kvs))) fun v H' => H' a = some (.frz o (.dK kvs)) ∧ Q v (upd H' a (.dK kvs))
theorem pe_frz {X : Cx} {e : Expr} {te : TE} {i : Nat} (he : PE X e te) : PE X e (tFrzE i te) := by
  intro pins s σ H Q I h
  obtain ⟨a, kvs, ei, ha, k⟩ := h
  obtain ⟨hz, o, I1⟩ := I.freeze ha
  exact thn (he pins s σ _ _ I1 (k o)) fun u s' ⟨v, H', I', r, e1, q⟩ => ⟨v, _, I'.thaw hz e1, r, q⟩
def Itd (a : Addr) (o : Obj) (kvs : List (Key × V)) : It :=
  ⟨fun i H => H a = some (.frz o (.dK kvs)) ∧ i < kvs.length, fun i H v H' => H' = H ∧ ∃ kv, kvs[i]? = some kv ∧ v = kV kv.1, fun i H => H a = some (.frz o (.dK kvs)) ∧ kvs.length ≤ i⟩
theorem kV_rel {P : Program} {w : World} {k : Key} {v : Value} (h : (mixKind P w).is k v = true) : RelV (kV k) v := by
  rcases keyIs_shape (k := k) (v := v) h with ⟨i, t, rfl, rfl⟩ | ⟨x, t, rfl, rfl⟩
  · exact ⟨t, rfl⟩
  · exact ⟨t, rfl⟩
theorem frz_at {X : Cx} {pins : List (Addr × Obj)} {σ : St} {H : Hp} {s : Shared} {d : Addr} {o : Obj} {kvs : List (Key × V)} {es : Array DictEntry} {ep : Nat} (I : Inv X pins σ H s) (hd : H d = some (.frz o (.dK kvs))) (ho : o.data = .dict es ep) :
    (d == sysModules) = false ∧ ∃ vs, KV kvs vs ∧ s.heap.DictAt (mixKind X.prog X.w) d vs ep := by
  obtain ⟨e, z, hs, vs, r, o', es', ep', e', c, hd', rest⟩ := (show ObjOk X.prog X.w H s.heap d (.frz o (.dK kvs)) from I.hok d _ hd)
  rw [e] at e'
  cases e'
  rw [ho] at hd'
  cases hd'
  exact ⟨hs, vs, r, o, es, e, c, ho, rest⟩
theorem turn_dictF {P : Program} {w : World} {K : PySem.W.Frag} {tg : Expr} (d it : Addr) (o : Obj) (kvs : List (Key × V)) (es : Array DictEntry) (ep : Nat) (ho : o.data = .dict es ep) : Turn P w K tg (Itd d o kvs) [it] it (fun i h => h.IsKeyIter it d i kvs.length ep) where
  mem := by simp
  obj := fun i h st b hb => by
    have e : b = it := by simpa using hb
    subst e
    obtain ⟨o, e, c, d⟩ := st
    exact ⟨o, e, fun v z => by rw [d] at z; cases z⟩
  keep := fun i h h' st k => let ⟨o, e, r⟩ := st; ⟨o, k it (by simp) o e, r⟩
  item := by
    intro X hP hw hK hc i pins s σ H E I hf st hg
    subst hP hw hK
    obtain ⟨hd, hlt⟩ := hg
    obtain ⟨_, vs, r, at_⟩ := frz_at I hd ho
    have l1 : kvs.length = vs.length := Paired.length r
    have hv : vs[i]? = some (vs[i]'(by omega)) := List.getElem?_eq_getElem (by omega)
    obtain ⟨kv, ek, e1, _⟩ := Paired.at_ r hv
    obtain ⟨f0, f1, f2, f3, f4, f5⟩ := hf it (by simp)
    rw [l1] at st
    refine wpAny_pyNext_dict_item st at_ (k := vs[i].1) (v := vs[i].2) hv fun key h' hkey st' sb => ?_
    have I1 : Inv X pins σ H { s with heap := h' } := I.turned (t' := s.toks) (fun b o hb e => (sb.2 b hb).trans e) f0 f1 f3 f4 f5
    obtain ⟨oi, e, c, dd⟩ := id st'
    rw [← l1] at st'
    exact ⟨key, rfl, go_of (s := { s with heap := h' }) e c dd (by decide) ⟨kV kv.1, H, I1, kV_rel (by rw [e1]; exact hkey), ⟨rfl, kv, ek, rfl⟩, st', fun b hb => (hf b hb).1⟩⟩
  done := by
    intro X hP hw hK hc i pins s σ H E I hf st hg
    subst hP hw hK
    obtain ⟨hd, hle⟩ := hg
    obtain ⟨_, vs, r, at_⟩ := frz_at I hd ho
    have l1 : kvs.length = vs.length := Paired.length r
    obtain ⟨f0, f1, f2, f3, f4, f5⟩ := hf it (by simp)
    rw [l1] at st
    exact wpAny_pyNext_dict_end (I.ok.hd hc) st at_ (List.getElem?_eq_none (by omega)) fun h' eb => ⟨rfl, I.turned (t' := s.toks) (fun b o hb e => eb b o hb e) f0 f1 f3 f4 f5⟩
  self := fun _ _ _ _ _ st h => wpAny_pyIter_keyiter st h
def iDictF (te : TE) : TI := fun σ H R => te σ H fun x H1 => ∃ d o kvs, x = .ref d ∧ H1 d = some (.frz o (.dK kvs)) ∧ R (Itd d o kvs) H1
theorem pi_dictF {X : Cx} {tg e : Expr} {te : TE} (he : PE X e te) : PI X tg e (iDictF te) := by
  intro pins s σ H R I h
  refine thn (he pins s σ H _ I h) fun u s1 ⟨x, H1, I1, r1, d, o, kvs, ex, hd, q⟩ => ?_
  subst ex
  cases r1
  obtain ⟨eo, z, hs0, vs0, r0, o', es, ep, e', c, hdat, rest⟩ := (show ObjOk X.prog X.w H1 s1.heap d (.frz o (.dK kvs)) from I1.hok d _ hd)
  rw [eo] at e'
  cases e'
  obtain ⟨hs, vs, r, at_⟩ := frz_at I1 hd hdat
  have l1 : kvs.length = vs.length := Paired.length r
  refine wpAny_pyIter_dict hs at_ ?_
  refine ⟨_, [s1.heap.objs.size], _, _, H1, rfl, I1.kept (t' := s1.toks) (fun b o e => Heap.get?_push_of_some _ e), turn_dictF d _ o kvs es ep hdat, ⟨_, Heap.get?_push_size _ rfl, rfl, by rw [l1]; rfl⟩, fun c hc => ?_, q⟩
  rw [List.mem_singleton.mp hc]
  exact I1.fpOk (Nat.le_refl _) (I1.hok.fresh (Nat.le_refl _))
end L2
namespace L2
open PySem PySem.Spec PyProof.Rows
inductive T where
  | n | b (x : Bool) | i (x : Int) | s (x : Str) | t (xs : List T) | l (xs : List T) | d (ks : List (Key × T)) | deal | z (ns : List Int) | ty (x : String) | k (ws : List Str) | q | fd (o : Obj) (vs : List (Key × V)) (ks : List (Key × T))
abbrev Dl := List (Addr × Addr)
def FzL (K : PySem.W.Frag) (H : Hp) (a : Addr) (xs : List V) : Prop := (∃ o, H a = some (.frz o (.lst xs))) ∨
    ∃ (o : Obj) (its : Array Value) (n : Nat), K.lookup a = some o ∧ o.cls = .type "list" ∧ o.dict = none ∧ o.data = .seq its n ∧ its.size ≤ sizeLine ∧ Vals xs its.toList
theorem FzL.sq {K : PySem.W.Frag} {H : Hp} {a : Addr} {xs : List V} (h : FzL K H a xs) : SqL K H a xs := by
  rcases h with h | h
  · exact .inl (.inr h)
  · exact .inr h
mutual
inductive RepF (K : PySem.W.Frag) (dl : Dl) (H : Hp) : V → T → List Addr → Prop where
  | n : RepF K dl H .non .n []
  | b (x : Bool) : RepF K dl H (.bl x) (.b x) []
  | i (x : Int) : RepF K dl H (.int x) (.i x) []
  | s (x : Str) : RepF K dl H (.str x) (.s x) []
  | ty (x : String) : RepF K dl H (.ty x) (.ty x) []
  | t {a : Addr} {vs : List V} {ts : List T} {F : List Addr} : H a = some (.tup vs) → RepFs K dl H vs ts F → RepF K dl H (.ref a) (.t ts) F
  | l {a : Addr} {vs : List V} {ts : List T} {F : List Addr} : H a = some (.lst vs) → RepFs K dl H vs ts F → RepF K dl H (.ref a) (.l ts) (a :: F)
  | d {a : Addr} {vs : List (Key × V)} {ts : List (Key × T)} {F : List Addr} : H a = some (.dK vs) → RepFk K dl H vs ts F → RepF K dl H (.ref a) (.d ts) (a :: F)
  | x {a l : Addr} : (a, l) ∈ dl → RepF K dl H (.ref a) .deal []
  | z {a : Addr} {ns : List Int} : FzL K H a (ns.map V.int) → RepF K dl H (.ref a) (.z ns) []
  | q {a : Addr} {xs : List V} : H a = some (.lst xs) → RepF K dl H (.ref a) .q []
  | fd {a : Addr} {o : Obj} {vs : List (Key × V)} {ts : List (Key × T)} : H a = some (.frz o (.dK vs)) → RepFk K dl H vs ts [] → RepF K dl H (.ref a) (.fd o vs ts) []
  | k {a : Addr} {ws : List Str} : (∀ H' : Hp, SqT K H' a (ws.map V.str)) → RepF K dl H (.ref a) (.k ws) []
inductive RepFs (K : PySem.W.Frag) (dl : Dl) (H : Hp) : List V → List T → List Addr → Prop where
  | nil : RepFs K dl H [] [] []
  | cons {v : V} {x : T} {vs : List V} {ts : List T} {F G : List Addr} : RepF K dl H v x F → RepFs K dl H vs ts G → RepFs K dl H (v :: vs) (x :: ts) (F ++ G)
inductive RepFk (K : PySem.W.Frag) (dl : Dl) (H : Hp) : List (Key × V) → List (Key × T) → List Addr → Prop where
  | nil : RepFk K dl H [] [] []
  | cons {k : Key} {v : V} {x : T} {vs : List (Key × V)} {ts : List (Key × T)} {F G : List Addr} : RepF K dl H v x F → RepFk K dl H vs ts G → RepFk K dl H ((k, v) :: vs) ((k, x) :: ts) (F ++ G)
end
structure TF (H H' : Hp) : Prop where
  t : ∀ a vs, H a = some (.tup vs) → H' a = some (.tup vs)
  f : ∀ a o u, H a = some (.frz o u) → H' a = some (.frz o u)
  q : ∀ a xs, H a = some (.lst xs) → ∃ ys, H' a = some (.lst ys)
theorem SqT.tf {K : PySem.W.Frag} {H H' : Hp} {a : Addr} {vs : List V} (h : SqT K H a vs) (k : TF H H') : SqT K H' a vs := by
  rcases h with (h | ⟨o, h⟩) | h
  · exact .inl (.inl (k.t _ _ h))
  · exact .inl (.inr ⟨o, k.f _ _ _ h⟩)
  · exact .inr h
theorem FzL.tf {K : PySem.W.Frag} {H H' : Hp} {a : Addr} {vs : List V} (h : FzL K H a vs) (k : TF H H') : FzL K H' a vs := by
  rcases h with ⟨o, h⟩ | h
  · exact .inl ⟨o, k.f _ _ _ h⟩
  · exact .inr h
mutual
theorem RepF.stay {K : PySem.W.Frag} {dl dl' : Dl} {H H' : Hp} (k : TF H H') (hd : ∀ p ∈ dl, p ∈ dl') : ∀ {v : V} {t : T} {F : List Addr}, RepF K dl H v t F → (∀ b ∈ F, ∀ o, H b = some o → H' b = some o) → RepF K dl' H' v t F
  | _, _, _, .n, _ => .n
  | _, _, _, .b x, _ => .b x
  | _, _, _, .i x, _ => .i x
  | _, _, _, .s x, _ => .s x
  | _, _, _, .ty x, _ => .ty x
  | _, _, _, .t h r, q => .t (k.t _ _ h) (RepFs.stay k hd r q)
  | _, _, _, .l h r, q => .l (q _ List.mem_cons_self _ h) (RepFs.stay k hd r fun b hb => q b (List.mem_cons_of_mem _ hb))
  | _, _, _, .d h r, q => .d (q _ List.mem_cons_self _ h) (RepFk.stay k hd r fun b hb => q b (List.mem_cons_of_mem _ hb))
  | _, _, _, .x h, _ => .x (hd _ h)
  | _, _, _, .z h, _ => .z (h.tf k)
  | _, _, _, .k h, _ => .k h
  | _, _, _, .q h, _ => let ⟨_, e⟩ := k.q _ _ h; .q e
  | _, _, _, .fd h r, _ => .fd (k.f _ _ _ h) (RepFk.stay k hd r fun _ z => nomatch z)
theorem RepFs.stay {K : PySem.W.Frag} {dl dl' : Dl} {H H' : Hp} (k : TF H H') (hd : ∀ p ∈ dl, p ∈ dl') : ∀ {vs : List V} {ts : List T} {F : List Addr}, RepFs K dl H vs ts F → (∀ b ∈ F, ∀ o, H b = some o → H' b = some o) → RepFs K dl' H' vs ts F
  | _, _, _, .nil, _ => .nil
  | _, _, _, .cons h r, q => .cons (RepF.stay k hd h fun b hb => q b (List.mem_append_left _ hb)) (RepFs.stay k hd r fun b hb => q b (List.mem_append_right _ hb))
theorem RepFk.stay {K : PySem.W.Frag} {dl dl' : Dl} {H H' : Hp} (k : TF H H') (hd : ∀ p ∈ dl, p ∈ dl') : ∀ {vs : List (Key × V)} {ts : List (Key × T)} {F : List Addr}, RepFk K dl H vs ts F → (∀ b ∈ F, ∀ o, H b = some o → H' b = some o) → RepFk K dl' H' vs ts F
  | _, _, _, .nil, _ => .nil
  | _, _, _, .cons h r, q => .cons (RepF.stay k hd h fun b hb => q b (List.mem_append_left _ hb)) (RepFk.stay k hd r fun b hb => q b (List.mem_append_right _ hb))
end
mutual
theorem RepF.there {K : PySem.W.Frag} {dl : Dl} {H : Hp} : ∀ {v : V} {t : T} {F : List Addr}, RepF K dl H v t F → ∀ b ∈ F, (∃ xs, H b = some (.lst xs)) ∨ ∃ ks, H b = some (.dK ks)
  | _, _, _, .n => fun _ h => nomatch h
  | _, _, _, .b x => fun _ h => nomatch h
  | _, _, _, .i x => fun _ h => nomatch h
  | _, _, _, .s x => fun _ h => nomatch h
  | _, _, _, .ty x => fun _ h => nomatch h
  | _, _, _, .t _ r => RepFs.there r
  | _, _, _, .l h r => fun b hb => by
    rcases List.mem_cons.mp hb with e | hb
    · rw [e]; exact .inl ⟨_, h⟩
    · exact RepFs.there r b hb
  | _, _, _, .d h r => fun b hb => by
    rcases List.mem_cons.mp hb with e | hb
    · rw [e]; exact .inr ⟨_, h⟩
    · exact RepFk.there r b hb
  | _, _, _, .x _ => fun _ h => nomatch h
  | _, _, _, .z _ => fun _ h => nomatch h
  | _, _, _, .k _ => fun _ h => nomatch h
  | _, _, _, .q _ => fun _ h => nomatch h
  | _, _, _, .fd _ _ => fun _ h => nomatch h
theorem RepFs.there {K : PySem.W.Frag} {dl : Dl} {H : Hp} : ∀ {vs : List V} {ts : List T} {F : List Addr}, RepFs K dl H vs ts F → ∀ b ∈ F, (∃ xs, H b = some (.lst xs)) ∨ ∃ ks, H b = some (.dK ks)
  | _, _, _, .nil => fun _ h => nomatch h
  | _, _, _, .cons h r => fun b hb => by
    rcases List.mem_append.mp hb with hb | hb
    · exact RepF.there h b hb
    · exact RepFs.there r b hb
theorem RepFk.there {K : PySem.W.Frag} {dl : Dl} {H : Hp} : ∀ {vs : List (Key × V)} {ts : List (Key × T)} {F : List Addr}, RepFk K dl H vs ts F → ∀ b ∈ F, (∃ xs, H b = some (.lst xs)) ∨ ∃ ks, H b = some (.dK ks)
  | _, _, _, .nil => fun _ h => nomatch h
  | _, _, _, .cons h r => fun b hb => by
    rcases List.mem_append.mp hb with hb | hb
    · exact RepF.there h b hb
    · exact RepFk.there r b hb
end
def Nd (dl : Dl) (b : Addr) : Prop := ∀ p ∈ dl, b ≠ p.1 ∧ b ≠ p.2
def Dls (dl : Dl) (H : Hp) : Prop := ∀ p ∈ dl, Deal H p.1 p.2
theorem Dls.nd {dl : Dl} {H : Hp} (D : Dls dl H) {b : Addr} {o : HO} (h : H b = some o) (h1 : ∀ xs, o ≠ .lst xs) (h2 : ∀ ks, o ≠ .dK ks) : Nd dl b := fun p hp => by
  obtain ⟨s, n, ls, Q⟩ := D p hp
  exact ⟨ne_of h Q.hd (h2 _), ne_of h Q.hl (h1 _)⟩
theorem Dls.nd0 {dl : Dl} {H : Hp} (D : Dls dl H) {b : Addr} (h : H b = none) : Nd dl b := fun p hp => by
  obtain ⟨s, n, ls, Q⟩ := D p hp
  exact ⟨(ne_of_none Q.hd h).symm, (ne_of_none Q.hl h).symm⟩
structure Evo (dl : Dl) (H H' : Hp) : Prop where
  k : ∀ b o, H b = some o → Nd dl b → H' b = some o
  d : Dls dl H'
theorem Evo.refl {dl : Dl} {H : Hp} (D : Dls dl H) : Evo dl H H := ⟨fun _ _ h _ => h, D⟩
theorem Evo.trans {dl : Dl} {H H1 H2 : Hp} (a : Evo dl H H1) (b : Evo dl H1 H2) : Evo dl H H2 := ⟨fun c o h n => b.k c o (a.k c o h n) n, b.d⟩
theorem Evo.tf {dl : Dl} {H H' : Hp} (e : Evo dl H H') (D : Dls dl H) : TF H H' :=
  ⟨fun a vs h => e.k a _ h (D.nd h (fun _ z => nomatch z) fun _ z => nomatch z), fun a o u h => e.k a _ h (D.nd h (fun _ z => nomatch z) fun _ z => nomatch z), fun a xs h => by
    by_cases hn : Nd dl a
    · exact ⟨xs, e.k a _ h hn⟩
    · unfold Nd at hn
      obtain ⟨p, hp, z⟩ : ∃ p ∈ dl, ¬ (a ≠ p.1 ∧ a ≠ p.2) := Classical.byContradiction fun c => hn fun p hp => Classical.byContradiction fun z => c ⟨p, hp, z⟩
      obtain ⟨s, n, ls, Q⟩ := D p hp
      obtain ⟨s', n', ls', Q'⟩ := e.d p hp
      have h1 : a ≠ p.1 := ne_of h Q.hd (fun z => nomatch z)
      have h2 : a = p.2 := Classical.byContradiction fun z' => z ⟨h1, z'⟩
      exact ⟨_, by rw [h2]; exact Q'.hl⟩⟩
theorem Evo.new {dl : Dl} {H H1 : Hp} {p : Addr} {o : HO} (e : Evo dl H H1) (hp : H1 p = none) : Evo dl H (upd H1 p o) :=
  ⟨fun c u h n => by rw [upd_ne (ne_of_none (e.k c u h n) hp)]; exact e.k c u h n, fun q hq => (e.d q hq).new hp⟩
theorem Evo.free {dl : Dl} {H H' : Hp} (e : Evo dl H H') {p : Addr} (hp : H' p = none) : H p = none := by
  cases q : H p with
  | none => rfl
  | some o => rw [e.k p o q (e.d.nd0 hp)] at hp; cases hp
structure Rp (K : PySem.W.Frag) (dl : Dl) (H : Hp) (v : V) (t : T) (F : List Addr) : Prop where
  r : RepF K dl H v t F
  n : ∀ b ∈ F, Nd dl b
structure Rps (K : PySem.W.Frag) (dl : Dl) (H : Hp) (vs : List V) (ts : List T) (F : List Addr) : Prop where
  r : RepFs K dl H vs ts F
  n : ∀ b ∈ F, Nd dl b
theorem Rp.evo {K : PySem.W.Frag} {dl : Dl} {H H' : Hp} {v : V} {t : T} {F : List Addr} (h : Rp K dl H v t F) (D : Dls dl H) (e : Evo dl H H') : Rp K dl H' v t F :=
  ⟨h.r.stay (e.tf D) (fun _ q => q) fun b hb o q => e.k b o q (h.n b hb), h.n⟩
theorem Rps.evo {K : PySem.W.Frag} {dl : Dl} {H H' : Hp} {v : List V} {t : List T} {F : List Addr} (h : Rps K dl H v t F) (D : Dls dl H) (e : Evo dl H H') : Rps K dl H' v t F :=
  ⟨h.r.stay (e.tf D) (fun _ q => q) fun b hb o q => e.k b o q (h.n b hb), h.n⟩
inductive Sl where
  | no | o (t : T) | r (t : T)
abbrev Sq := List Sl
def Sl.get : Sl → Option T
  | .no => none
  | .o t => some t
  | .r t => some t
structure RdR (K : PySem.W.Frag) (dl : Dl) (H : Hp) (σ : St) (q : Sq) : Prop where
  d : Dls dl H
  g : ∀ (i : Nat) (x : Sl) (t : T), q[i]? = some x → x.get = some t → ∃ v F, σ[i]? = some (some v) ∧ Rp K dl H v t F
theorem RdR.evo {K : PySem.W.Frag} {dl : Dl} {H H' : Hp} {σ : St} {q : Sq} (h : RdR K dl H σ q) (e : Evo dl H H') : RdR K dl H' σ q :=
  ⟨e.d, fun i x t h1 h2 => let ⟨v, F, h3, h4⟩ := h.g i x t h1 h2; ⟨v, F, h3, h4.evo h.d e⟩⟩
abbrev QE := Sq → (T → Prop) → Prop
abbrev QT := Sq → (Bool → Prop) → Prop
abbrev QA := Sq → (List T → Prop) → Prop
def SimE (K : PySem.W.Frag) (te : TE) (tq : QE) : Prop := ∀ (dl : Dl) (H : Hp) (σ : St) (q : Sq) (Q : T → Prop) (R : V → Hp → Prop), RdR K dl H σ q → tq q Q →
  (∀ v t F H', Evo dl H H' → Rp K dl H' v t F → Q t → R v H') → te σ H R
def SimF (K : PySem.W.Frag) (te : TE) (tq : QE) : Prop := ∀ (dl : Dl) (H : Hp) (σ : St) (q : Sq) (Q : T → Prop) (R : V → Hp → Prop), RdR K dl H σ q → tq q Q →
  (∀ v t F H', Evo dl H H' → Rp K dl H' v t F → (∀ b ∈ F, H b = none) → F.Nodup → Q t → R v H') → te σ H R
def SimT (K : PySem.W.Frag) (te : TT) (tq : QT) : Prop := ∀ (dl : Dl) (H : Hp) (σ : St) (q : Sq) (Q : Bool → Prop) (R : Bool → Hp → Prop), RdR K dl H σ q → tq q Q →
  (∀ b H', Evo dl H H' → Q b → R b H') → te σ H R
def SimA (K : PySem.W.Frag) (n : Nat) (te : TA) (tq : QA) : Prop := ∀ (dl : Dl) (H : Hp) (σ : St) (q : Sq) (Q : List T → Prop) (R : List V → Hp → Prop), RdR K dl H σ q → tq q Q →
  (∀ vs ts F H', Evo dl H H' → Rps K dl H' vs ts F → vs.length = n → Q ts → R vs H') → te σ H R
def SimAF (K : PySem.W.Frag) (n : Nat) (te : TA) (tq : QA) : Prop := ∀ (dl : Dl) (H : Hp) (σ : St) (q : Sq) (Q : List T → Prop) (R : List V → Hp → Prop), RdR K dl H σ q → tq q Q →
  (∀ vs ts F H', Evo dl H H' → Rps K dl H' vs ts F → vs.length = n → (∀ b ∈ F, H b = none) → F.Nodup → Q ts → R vs H') → te σ H R
structure QPE (X : Cx) (K : PySem.W.Frag) (e : Expr) (te : TE) (tq : QE) : Prop where
  h : PE X e te
  s : SimE K te tq
structure QPF (X : Cx) (K : PySem.W.Frag) (e : Expr) (te : TE) (tq : QE) : Prop where
  h : PE X e te
  s : SimF K te tq
structure QPT (X : Cx) (K : PySem.W.Frag) (e : Expr) (te : TT) (tq : QT) : Prop where
  h : PT X e te
  s : SimT K te tq
structure QPW (X : Cx) (K : PySem.W.Frag) (e : Expr) (te : TT) (tq : QT) : Prop where
  h : PW X e te
  s : SimT K te tq
structure QPA (X : Cx) (K : PySem.W.Frag) (es : List Expr) (te : TA) (tq : QA) : Prop where
  h : PA X es te
  s : SimA K es.length te tq
structure QPAF (X : Cx) (K : PySem.W.Frag) (es : List Expr) (te : TA) (tq : QA) : Prop where
  h : PA X es te
  s : SimAF K es.length te tq
section
variable {X : Cx} {K : PySem.W.Frag} {a b c e : Expr} {es rest : List Expr} {ta tb tc te : TE} {qa qb qc qe : QE} {tA tB : TT} {qA qB : QT} {tl : TA} {ql : QA} {pos : Pos}
theorem QPF.w (h : QPF X K e te qe) : QPE X K e te qe := ⟨h.h, fun dl H σ q Q R rd hq k => h.s dl H σ q Q R rd hq fun v t F H' e r _ _ z => k v t F H' e r z⟩
def T.sc : T → Bool
  | .n => true | .b _ => true | .i _ => true | .s _ => true | .deal => true | .z _ => true | .ty _ => true | _ => false
mutual
def T.im : T → Bool
  | .t xs => T.ims xs
  | .l _ => false
  | .d _ => false
  | _ => true
def T.ims : List T → Bool
  | [] => true
  | x :: r => x.im && T.ims r
end
mutual
theorem RepF.im {dl : Dl} {H : Hp} : ∀ {v : V} {t : T} {F : List Addr}, RepF K dl H v t F → t.im = true → F = []
  | _, _, _, .n, _ => rfl
  | _, _, _, .b x, _ => rfl
  | _, _, _, .i x, _ => rfl
  | _, _, _, .s x, _ => rfl
  | _, _, _, .ty x, _ => rfl
  | _, _, _, .t _ r, h => RepFs.im r h
  | _, _, _, .l _ _, h => nomatch h
  | _, _, _, .d _ _, h => nomatch h
  | _, _, _, .x _, _ => rfl
  | _, _, _, .z _, _ => rfl
  | _, _, _, .k _, _ => rfl
  | _, _, _, .q _, _ => rfl
  | _, _, _, .fd _ _, _ => rfl
theorem RepFs.im {dl : Dl} {H : Hp} : ∀ {v : List V} {t : List T} {F : List Addr}, RepFs K dl H v t F → T.ims t = true → F = []
  | _, _, _, .nil, _ => rfl
  | _, _, _, .cons h r, q => by
    have q : (_ && _) = true := q
    rw [Bool.and_eq_true] at q
    rw [RepF.im h q.1, RepFs.im r q.2]
    rfl
end
def qQ (qe : QE) : QE := fun q Q => qe q fun t => match t with | .l _ => Q .q | _ => False
theorem QPF.q (h : QPF X K e te qe) : QPF X K e te (qQ qe) := ⟨h.h, fun dl H σ q Q R rd hq k => h.s dl H σ q _ R rd hq fun v t F H' e1 r _ _ hz => by
  split at hz
  · cases r.r with
    | l h1 h2 => exact k _ .q [] H' e1 ⟨.q h1, fun _ z => nomatch z⟩ (fun _ z => nomatch z) List.nodup_nil hz
  · exact hz.elim⟩
def qIm (qe : QE) : QE := fun q Q => qe q fun t => t.im = true ∧ Q t
theorem QPE.f (h : QPE X K e te qe) : QPF X K e te (qIm qe) := ⟨h.h, fun dl H σ q Q R rd hq k => h.s dl H σ q _ R rd hq fun v t F H' e r ⟨z1, z2⟩ => by
  have f := r.r.im z1
  subst f
  exact k v t [] H' e r (fun _ z => nomatch z) List.nodup_nil z2⟩
def qVar (i : Nat) : QE := fun q Q => match q[i]? with
  | some (.o t) => Q t
  | some (.r t) => Q t
  | _ => False
theorem sim_var (i : Nat) : SimE K (tVar i) (qVar i) := by
  intro dl H σ q Q R rd hq k
  unfold qVar at hq
  split at hq
  · rename_i t e
    obtain ⟨v, F, h1, h2⟩ := rd.g i _ t e rfl
    exact ⟨v, h1, k v t F H (.refl rd.d) h2 hq⟩
  · rename_i t e
    obtain ⟨v, F, h1, h2⟩ := rd.g i _ t e rfl
    exact ⟨v, h1, k v t F H (.refl rd.d) h2 hq⟩
  · exact hq.elim
theorem qv (i : Nat) {x : Str} {pos : Pos} (hN : X.N[i]? = some x := by rfl) (hv : Vis X.env.scope x := by first | exact Or.inl rfl | exact Or.inr (Or.inl rfl) | exact Or.inr (Or.inr rfl)) (hd : (x == ("__debug__" : Str)) = false := by decide)
    (hcd : (x == ("__classdict__" : Str)) = false := by decide) : QPE X K (.Name x pos) (tVar i) (qVar i) := ⟨pe_var hN hv hd hcd, sim_var i⟩
def qC (t : T) : QE := fun _ Q => Q t
theorem sim_c {v : V} {t : T} (h : ∀ dl H, RepF K dl H v t []) : SimF K (tC v) (qC t) := fun dl H σ q Q R rd hq k => k v t [] H (.refl rd.d) ⟨h dl H, fun _ z => nomatch z⟩ (fun _ z => nomatch z) List.nodup_nil hq
theorem qe_int {i j pos} : QPF X K (.Constant (.int i) j pos) (tC (.int i)) (qC (.i i)) := ⟨pe_int, sim_c fun _ _ => .i i⟩
theorem qe_bl {b j pos} : QPF X K (.Constant (.bool b) j pos) (tC (.bl b)) (qC (.b b)) := ⟨pe_bl, sim_c fun _ _ => .b b⟩
theorem qe_str {x j pos} : QPF X K (.Constant (.str x) j pos) (tC (.str x)) (qC (.s x)) := ⟨pe_str, sim_c fun _ _ => .s x⟩
theorem qe_ty {x : Str} {n : String} {pos : Pos} (hg : Gl X x) (hm : X.mg x = none) (hv : bootBuiltins x = some (.type n)) (hn : x ≠ "__name__" := by decide) (hd : (x == ("__debug__" : Str)) = false := by decide) : QPF X K (.Name x pos) (tC (.ty n)) (qC (.ty n)) :=
  ⟨pe_bltn hg hm hv rfl hn hd, sim_c fun _ _ => .ty n⟩
theorem repFs_strs {dl : Dl} {H : Hp} : ∀ (ws : List Str), RepFs K dl H (ws.map V.str) (ws.map T.s) []
  | [] => .nil
  | w :: r => .cons (F := []) (.s w) (repFs_strs r)
theorem repFs_ints {dl : Dl} {H : Hp} : ∀ (ws : List Int), RepFs K dl H (ws.map V.int) (ws.map T.i) []
  | [] => .nil
  | w :: r => .cons (F := []) (.i w) (repFs_ints r)
abbrev Q1 := T → (T → Prop) → Prop
abbrev Q2 := T → T → (T → Prop) → Prop
def SimO (K : PySem.W.Frag) (r : R2) (rq : Q2) : Prop := ∀ (dl : Dl) (H : Hp) (x y : V) (t u : T) (F G : List Addr) (Q : T → Prop) (R : V → Hp → Prop), Dls dl H → Rp K dl H x t F → Rp K dl H y u G → rq t u Q →
  (∀ v z F' H', Evo dl H H' → Rp K dl H' v z F' → Q z → R v H') → r x y H R
def SimOF (K : PySem.W.Frag) (r : R2) (rq : Q2) : Prop := ∀ (dl : Dl) (H : Hp) (x y : V) (t u : T) (F G : List Addr) (Q : T → Prop) (R : V → Hp → Prop), Dls dl H → Rp K dl H x t F → Rp K dl H y u G → rq t u Q →
  (∀ v z F' H', Evo dl H H' → Rp K dl H' v z F' → (∀ b ∈ F', H b = none) → F'.Nodup → Q z → R v H') → r x y H R
theorem SimOF.w {r : R2} {rq : Q2} (h : SimOF K r rq) : SimO K r rq := fun dl H x y t u F G Q R d a b hq k => h dl H x y t u F G Q R d a b hq fun v z F' H' e r _ _ z' => k v z F' H' e r z'
def qOp (rq : Q2) (qa qb : QE) : QE := fun q Q => qa q fun t => qb q fun u => rq t u Q
theorem sim_op {r : R2} {rq : Q2} (ho : SimO K r rq) (ha : SimE K ta qa) (hb : SimE K tb qb) : SimE K (tOp r ta tb) (qOp rq qa qb) := by
  intro dl H σ q Q R rd hq k
  refine ha dl H σ q _ _ rd hq fun v t F H1 e1 r1 hq1 => ?_
  refine hb dl H1 σ q _ _ (rd.evo e1) hq1 fun w u G H2 e2 r2 hq2 => ?_
  exact ho dl H2 v w t u F G Q R e2.d (r1.evo e1.d e2) r2 hq2 fun v' z F' H3 e3 r3 hz => k v' z F' H3 ((e1.trans e2).trans e3) r3 hz
theorem sim_opF {r : R2} {rq : Q2} (ho : SimOF K r rq) (ha : SimE K ta qa) (hb : SimE K tb qb) : SimF K (tOp r ta tb) (qOp rq qa qb) := by
  intro dl H σ q Q R rd hq k
  refine ha dl H σ q _ _ rd hq fun v t F H1 e1 r1 hq1 => ?_
  refine hb dl H1 σ q _ _ (rd.evo e1) hq1 fun w u G H2 e2 r2 hq2 => ?_
  exact ho dl H2 v w t u F G Q R e2.d (r1.evo e1.d e2) r2 hq2 fun v' z F' H3 e3 r3 f3 n3 hz => k v' z F' H3 ((e1.trans e2).trans e3) r3 (fun b hb => (e1.trans e2).free (f3 b hb)) n3 hz
theorem qe_opF {op : Operator} {r : R2} {rq : Q2} (ho : OpR X (binaryOp op) r) (hs : SimOF K r rq) (ha : QPE X K a ta qa) (hb : QPE X K b tb qb) : QPF X K (.BinOp a op b pos) (tOp r ta tb) (qOp rq qa qb) := ⟨pe_op ho ha.h hb.h, sim_opF hs ha.s hb.s⟩
end
end L2
namespace L2
open PySem PySem.Spec PyProof.Rows
section
variable {X : Cx} {K : PySem.W.Frag} {dl : Dl} {H : Hp} {v : V} {F : List Addr}
theorem RepF.int {x : Int} (h : RepF K dl H v (.i x) F) : v = .int x ∧ F = [] := by cases h; exact ⟨rfl, rfl⟩
theorem RepF.str {x : Str} (h : RepF K dl H v (.s x) F) : v = .str x ∧ F = [] := by cases h; exact ⟨rfl, rfl⟩
theorem RepF.bl {x : Bool} (h : RepF K dl H v (.b x) F) : v = .bl x ∧ F = [] := by cases h; exact ⟨rfl, rfl⟩
theorem RepF.non (h : RepF K dl H v .n F) : v = .non ∧ F = [] := by cases h; exact ⟨rfl, rfl⟩
theorem RepF.tyy {x : String} (h : RepF K dl H v (.ty x) F) : v = .ty x := by cases h; rfl
theorem RepF.tup {ts : List T} (h : RepF K dl H v (.t ts) F) : ∃ a vs, v = .ref a ∧ H a = some (.tup vs) ∧ RepFs K dl H vs ts F := by cases h with | t h r => exact ⟨_, _, rfl, h, r⟩
theorem RepF.lst {ts : List T} (h : RepF K dl H v (.l ts) F) : ∃ a vs G, v = .ref a ∧ F = a :: G ∧ H a = some (.lst vs) ∧ RepFs K dl H vs ts G := by cases h with | l h r => exact ⟨_, _, _, rfl, rfl, h, r⟩
theorem RepF.dic {ts : List (Key × T)} (h : RepF K dl H v (.d ts) F) : ∃ a vs G, v = .ref a ∧ F = a :: G ∧ H a = some (.dK vs) ∧ RepFk K dl H vs ts G := by cases h with | d h r => exact ⟨_, _, _, rfl, rfl, h, r⟩
theorem RepF.dea (h : RepF K dl H v .deal F) : ∃ a l, v = .ref a ∧ (a, l) ∈ dl ∧ F = [] := by cases h with | x h => exact ⟨_, _, rfl, h, rfl⟩
theorem RepF.scr {ns : List Int} (h : RepF K dl H v (.z ns) F) : ∃ a, v = .ref a ∧ FzL K H a (ns.map V.int) ∧ F = [] := by cases h with | z h => exact ⟨_, rfl, h, rfl⟩
theorem RepF.kst {ws : List Str} (h : RepF K dl H v (.k ws) F) : ∃ a, v = .ref a ∧ (∀ H', SqT K H' a (ws.map V.str)) ∧ F = [] := by cases h with | k h => exact ⟨_, rfl, h, rfl⟩
theorem RepFs.len : ∀ {vs : List V} {ts : List T} {F : List Addr}, RepFs K dl H vs ts F → vs.length = ts.length
  | _, _, _, .nil => rfl
  | _, _, _, .cons _ r => by simp [RepFs.len r]
theorem RepFk.len : ∀ {vs : List (Key × V)} {ts : List (Key × T)} {F : List Addr}, RepFk K dl H vs ts F → vs.length = ts.length
  | _, _, _, .nil => rfl
  | _, _, _, .cons _ r => by simp [RepFk.len r]
theorem RepFs.get : ∀ {vs : List V} {ts : List T} {F : List Addr} {i : Nat} {t : T}, RepFs K dl H vs ts F → ts[i]? = some t → ∃ v G, vs[i]? = some v ∧ RepF K dl H v t G ∧ ∀ b ∈ G, b ∈ F
  | _, _, _, _, _, .nil, h => by simp at h
  | _, _, _, 0, _, .cons h r, e => by
    simp at e
    subst e
    exact ⟨_, _, by simp, h, fun b hb => List.mem_append_left _ hb⟩
  | _, _, _, i + 1, t, .cons h r, e => by
    obtain ⟨v, G, h1, h2, h3⟩ := RepFs.get (i := i) (t := t) r (by simpa using e)
    exact ⟨v, G, by simpa using h1, h2, fun b hb => List.mem_append_right _ (h3 b hb)⟩
theorem RepFs.append : ∀ {vs ws : List V} {ts us : List T} {F G : List Addr}, RepFs K dl H vs ts F → RepFs K dl H ws us G → RepFs K dl H (vs ++ ws) (ts ++ us) (F ++ G)
  | _, _, _, _, _, _, .nil, h => h
  | _, _, _, _, _, _, .cons h r, h2 => by
    rw [List.append_assoc]
    exact .cons h (RepFs.append r h2)
theorem RepFs.nil_iff {vs : List V} {ts : List T} (h : RepFs K dl H vs ts F) : vs = [] ↔ ts = [] := by
  cases h with
  | nil => simp
  | cons _ _ => simp
theorem RepFs.drop : ∀ {vs : List V} {ts : List T} {F : List Addr} (n : Nat), RepFs K dl H vs ts F → ∃ G, RepFs K dl H (vs.drop n) (ts.drop n) G ∧ G.Sublist F
  | _, _, F, 0, h => ⟨F, h, List.Sublist.refl _⟩
  | _, _, _, _ + 1, .nil => ⟨[], .nil, List.Sublist.refl _⟩
  | _, _, _, n + 1, .cons (F := F1) h r => by
    obtain ⟨G, h1, h2⟩ := RepFs.drop n r
    exact ⟨G, h1, h2.trans (List.sublist_append_right _ _)⟩
theorem RepFs.take : ∀ {vs : List V} {ts : List T} {F : List Addr} (n : Nat), RepFs K dl H vs ts F → ∃ G, RepFs K dl H (vs.take n) (ts.take n) G ∧ G.Sublist F
  | _, _, F, 0, h => ⟨[], .nil, List.nil_sublist _⟩
  | _, _, _, _ + 1, .nil => ⟨[], .nil, List.Sublist.refl _⟩
  | _, _, _, n + 1, .cons (F := F1) h r => by
    obtain ⟨G, h1, h2⟩ := RepFs.take n r
    exact ⟨_, .cons h h1, h2.append_left _⟩
theorem RepFs.reverse : ∀ {vs : List V} {ts : List T} {F : List Addr}, RepFs K dl H vs ts F → ∃ G, RepFs K dl H vs.reverse ts.reverse G ∧ G.Perm F
  | _, _, _, .nil => ⟨[], .nil, .refl _⟩
  | _, _, _, .cons (F := F1) h r => by
    obtain ⟨G, h1, h2⟩ := RepFs.reverse r
    refine ⟨G ++ (F1 ++ []), ?_, ?_⟩
    · rw [List.reverse_cons, List.reverse_cons]
      exact h1.append (.cons h .nil)
    · rw [List.append_nil]
      exact (List.perm_append_comm).trans (h2.append_left _)
theorem Rp.sub {t : T} {F G : List Addr} (r : RepF K dl H v t G) (n : ∀ b ∈ F, Nd dl b) (h : ∀ b ∈ G, b ∈ F) : Rp K dl H v t G := ⟨r, fun b hb => n b (h b hb)⟩
theorem Rp.c {t : T} (r : RepF K dl H v t []) : Rp K dl H v t [] := ⟨r, fun _ z => nomatch z⟩
theorem Rps.tup {vs : List V} {ts : List T} {p : Addr} (h : Rps K dl H vs ts F) (D : Dls dl H) (hp : H p = none) : Rp K dl (upd H p (.tup vs)) (.ref p) (.t ts) F :=
  have h2 := h.evo D ((Evo.refl D).new (o := .tup vs) hp)
  ⟨.t upd_same h2.r, h2.n⟩
theorem Rps.lst {vs : List V} {ts : List T} {p : Addr} (h : Rps K dl H vs ts F) (D : Dls dl H) (hp : H p = none) : Rp K dl (upd H p (.lst vs)) (.ref p) (.l ts) (p :: F) :=
  have h2 := h.evo D ((Evo.refl D).new (o := .lst vs) hp)
  ⟨.l upd_same h2.r, fun b hb => by
    rcases List.mem_cons.mp hb with e | hb
    · rw [e]; exact D.nd0 hp
    · exact h2.n b hb⟩
theorem Rps.fresh {vs : List V} {ts : List T} {p : Addr} (h : Rps K dl H vs ts F) (hp : H p = none) (hn : F.Nodup) : (p :: F).Nodup := List.nodup_cons.mpr ⟨fun z => (by
  rcases h.r.there p z with ⟨_, e⟩ | ⟨_, e⟩
  · rw [hp] at e; cases e
  · rw [hp] at e; cases e), hn⟩
def qII (C : Int → Int → Prop) (g : Int → Int → T) : Q2 := fun t u Q => match t, u with
  | .i a, .i b => C a b ∧ Q (g a b)
  | _, _ => False
theorem sim_I {C : Int → Int → Prop} {g : Int → Int → V} {g' : Int → Int → T} (hg : ∀ a b dl H, RepF K dl H (g a b) (g' a b) []) : SimOF K (rI C g) (qII C g') := by
  intro dl H x y t u F G Q R D r1 r2 hq k
  unfold qII at hq
  split at hq
  · obtain ⟨rfl, rfl⟩ := r1.r.int
    obtain ⟨rfl, rfl⟩ := r2.r.int
    exact ⟨_, _, rfl, rfl, hq.1, k _ _ [] H (.refl D) (.c (hg _ _ _ _)) (fun _ z => nomatch z) List.nodup_nil hq.2⟩
  · exact hq.elim
def qI0 (g : Int → Int → T) : Q2 := fun t u Q => match t, u with
  | .i a, .i b => Q (g a b)
  | _, _ => False
theorem sim_I0 {g : Int → Int → V} {g' : Int → Int → T} (hg : ∀ a b dl H, RepF K dl H (g a b) (g' a b) []) : SimOF K (rI0 g) (qI0 g') := by
  intro dl H x y t u F G Q R D r1 r2 hq k
  unfold qI0 at hq
  split at hq
  · obtain ⟨rfl, rfl⟩ := r1.r.int
    obtain ⟨rfl, rfl⟩ := r2.r.int
    exact ⟨_, _, rfl, rfl, k _ _ [] H (.refl D) (.c (hg _ _ _ _)) (fun _ z => nomatch z) List.nodup_nil hq⟩
  · exact hq.elim
theorem op_catU : OpR X (binaryOp .Add) (fun x y H Q => ∃ a b xs ys, x = .ref a ∧ y = .ref b ∧ SqT X.K H a xs ∧ SqT X.K H b ys ∧ xs.length + ys.length ≤ sizeLine ∧
    (xs = [] → Q (.ref b) H) ∧ (xs ≠ [] → ys = [] → Q (.ref a) H) ∧ (xs ≠ [] → ys ≠ [] → ∀ p, H p = none → Q (.ref p) (upd H p (.tup (xs ++ ys))))) := by
  intro pins s σ H x y v u Q I rx ry h
  obtain ⟨a, b, xs, ys, rfl, rfl, ha, hb, hz, q0, q1, q2⟩ := h
  by_cases hx : xs = []
  · cases rx
    cases ry
    obtain ⟨its, r1, p1, _⟩ := I.tuple ha
    obtain ⟨its2, r2, p2, _⟩ := I.tuple hb
    have e : its = [] := r1.nil_iff.mpr hx
    subst e
    obtain ⟨⟨cls, dd, data, sl⟩, ho, hc, n, hd⟩ := id p1
    obtain ⟨⟨cls2, dd2, data2, sl2⟩, ho2, hc2, n2, hd2⟩ := id p2
    simp only at hc hd hc2 hd2
    subst hc hd hc2 hd2
    exact concat_meets ⟨_, ho, rfl⟩ ⟨_, ho2, rfl⟩ noFill_tuple_add seq_tuple_add PySem.F.slot_tuple_add PySem.F.entry_tuple_add (PySem.F.args_tuple_add_2 _ _)
      (tuple_addW0 a b ([] : List Value).toArray its2.toArray n n2 dd dd2 sl sl2 (by simp)) ⟨ho, ho2, ⟨.ref b, H, I, rfl, q0 hx⟩⟩
  · exact op_catT pins s σ H _ _ v u Q I rx ry ⟨a, b, xs, ys, rfl, rfl, ha, hb, hx, hz, q1 hx, q2 hx⟩
def rAdd4 (K : PySem.W.Frag) : R2 := fun x y H Q => rI0 (fun i j => .int (i + j)) x y H Q ∨ (∃ i j, x = .str i ∧ y = .str j ∧ i.length + j.length ≤ sizeLine ∧ Q (.str (i ++ j)) H) ∨ rCat x y H Q ∨
  (∃ a b xs ys, x = .ref a ∧ y = .ref b ∧ SqT K H a xs ∧ SqT K H b ys ∧ xs.length + ys.length ≤ sizeLine ∧
    (xs = [] → Q (.ref b) H) ∧ (xs ≠ [] → ys = [] → Q (.ref a) H) ∧ (xs ≠ [] → ys ≠ [] → ∀ p, H p = none → Q (.ref p) (upd H p (.tup (xs ++ ys)))))
theorem op_add4 (hK : X.K = K) : OpR X (binaryOp .Add) (rAdd4 K) := by subst hK; exact op_add.or (op_add_str.or (op_cat.or op_catU))
def qAdd : Q2 := fun t u Q => match t, u with
  | .i a, .i b => Q (.i (a + b))
  | .s a, .s b => a.length + b.length ≤ sizeLine ∧ Q (.s (a ++ b))
  | .l a, .l b => a.length + b.length ≤ sizeLine ∧ T.ims a = true ∧ T.ims b = true ∧ Q (.l (a ++ b))
  | .t a, .t b => a.length + b.length ≤ sizeLine ∧ T.ims a = true ∧ T.ims b = true ∧ Q (.t (a ++ b))
  | _, _ => False
theorem sim_add : SimOF K (rAdd4 K) qAdd := by
  intro dl H x y t u F G Q R D r1 r2 hq k
  have no : ∀ b : Addr, b ∈ ([] : List Addr) → H b = none := fun _ z => nomatch z
  unfold qAdd at hq
  split at hq
  · obtain ⟨rfl, rfl⟩ := r1.r.int
    obtain ⟨rfl, rfl⟩ := r2.r.int
    exact .inl ⟨_, _, rfl, rfl, k _ _ [] H (.refl D) (.c (.i _)) no List.nodup_nil hq⟩
  · obtain ⟨rfl, rfl⟩ := r1.r.str
    obtain ⟨rfl, rfl⟩ := r2.r.str
    exact .inr (.inl ⟨_, _, rfl, rfl, hq.1, k _ _ [] H (.refl D) (.c (.s _)) no List.nodup_nil hq.2⟩)
  · obtain ⟨a, vs, F1, rfl, rfl, h1, s1⟩ := r1.r.lst
    obtain ⟨b, ws, G1, rfl, rfl, h2, s2⟩ := r2.r.lst
    obtain rfl := s1.im hq.2.1
    obtain rfl := s2.im hq.2.2.1
    refine .inr (.inr (.inl ⟨a, b, vs, ws, rfl, rfl, h1, h2, by rw [s1.len, s2.len]; exact hq.1, fun p hp => ?_⟩))
    have rs : Rps K dl H (vs ++ ws) _ ([] ++ []) := ⟨s1.append s2, fun c hc => nomatch hc⟩
    exact k _ _ _ _ ((Evo.refl D).new hp) (rs.lst D hp) (fun b hb => by rw [List.mem_singleton.mp hb]; exact hp) (by simp) hq.2.2.2
  · obtain ⟨a, vs, rfl, h1, s1⟩ := r1.r.tup
    obtain ⟨b, ws, rfl, h2, s2⟩ := r2.r.tup
    obtain rfl := s1.im hq.2.1
    obtain rfl := s2.im hq.2.2.1
    refine .inr (.inr (.inr ⟨a, b, vs, ws, rfl, rfl, SqT.of h1, SqT.of h2, by rw [s1.len, s2.len]; exact hq.1, fun e => ?_, fun e1 e2 => ?_, fun _ _ p hp => ?_⟩))
    · refine k _ _ [] H (.refl D) r2 no List.nodup_nil ?_
      have z := s1.nil_iff.mp e
      subst z
      exact hq.2.2.2
    · refine k _ _ [] H (.refl D) r1 no List.nodup_nil ?_
      have z := s2.nil_iff.mp e2
      subst z
      have hq2 := hq.2.2.2
      rw [List.append_nil] at hq2
      exact hq2
    · have rs : Rps K dl H (vs ++ ws) _ ([] ++ []) := ⟨s1.append s2, fun c hc => nomatch hc⟩
      exact k _ _ _ _ ((Evo.refl D).new hp) (rs.tup D hp) no List.nodup_nil hq.2.2.2
  · exact hq.elim
def qMul : Q2 := fun t u Q => match t, u with
  | .i a, .i b => CMul a b ∧ Q (.i (a * b))
  | .s a, .i b => 0 ≤ b ∧ b ≤ 1000 ∧ a.length ≤ 1000 ∧ Q (.s (repS a b.toNat))
  | _, _ => False
def rMul2 : R2 := fun x y H Q => rI CMul (fun i j => .int (i * j)) x y H Q ∨ (∃ z n, x = .str z ∧ y = .int n ∧ 0 ≤ n ∧ n ≤ 1000 ∧ z.length ≤ 1000 ∧ Q (.str (repS z n.toNat)) H)
theorem op_mul2 : OpR X (binaryOp .Mult) rMul2 := op_mul.or op_rep_str
theorem sim_mul : SimOF K rMul2 qMul := by
  intro dl H x y t u F G Q R D r1 r2 hq k
  unfold qMul at hq
  split at hq
  · obtain ⟨rfl, rfl⟩ := r1.r.int
    obtain ⟨rfl, rfl⟩ := r2.r.int
    exact .inl ⟨_, _, rfl, rfl, hq.1, k _ _ [] H (.refl D) (.c (.i _)) (fun _ z => nomatch z) List.nodup_nil hq.2⟩
  · obtain ⟨rfl, rfl⟩ := r1.r.str
    obtain ⟨rfl, rfl⟩ := r2.r.int
    exact .inr ⟨_, _, rfl, rfl, hq.1, hq.2.1, hq.2.2.1, k _ _ [] H (.refl D) (.c (.s _)) (fun _ z => nomatch z) List.nodup_nil hq.2.2.2⟩
  · exact hq.elim
end
section
variable {X : Cx} {K : PySem.W.Frag} {a b : Expr} {ta tb : TE} {qa qb : QE} {pos : Pos}
theorem qe_add (ha : QPE X K a ta qa) (hb : QPE X K b tb qb) (hK : X.K = K := by rfl) : QPF X K (.BinOp a .Add b pos) (tOp (rAdd4 K) ta tb) (qOp qAdd qa qb) := qe_opF (op_add4 hK) sim_add ha hb
theorem qe_sub (ha : QPE X K a ta qa) (hb : QPE X K b tb qb) : QPF X K (.BinOp a .Sub b pos) (tOp (rI0 fun i j => .int (i - j)) ta tb) (qOp (qI0 fun i j => .i (i - j)) qa qb) := qe_opF op_sub (sim_I0 fun _ _ _ _ => .i _) ha hb
theorem qe_mul (ha : QPE X K a ta qa) (hb : QPE X K b tb qb) : QPF X K (.BinOp a .Mult b pos) (tOp rMul2 ta tb) (qOp qMul qa qb) := qe_opF op_mul2 sim_mul ha hb
theorem qe_mod (ha : QPE X K a ta qa) (hb : QPE X K b tb qb) : QPF X K (.BinOp a .Mod b pos) (tOp (rI (fun _ j => 0 < j) fun i j => .int (i % j)) ta tb) (qOp (qII (fun _ j => 0 < j) fun i j => .i (i % j)) qa qb) := qe_opF op_mod (sim_I fun _ _ _ _ => .i _) ha hb
theorem qe_fdiv (ha : QPE X K a ta qa) (hb : QPE X K b tb qb) : QPF X K (.BinOp a .FloorDiv b pos) (tOp (rI CDivB fun i j => .int (i / j)) ta tb) (qOp (qII CDivB fun i j => .i (i / j)) qa qb) := qe_opF op_fdivB (sim_I fun _ _ _ _ => .i _) ha hb
end
end L2
namespace L2
open PySem PySem.Spec PyProof.Rows
section
variable {X : Cx} {K : PySem.W.Frag} {a b c e : Expr} {es rest : List Expr} {ta tb tc te : TE} {qa qb qc qe : QE} {tA tB : TT} {qA qB : QT} {tl : TA} {ql : QA} {pos : Pos}
def T.v : T → V
  | .n => .non | .b x => .bl x | .i x => .int x | .s x => .str x | _ => .ty ""
def T.fl : T → Bool
  | .n => true | .b _ => true | .i _ => true | .s _ => true | _ => false
theorem RepF.v {dl : Dl} {H : Hp} {v : V} {t : T} {F : List Addr} (h : RepF K dl H v t F) (f : t.fl = true) : v = t.v ∧ F = [] := by
  cases h <;> first | exact ⟨rfl, rfl⟩ | exact absurd (show false = true from f) Bool.false_ne_true
def qEq : Q2 := fun t u Q => (t.fl && u.fl && scal t.v u.v) = true ∧ Q (.b (decide (t.v = u.v)))
def qNe : Q2 := fun t u Q => (t.fl && u.fl && scal t.v u.v) = true ∧ Q (.b (!decide (t.v = u.v)))
theorem sim_eq : SimOF K rEq qEq := by
  intro dl H x y t u F G Q R D r1 r2 hq k
  obtain ⟨h, hq⟩ := hq
  rw [Bool.and_eq_true, Bool.and_eq_true] at h
  obtain ⟨rfl, rfl⟩ := r1.r.v h.1.1
  obtain ⟨rfl, rfl⟩ := r2.r.v h.1.2
  exact ⟨h.2, k _ _ [] H (.refl D) (.c (.b _)) (fun _ z => nomatch z) List.nodup_nil hq⟩
theorem sim_ne : SimOF K rNe qNe := by
  intro dl H x y t u F G Q R D r1 r2 hq k
  obtain ⟨h, hq⟩ := hq
  rw [Bool.and_eq_true, Bool.and_eq_true] at h
  obtain ⟨rfl, rfl⟩ := r1.r.v h.1.1
  obtain ⟨rfl, rfl⟩ := r2.r.v h.1.2
  exact ⟨h.2, k _ _ [] H (.refl D) (.c (.b _)) (fun _ z => nomatch z) List.nodup_nil hq⟩
def inT (x : T) (xs : List T) : Bool := xs.any fun y => eqV y.v x.v
def fls (xs : List T) : Bool := xs.all T.fl
theorem RepFs.vs {dl : Dl} {H : Hp} : ∀ {vs : List V} {ts : List T} {F : List Addr}, RepFs K dl H vs ts F → fls ts = true → vs = ts.map T.v ∧ F = []
  | _, _, _, .nil, _ => ⟨rfl, rfl⟩
  | _, _, _, .cons h r, f => by
    have f : (_ && _) = true := f
    rw [Bool.and_eq_true] at f
    obtain ⟨rfl, rfl⟩ := h.v f.1
    obtain ⟨rfl, rfl⟩ := RepFs.vs r f.2
    exact ⟨rfl, rfl⟩
theorem flat_v {ts : List T} (f : fls ts = true) : (ts.map T.v).all flatV = true := by
  rw [List.all_eq_true]
  intro x hx
  obtain ⟨t, ht, rfl⟩ := List.mem_map.mp hx
  have := List.all_eq_true.mp f t ht
  cases t <;> first | rfl | exact absurd this Bool.false_ne_true
theorem flat_v1 {t : T} (f : t.fl = true) : flatV t.v = true := by cases t <;> first | rfl | exact absurd f Bool.false_ne_true
def rIn2 (K : PySem.W.Frag) (neg : Bool) : R2 := fun x y H Q => rIn K neg x y H Q ∨ ∃ i j, x = .str i ∧ y = .str j ∧ Q (.bl (if neg then !(!(Builtin.Str.occurrences j i 0 j.length 1).isEmpty) else !(Builtin.Str.occurrences j i 0 j.length 1).isEmpty)) H
theorem op_in2 (hK : X.K = K) : OpR X (compareOp .In) (rIn2 K false) := by subst hK; exact op_in_seq.or op_in_str
theorem op_notIn2 (hK : X.K = K) : OpR X (compareOp .NotIn) (rIn2 K true) := by subst hK; exact op_notIn_seq.or op_notin_str
def qIn (neg : Bool) : Q2 := fun t u Q => match u with
  | .l xs => (t.fl && fls xs) = true ∧ Q (.b (if neg then !inT t xs else inT t xs))
  | .t xs => (t.fl && fls xs) = true ∧ Q (.b (if neg then !inT t xs else inT t xs))
  | .k ws => match t with
    | .s y => Q (.b (if neg then !inT (.s y) (ws.map T.s) else inT (.s y) (ws.map T.s)))
    | _ => False
  | .s z => match t with
    | .s y => Q (.b (if neg then !(!(Builtin.Str.occurrences z y 0 z.length 1).isEmpty) else !(Builtin.Str.occurrences z y 0 z.length 1).isEmpty))
    | _ => False
  | _ => False
theorem sim_in {neg : Bool} : SimOF K (rIn2 K neg) (qIn neg) := by
  intro dl H x y t u F G Q R D r1 r2 hq k
  have go : ∀ (xs : List T) (p : Addr) (vs : List V), y = .ref p → (SqL K H p vs ∨ SqT K H p vs) → (∃ G, RepFs K dl H vs xs G) → (t.fl && fls xs) = true ∧ Q (.b (if neg then !inT t xs else inT t xs)) → rIn2 K neg x y H R := by
    rintro xs p vs rfl hs ⟨G, rs⟩ ⟨f, hq⟩
    rw [Bool.and_eq_true] at f
    obtain ⟨rfl, rfl⟩ := r1.r.v f.1
    obtain ⟨rfl, _⟩ := rs.vs f.2
    refine .inl ⟨p, _, rfl, hs, flat_v1 f.1, flat_v f.2, k _ (.b _) [] H (.refl D) (.c (.b _)) (fun _ z => nomatch z) List.nodup_nil ?_⟩
    have e : inV t.v (xs.map T.v) = inT t xs := by unfold inV inT; rw [List.any_map]; rfl
    rw [e]
    exact hq
  unfold qIn at hq
  split at hq
  · obtain ⟨p, vs, G, rfl, _, h1, h2⟩ := r2.r.lst
    exact go _ p vs rfl (.inl (SqL.of h1)) ⟨_, h2⟩ hq
  · obtain ⟨p, vs, rfl, h1, h2⟩ := r2.r.tup
    exact go _ p vs rfl (.inr (SqT.of h1)) ⟨_, h2⟩ hq
  · split at hq
    · obtain ⟨p, rfl, h1, _⟩ := r2.r.kst
      refine go _ p _ rfl (.inr (h1 H)) ⟨_, repFs_strs _⟩ ⟨?_, hq⟩
      rw [Bool.and_eq_true]
      refine ⟨rfl, ?_⟩
      unfold fls
      rw [List.all_map, List.all_eq_true]
      exact fun _ _ => rfl
    · exact hq.elim
  · split at hq
    · obtain ⟨rfl, rfl⟩ := r1.r.str
      obtain ⟨rfl, rfl⟩ := r2.r.str
      exact .inr ⟨_, _, rfl, rfl, k _ _ [] H (.refl D) (.c (.b _)) (fun _ z => nomatch z) List.nodup_nil hq⟩
    · exact hq.elim
  · exact hq.elim
theorem qe_cmp {op : CmpOp} {r : R2} {rq : Q2} (ho : OpR X (compareOp op) r) (hs : SimOF K r rq) (hm : behindInMarks op b = false) (ha : QPE X K a ta qa) (hb : QPE X K b tb qb) : QPF X K (.Compare a [op] [b] pos) (tOp r ta tb) (qOp rq qa qb) :=
  ⟨pe_cmpR ho ha.h hb.h hm, sim_opF hs ha.s hb.s⟩
def qTest (qe : QE) : QT := fun q Q => qe q fun t => match t with
  | .b x => Q x
  | _ => False
theorem sim_test (h : SimE K te qe) : SimT K (tTest te) (qTest qe) := by
  intro dl H σ q Q R rd hq k
  refine h dl H σ q _ _ rd hq fun v t F H' e r hz => ?_
  split at hz
  · obtain ⟨rfl, rfl⟩ := r.r.bl
    exact ⟨_, rfl, k _ H' e hz⟩
  · exact hz.elim
theorem qt_cmp {op : CmpOp} {r : R2} {rq : Q2} (ho : OpR X (compareOp op) r) (hs : SimOF K r rq) (hm : behindInMarks op b = false) (ha : QPE X K a ta qa) (hb : QPE X K b tb qb) : QPT X K (.Compare a [op] [b] pos) (tTest (tOp r ta tb)) (qTest (qOp rq qa qb)) :=
  ⟨pt_cmpR ho ha.h hb.h hm, sim_test (sim_op hs.w ha.s hb.s)⟩
def qTru (qe : QE) : QT := fun q Q => qe q fun t => match t with
  | .b x => Q x
  | .n => Q false
  | .i x => Q (x != 0)
  | .s x => x.length ≤ sizeLine ∧ Q ((x.length : Int) != 0)
  | .l xs => Q (!xs.isEmpty)
  | .t xs => Q (!xs.isEmpty)
  | .d xs => Q (!xs.isEmpty)
  | _ => False
theorem sim_tru (h : SimE K te qe) : SimT K (fun σ H Q => te σ H fun x H' => ∃ k, TruV K x H' k ∧ Q k H') (qTru qe) := by
  intro dl H σ q Q R rd hq k
  refine h dl H σ q _ _ rd hq fun v t F H' e r hz => ?_
  have emp : ∀ {α β : Type} {xs : List α} {ys : List β}, xs.length = ys.length → (!xs.isEmpty) = !ys.isEmpty := fun {α β xs ys} h => by
    cases xs <;> cases ys <;> first | rfl | (simp at h)
  split at hz
  · obtain ⟨rfl, rfl⟩ := r.r.bl; exact ⟨_, rfl, k _ H' e hz⟩
  · obtain ⟨rfl, rfl⟩ := r.r.non; exact ⟨_, rfl, k _ H' e hz⟩
  · obtain ⟨rfl, rfl⟩ := r.r.int; exact ⟨_, rfl, k _ H' e hz⟩
  · obtain ⟨rfl, rfl⟩ := r.r.str; exact ⟨_, ⟨hz.1, rfl⟩, k _ H' e hz.2⟩
  · obtain ⟨p, vs, G, rfl, _, h1, h2⟩ := r.r.lst
    exact ⟨_, .inl ⟨vs, SqL.of h1, rfl⟩, k _ H' e (by rw [emp h2.len]; exact hz)⟩
  · obtain ⟨p, vs, rfl, h1, h2⟩ := r.r.tup
    exact ⟨_, .inr (.inl ⟨vs, SqT.of h1, rfl⟩), k _ H' e (by rw [emp h2.len]; exact hz)⟩
  · obtain ⟨p, vs, G, rfl, _, h1, h2⟩ := r.r.dic
    exact ⟨_, .inr (.inr ⟨vs, h1, rfl⟩), k _ H' e (by rw [emp h2.len]; exact hz)⟩
  · exact hz.elim
theorem qt_truth (h : QPE X K e te qe) (he : ∀ whole, isTrue e X.env whole = (do let v ← whole; standAt e.pos; holding [v] (truthy v)) := by intro _; rfl) (hK : X.K = K := by rfl) :
    QPT X K e (fun σ H Q => te σ H fun x H' => ∃ k, TruV K x H' k ∧ Q k H') (qTru qe) := ⟨by subst hK; exact pt_truth h.h he, sim_tru h.s⟩
def qNot (t : QT) : QT := fun q Q => t q fun c => Q (!c)
def qAnd (t u : QT) : QT := fun q Q => t q fun c => if c = true then u q Q else Q false
def qOr (t u : QT) : QT := fun q Q => t q fun c => if c = true then Q true else u q Q
theorem sim_not (h : SimT K tA qA) : SimT K (tNot tA) (qNot qA) := fun dl H σ q _ R rd hq k => h dl H σ q _ _ rd hq fun b H' e hz => k _ H' e hz
theorem sim_and (h : SimT K tA qA) (h2 : SimT K tB qB) : SimT K (tAnd tA tB) (qAnd qA qB) := fun dl H σ q Q R rd hq k => h dl H σ q _ _ rd hq fun b H' e hz => by
  cases b with
  | false => exact k _ H' e hz
  | true => exact h2 dl H' σ q Q R (rd.evo e) hz fun c H2 e2 z => k c H2 (e.trans e2) z
theorem sim_or (h : SimT K tA qA) (h2 : SimT K tB qB) : SimT K (tOr tA tB) (qOr qA qB) := fun dl H σ q Q R rd hq k => h dl H σ q _ _ rd hq fun b H' e hz => by
  cases b with
  | true => exact k _ H' e hz
  | false => exact h2 dl H' σ q Q R (rd.evo e) hz fun c H2 e2 z => k c H2 (e.trans e2) z
theorem qt_not (h : QPT X K a tA qA) : QPT X K (.UnaryOp .Not a pos) (tNot tA) (qNot qA) := ⟨pt_not h.h, sim_not h.s⟩
theorem qw_and1 (h : QPT X K a tA qA) : QPW X K (.BoolOp .And [a] pos) tA qA := ⟨pw_and1 h.h, h.s⟩
theorem qw_or1 (h : QPT X K a tA qA) : QPW X K (.BoolOp .Or [a] pos) tA qA := ⟨pw_or1 h.h, h.s⟩
theorem qw_and (h : QPT X K a tA qA) (h2 : QPW X K (.BoolOp .And (b :: rest) pos) tB qB) : QPW X K (.BoolOp .And (a :: b :: rest) pos) (tAnd tA tB) (qAnd qA qB) := ⟨pw_and h.h h2.h, sim_and h.s h2.s⟩
theorem qw_or (h : QPT X K a tA qA) (h2 : QPW X K (.BoolOp .Or (b :: rest) pos) tB qB) : QPW X K (.BoolOp .Or (a :: b :: rest) pos) (tOr tA tB) (qOr qA qB) := ⟨pw_or h.h h2.h, sim_or h.s h2.s⟩
theorem QPW.pt (h : QPW X K e tA qA) : QPT X K e tA qA := ⟨h.h.pt, h.s⟩
def qAndV (qa qb : QE) : QE := fun q Q => qa q fun t => match t with
  | .b c => if c = true then qb q Q else Q (.b false)
  | _ => False
def qNotV (qa : QE) : QE := fun q Q => qa q fun t => match t with
  | .b c => Q (.b (!c))
  | _ => False
theorem sim_andV (h : SimE K ta qa) (h2 : SimF K tb qb) : SimF K (tAndV ta tb) (qAndV qa qb) := fun dl H σ q Q R rd hq k => h dl H σ q _ _ rd hq fun v t F H' e r hz => by
  split at hz
  · rename_i c
    obtain ⟨rfl, rfl⟩ := r.r.bl
    refine ⟨c, rfl, ?_⟩
    cases c with
    | false => exact k _ _ [] H' e r (fun _ z => nomatch z) List.nodup_nil hz
    | true => exact h2 dl H' σ q Q R (rd.evo e) hz fun w u G H2 e2 r2 f2 n2 z => k w u G H2 (e.trans e2) r2 (fun b hb => e.free (f2 b hb)) n2 z
  · exact hz.elim
theorem sim_notV (h : SimE K ta qa) : SimF K (tNotV ta) (qNotV qa) := fun dl H σ q Q R rd hq k => h dl H σ q _ _ rd hq fun v t F H' e r hz => by
  split at hz
  · rename_i c
    obtain ⟨rfl, rfl⟩ := r.r.bl
    exact ⟨c, rfl, k _ _ [] H' e (.c (.b _)) (fun _ z => nomatch z) List.nodup_nil hz⟩
  · exact hz.elim
theorem qe_one {op} (h : QPF X K a ta qa) : QPF X K (.BoolOp op [a] pos) ta qa := ⟨pe_one h.h, h.s⟩
theorem qe_and (ha : QPE X K a ta qa) (hb : QPF X K (.BoolOp .And (b :: rest) pos) tb qb) : QPF X K (.BoolOp .And (a :: b :: rest) pos) (tAndV ta tb) (qAndV qa qb) := ⟨pe_and ha.h hb.h, sim_andV ha.s hb.s⟩
theorem qe_not (ha : QPE X K a ta qa) : QPF X K (.UnaryOp .Not a pos) (tNotV ta) (qNotV qa) := ⟨pe_not ha.h, sim_notV ha.s⟩
theorem qe_neg (ha : QPE X K a ta qa) : QPF X K (.UnaryOp .USub a pos) (tUn (rU fun i => .int (-i)) ta) (fun q Q => qa q fun t => match t with | .i x => Q (.i (-x)) | _ => False) := ⟨pe_un un_neg ha.h, fun dl H σ q Q R rd hq k => ha.s dl H σ q _ _ rd hq fun v t F H' e r hz => by
  split at hz
  · obtain ⟨rfl, rfl⟩ := r.r.int
    exact ⟨_, rfl, k _ _ [] H' e (.c (.i _)) (fun _ z => nomatch z) List.nodup_nil hz⟩
  · exact hz.elim⟩
def qNil : QA := fun _ Q => Q []
def qCons (qa : QE) (ql : QA) : QA := fun q Q => qa q fun t => ql q fun ts => Q (t :: ts)
theorem qa_nil : QPAF X K [] tNil qNil := ⟨pa_nil, fun dl H σ q Q R rd hq k => k [] [] [] H (.refl rd.d) ⟨.nil, fun _ z => nomatch z⟩ rfl (fun _ z => nomatch z) List.nodup_nil hq⟩
theorem QPAF.w (h : QPAF X K es tl ql) : QPA X K es tl ql := ⟨h.h, fun dl H σ q Q R rd hq k => h.s dl H σ q Q R rd hq fun vs ts F H' e r l _ _ z => k vs ts F H' e r l z⟩
theorem Rps.cons {dl : Dl} {H : Hp} {v : V} {t : T} {vs : List V} {ts : List T} {F G : List Addr} (h : Rp K dl H v t F) (r : Rps K dl H vs ts G) : Rps K dl H (v :: vs) (t :: ts) (F ++ G) := ⟨.cons h.r r.r, fun b hb => (List.mem_append.mp hb).elim (h.n b) (r.n b)⟩
theorem qa_cons (ha : QPE X K e te qe) (hr : QPA X K es tl ql) (hs : starEach (e :: es) X.env = (false, eval e X.env) :: starEach es X.env := by rfl) : QPA X K (e :: es) (tCons te tl) (qCons qe ql) :=
  ⟨pa_cons ha.h hr.h hs, fun dl H σ q Q R rd hq k => ha.s dl H σ q _ _ rd hq fun v t F H1 e1 r1 hz => hr.s dl H1 σ q _ _ (rd.evo e1) hz fun vs ts G H2 e2 r2 l2 z => k _ _ _ H2 (e1.trans e2) (.cons (r1.evo e1.d e2) r2) (by simp [l2]) z⟩
theorem qa_consF (ha : QPF X K e te qe) (hr : QPAF X K es tl ql) (hs : starEach (e :: es) X.env = (false, eval e X.env) :: starEach es X.env := by rfl) : QPAF X K (e :: es) (tCons te tl) (qCons qe ql) :=
  ⟨pa_cons ha.h hr.h hs, fun dl H σ q Q R rd hq k => ha.s dl H σ q _ _ rd hq fun v t F H1 e1 r1 f1 n1 hz => hr.s dl H1 σ q _ _ (rd.evo e1) hz fun vs ts G H2 e2 r2 l2 f2 n2 z =>
    k _ _ _ H2 (e1.trans e2) (.cons (r1.evo e1.d e2) r2) (by simp [l2]) (fun b hb => (List.mem_append.mp hb).elim (f1 b) fun hb => e1.free (f2 b hb)) (List.nodup_append.mpr ⟨n1, n2, fun x hx y hy exy => by
      subst exy
      have z := f2 x hy
      rcases r1.r.there x hx with ⟨_, e⟩ | ⟨_, e⟩
      · rw [z] at e; cases e
      · rw [z] at e; cases e⟩) z⟩
def qTup (ql : QA) : QE := fun q Q => ql q fun ts => Q (.t ts)
def qLst (ql : QA) : QE := fun q Q => ql q fun ts => Q (.l ts)
theorem qe_tup {x1} (h : QPAF X K es tl ql) (hz : es.length ≤ 1000 := by decide) : QPF X K (.Tuple es x1 pos) (tTup tl) (qTup ql) := ⟨pe_tup h.h, fun dl H σ q Q R rd hq k => h.s dl H σ q _ _ rd hq fun vs ts F H1 e1 r1 l1 f1 n1 z =>
  ⟨Nat.le_of_lt (small1000 (by omega)), fun p hp => k _ _ F _ (e1.new hp) (r1.tup e1.d hp) f1 n1 z⟩⟩
theorem qe_lst (h : QPAF X K es tl ql) (hz : es.length ≤ 1000 := by decide) : QPF X K (.List es pos) (tLst tl) (qLst ql) := ⟨pe_lst h.h, fun dl H σ q Q R rd hq k => h.s dl H σ q _ _ rd hq fun vs ts F H1 e1 r1 l1 f1 n1 z =>
  ⟨Nat.le_of_lt (small1000 (by omega)), fun p hp => k _ _ (p :: F) _ (e1.new hp) (r1.lst e1.d hp) (fun b hb => by
    rcases List.mem_cons.mp hb with e | hb
    · rw [e]; exact e1.free hp
    · exact f1 b hb) (r1.fresh hp n1) z⟩⟩
theorem qa_strs {ws : List Str} (h : strsOf es = some ws) (hl : es.length = ws.length := by rfl) : QPAF X K es (fun _ H Q => Q (ws.map V.str) H) (fun _ Q => Q (ws.map T.s)) :=
  ⟨pa_strs h, fun dl H σ q Q R rd hq k => k _ _ [] H (.refl rd.d) ⟨repFs_strs ws, fun _ z => nomatch z⟩ (by rw [List.length_map]; exact hl.symm) (fun _ z => nomatch z) List.nodup_nil hq⟩
def qIx : Q2 := fun t u Q => match u with
  | .i k => match t with
    | .l xs => ∃ x, atI xs k = some x ∧ Q x
    | .t xs => ∃ x, atI xs k = some x ∧ Q x
    | .z ns => ∃ x, atI ns k = some x ∧ Q (.i x)
    | .s z => z.length ≤ sizeLine ∧ ∃ c, atI z.cps.toList k = some c ∧ Q (.s ⟨#[c]⟩)
    | _ => False
  | _ => False
theorem atI_len {α β : Type} {xs : List α} {ys : List β} {k : Int} {x : α} (h : atI xs k = some x) (hl : xs.length = ys.length) : ∃ j : Nat, xs[j]? = some x ∧ ixN ys.length k = some j := by
  unfold atI at h
  cases e : ixN xs.length k with
  | none => rw [e] at h; cases h
  | some j => rw [e] at h; exact ⟨j, h, by rw [← hl]; exact e⟩
theorem atI_of {α : Type} {xs : List α} {k : Int} {j : Nat} {x : α} (h : ixN xs.length k = some j) (hx : xs[j]? = some x) : atI xs k = some x := by unfold atI; rw [h]; exact hx
theorem sim_ix : SimO K (rIx K) qIx := by
  intro dl H x y t u F G Q R D r1 r2 hq k
  unfold qIx at hq
  split at hq
  · rename_i k0
    obtain ⟨rfl, rfl⟩ := r2.r.int
    split at hq
    · obtain ⟨p, vs, G, rfl, rfl, h1, h2⟩ := r1.r.lst
      obtain ⟨z, hz, hq⟩ := hq
      obtain ⟨j, hj, hi⟩ := atI_len hz h2.len.symm
      obtain ⟨v, G', hv, rv, hs⟩ := h2.get hj
      exact .inl ⟨p, vs, k0, v, rfl, rfl, SqL.of h1, atI_of hi hv, k v z G' H (.refl D) (Rp.sub rv r1.n fun b hb => List.mem_cons_of_mem _ (hs b hb)) hq⟩
    · obtain ⟨p, vs, rfl, h1, h2⟩ := r1.r.tup
      obtain ⟨z, hz, hq⟩ := hq
      obtain ⟨j, hj, hi⟩ := atI_len hz h2.len.symm
      obtain ⟨v, G', hv, rv, hs⟩ := h2.get hj
      exact .inr (.inl ⟨p, vs, k0, v, rfl, rfl, SqT.of h1, atI_of hi hv, k v z G' H (.refl D) (Rp.sub rv r1.n hs) hq⟩)
    · obtain ⟨p, rfl, h1, _⟩ := r1.r.scr
      obtain ⟨z, hz, hq⟩ := hq
      refine .inl ⟨p, _, k0, .int z, rfl, rfl, h1.sq, ?_, k _ _ [] H (.refl D) (.c (.i _)) hq⟩
      obtain ⟨j, hj, hi⟩ := atI_len (ys := (_ : List Int).map V.int) hz (by rw [List.length_map])
      exact atI_of hi (by rw [List.getElem?_map, hj]; rfl)
    · obtain ⟨rfl, rfl⟩ := r1.r.str
      obtain ⟨hl, c, hc, hq⟩ := hq
      exact .inr (.inr ⟨_, k0, c, rfl, rfl, hl, hc, k _ _ [] H (.refl D) (.c (.s _)) hq⟩)
    · exact hq.elim
  · exact hq.elim
theorem qe_ix (ha : QPE X K a ta qa) (hb : QPE X K b tb qb) (hs : PlainIx b := by intro _ _; rfl) (hK : X.K = K := by rfl) : QPE X K (.Subscript a b pos) (tOp (rIx K) ta tb) (qOp qIx qa qb) := ⟨by subst hK; exact pe_ix ix_seq ha.h hb.h hs, sim_op sim_ix ha.s hb.s⟩
end
end L2
namespace L2
open PySem PySem.Spec PyProof.Rows
section
variable {X : Cx} {K : PySem.W.Frag} {a b c e : Expr} {es rest : List Expr} {ta tb tc te : TE} {qa qb qc qe : QE} {tA tB : TT} {qA qB : QT} {tl : TA} {ql : QA} {pos p : Pos} {x : Str}
abbrev QO := Sq → (Option Int → Prop) → Prop
def SimP (K : PySem.W.Frag) (t : TO) (tq : QO) : Prop := ∀ (dl : Dl) (H : Hp) (σ : St) (q : Sq) (Q : Option Int → Prop) (R : Option Int → Hp → Prop), RdR K dl H σ q → tq q Q → (∀ o H', Evo dl H H' → Q o → R o H') → t σ H R
structure QPO (X : Cx) (K : PySem.W.Frag) (e : Option Expr) (t : TO) (tq : QO) : Prop where
  h : PO X e t
  s : SimP K t tq
theorem qo_none : QPO X K none tNoPart (fun _ Q => Q none) := ⟨po_none, fun _ _ _ _ _ _ rd hq k => k none _ (.refl rd.d) hq⟩
theorem qo_some (h : QPE X K e te qe) : QPO X K (some e) (tPart te) (fun q Q => qe q fun t => match t with | .i x => Q (some x) | _ => False) := ⟨po_some h.h, fun dl H σ q Q R rd hq k => h.s dl H σ q _ _ rd hq fun v t F H' e r hz => by
  split at hz
  · obtain ⟨rfl, rfl⟩ := r.r.int
    exact ⟨_, rfl, k _ H' e hz⟩
  · exact hz.elim⟩
def cutT {α : Type} (xs : List α) (lo hi : Option Int) : List α := (xs.drop (HT.sIx xs.length 0 lo)).take (HT.sIx xs.length xs.length hi - HT.sIx xs.length 0 lo)
theorem RepFs.cut {dl : Dl} {H : Hp} {vs : List V} {ts : List T} {F : List Addr} (lo hi : Option Int) (h : RepFs K dl H vs ts F) : ∃ G, RepFs K dl H (cutV vs lo hi) (cutT ts lo hi) G ∧ G.Sublist F := by
  unfold cutV cutT
  rw [h.len]
  obtain ⟨G, h1, s1⟩ := h.drop (HT.sIx ts.length 0 lo)
  obtain ⟨G2, h2, s2⟩ := h1.take (HT.sIx ts.length ts.length hi - HT.sIx ts.length 0 lo)
  exact ⟨G2, h2, s2.trans s1⟩
theorem getItem_tuple_whole {prog : Program} {w : World} {A : Around} {E : Value → Shared → Prop} {s : Shared} {t sl : Addr} {items : Array Value} {vl vu : Value} {lo hi : Option Int} {Q : Value → Shared → Prop} (ht : IsTup s.heap t items) (hs : s.heap.IsSliceOf sl vl vu .none) (pl : IsPart vl lo) (pu : IsPart vu hi)
    (hw : HT.sIx items.size 0 lo = 0 ∧ HT.sIx items.size items.size hi = items.size)
    (h : Q (.ref t) s) : wpAny (model prog w) A (getItem (.ref t) (.ref sl)) Q E s := by
  obtain ⟨os, hos, hcs, hds⟩ := id hs
  have hTs : s.TypeIs (.ref sl) "slice" := ⟨os, hos, hcs⟩
  have hT := ht.typeIs
  unfold getItem
  try with_reducible refine wpAny_holding ?_
  first | refine wpAny_bind (wpAny_pure ?_) | skip
  refine wpAny_bind (wpAny_sequenceKey ht.typeIs (by decide) ?_)
  refine wpAny_bind (wpAny_callSpecial?_slot (name := Str.ofString "__getitem__") ht.typeIs PyProof.Rows.slot_tuple_getitem
    (wpAny_call_entry PyProof.Rows.slot_tuple_getitem ht.typeIs entry_tuple_getitem ?_ (args_tuple_getitem _ _)))
  show wpAny _ _ (Builtin.Tuple.tupleItemsOf (.ref t) >>= _) _ _ s
  refine wpAny_bind (tupleItemsOf_ ht ?_)
  refine wpAny_bind (wpAny_typeOf hTs ?_)
  rw [if_pos (by decide)]
  refine wpAny_bind (HT.sliceApplied_gen hs pl pu ?_)
  have hy : (((HT.sIx items.size 0 lo : Nat) : Int) == 0 && (1 : Int) == 1 && (HT.sIx items.size items.size hi - HT.sIx items.size 0 lo) == items.size) = true := by
    rw [hw.1, hw.2]; simp
  show wpAny _ _ (if (((HT.sIx items.size 0 lo : Nat) : Int) == 0 && (1 : Int) == 1 && (HT.sIx items.size items.size hi - HT.sIx items.size 0 lo) == items.size) = true then _ else _) _ _ s
  rw [if_pos hy]
  unfold Builtin.Tuple.tupleIsExact
  first
    | exact wpAny_bind (wpAny_bind (wpAny_typeOf hT (wpAny_pure (by rw [if_pos (by decide)]; exact wpAny_bind (wpAny_rule (wpAny_pure ⟨_, rfl, wpAny_pure h⟩))))))
    | exact wpAny_bind (wpAny_typeOf hT (by rw [if_pos (by decide)]; exact wpAny_bind (wpAny_rule (wpAny_pure ⟨_, rfl, wpAny_pure h⟩))))
def rSlU (K : PySem.W.Frag) : V → Option Int → Option Int → Hp → VK → Prop := fun x lo hi H Q => ∃ a xs, x = .ref a ∧ SqT K H a xs ∧
  ((HT.sIx xs.length 0 lo = 0 ∧ HT.sIx xs.length xs.length hi = xs.length) → Q (.ref a) H) ∧ (¬ (HT.sIx xs.length 0 lo = 0 ∧ HT.sIx xs.length xs.length hi = xs.length) → ∀ p, H p = none → Q (.ref p) (upd H p (.tup (cutV xs lo hi))))
theorem sl_tupU : SlR X (rSlU X.K) := by
  intro pins s σ H x v vl vu lo hi sl Q I rx hs pl pu h
  obtain ⟨a, xs, rfl, hx, q1, q2⟩ := h
  by_cases hw : HT.sIx xs.length 0 lo = 0 ∧ HT.sIx xs.length xs.length hi = xs.length
  · cases rx
    obtain ⟨its, r, ht, hz⟩ := I.tuple hx
    have hlen : its.toArray.size = xs.length := by rw [List.size_toArray]; exact r.length.symm
    exact ⟨"tuple", _, PyProof.Rows.slot_tuple_getitem.lookup, ht.typeIs, getItem_tuple_whole ht hs pl pu (by rw [hlen]; exact hw) ⟨.ref a, H, I, rfl, q1 hw⟩⟩
  · exact sl_tup pins s σ H _ v vl vu lo hi sl Q I rx hs pl pu ⟨a, xs, rfl, hx, hw, q2 hw⟩
theorem cut_whole {α : Type} {xs : List α} {lo hi : Option Int} (h : HT.sIx xs.length 0 lo = 0 ∧ HT.sIx xs.length xs.length hi = xs.length) : cutT xs lo hi = xs := by
  unfold cutT
  rw [h.1, h.2]
  simp
def rSl3 (K : PySem.W.Frag) : V → Option Int → Option Int → Hp → VK → Prop := fun x lo hi H Q => rSlL K x lo hi H Q ∨ rSlU K x lo hi H Q ∨ rSlS x lo hi H Q
theorem sl_3 (hK : X.K = K) : SlR X (rSl3 K) := by subst hK; exact sl_list.or (sl_tupU.or sl_str)
def qSl (qe : QE) (l u : QO) : QE := fun q Q => qe q fun t => l q fun lo => u q fun hi => match t with
  | .l xs => T.ims xs = true ∧ Q (.l (cutT xs lo hi))
  | .t xs => T.ims xs = true ∧ Q (.t (cutT xs lo hi))
  | .z ns => Q (.l ((cutT ns lo hi).map T.i))
  | .s z => z.length ≤ sizeLine ∧ Q (.s (Txt.slice z lo hi))
  | _ => False
theorem qe_slice {l u : Option Expr} {tlo thi : TO} {qlo qhi : QO} {p2 : Pos} (he : QPE X K e te qe) (hl : QPO X K l tlo qlo) (hu : QPO X K u thi qhi) (hK : X.K = K := by rfl) : QPF X K (.Subscript e (.Slice l u none p2) pos) (tSl (rSl3 K) te tlo thi) (qSl qe qlo qhi) :=
  ⟨pe_slice (sl_3 hK) he.h hl.h hu.h, fun dl H σ q Q R rd hq k => he.s dl H σ q _ _ rd hq fun v t F H1 e1 r1 hz => hl.s dl H1 σ q _ _ (rd.evo e1) hz fun lo H2 e2 hz => hu.s dl H2 σ q _ _ ((rd.evo e1).evo e2) hz fun hi H3 e3 hz => by
    have r3 := (r1.evo e1.d e2).evo e2.d e3
    have E3 := (e1.trans e2).trans e3
    have no : ∀ b : Addr, b ∈ ([] : List Addr) → H b = none := fun _ z => nomatch z
    split at hz
    · obtain ⟨p, vs, G, rfl, rfl, h1, h2⟩ := r3.r.lst
      obtain rfl := h2.im hz.1
      obtain ⟨G, h3, s3⟩ := h2.cut lo hi
      obtain rfl : G = [] := List.sublist_nil.mp s3
      refine .inl ⟨p, vs, rfl, SqL.of h1, fun p hp => ?_⟩
      have rs : Rps K dl H3 (cutV vs lo hi) _ [] := ⟨h3, fun c hc => nomatch hc⟩
      exact k _ _ _ _ (E3.new hp) (rs.lst e3.d hp) (fun b hb => by rw [List.mem_singleton.mp hb]; exact E3.free hp) (by simp) hz.2
    · obtain ⟨p, vs, rfl, h1, h2⟩ := r3.r.tup
      obtain rfl := h2.im hz.1
      obtain ⟨G, h3, s3⟩ := h2.cut lo hi
      obtain rfl : G = [] := List.sublist_nil.mp s3
      refine .inr (.inl ⟨p, vs, rfl, SqT.of h1, fun hw => ?_, fun _ p hp => ?_⟩)
      · refine k _ _ _ _ E3 r3 no List.nodup_nil ?_
        rw [h2.len] at hw
        have hq2 := hz.2
        rw [cut_whole hw] at hq2
        exact hq2
      · have rs : Rps K dl H3 (cutV vs lo hi) _ [] := ⟨h3, fun c hc => nomatch hc⟩
        exact k _ _ _ _ (E3.new hp) (rs.tup e3.d hp) no List.nodup_nil hz.2
    · rename_i ns _ _
      obtain ⟨p, rfl, h1, _⟩ := r3.r.scr
      refine .inl ⟨p, _, rfl, h1.sq, fun p hp => ?_⟩
      have e : cutV (ns.map V.int) lo hi = (cutT ns lo hi).map V.int := by unfold cutV cutT; rw [List.length_map, ← List.map_drop, ← List.map_take]
      rw [e]
      have rs : Rps K dl H3 ((cutT ns lo hi).map V.int) ((cutT ns lo hi).map T.i) [] := ⟨repFs_ints _, fun c hc => nomatch hc⟩
      exact k _ _ _ _ (E3.new hp) (rs.lst e3.d hp) (fun b hb => by rw [List.mem_singleton.mp hb]; exact E3.free hp) (by simp) hz
    · obtain ⟨rfl, rfl⟩ := r3.r.str
      exact .inr (.inr ⟨_, rfl, hz.1, k _ _ [] H3 E3 (.c (.s _)) no List.nodup_nil hz.2⟩)
    · exact hz.elim⟩
abbrev QC := List T → (T → Prop) → Prop
def SimC (K : PySem.W.Frag) (r : List V → Hp → VK → Prop) (rq : QC) : Prop := ∀ (dl : Dl) (H : Hp) (vs : List V) (ts : List T) (F : List Addr) (Q : T → Prop) (R : V → Hp → Prop), Dls dl H → Rps K dl H vs ts F → rq ts Q →
  (∀ v z F' H', Evo dl H H' → Rp K dl H' v z F' → (∀ b ∈ F', H b = none) → F'.Nodup → Q z → R v H') → r vs H R
def qCB (rq : QC) (ql : QA) : QE := fun q Q => ql q fun ts => rq ts Q
theorem sim_cb {n : Nat} {r : List V → Hp → VK → Prop} {rq : QC} (h : SimC K r rq) (hl : SimA K n tl ql) : SimF K (tCB r tl) (qCB rq ql) := fun dl H σ q Q R rd hq k => hl dl H σ q _ _ rd hq fun vs ts F H1 e1 r1 _ hz =>
  h dl H1 vs ts F Q R e1.d r1 hz fun v z F' H2 e2 r2 f2 n2 hz => k v z F' H2 (e1.trans e2) r2 (fun b hb => e1.free (f2 b hb)) n2 hz
theorem qe_callB {id : String} {r : List V → Hp → VK → Prop} {rq : QC} (hc : CallR X (.builtin id) r) (hs : SimC K r rq) (hg : Gl X x) (hm : X.mg x = none) (hv : bootBuiltins x = some (.builtin id)) (ha : QPA X K (e :: es) tl ql) (hn : x ≠ "__name__" := by decide) (hdb : (x == ("__debug__" : Str)) = false := by decide)
    (he : starEach (e :: es) X.env = (false, eval e X.env) :: starEach es X.env := by rfl) (hpl : (backTo pos (starEach es X.env)).any (·.1) = false := by rfl) : QPF X K (.Call (.Name x p) (e :: es) [] pos) (tCB r tl) (qCB rq ql) := ⟨pe_callB hc hg hm hv ha.h hn hdb he hpl, sim_cb hs ha.s⟩
theorem qe_callTy {id : String} {r : List V → Hp → VK → Prop} {rq : QC} (hc : CallR X (.type id) r) (hs : SimC K r rq) (hg : Gl X x) (hm : X.mg x = none) (hv : bootBuiltins x = some (.type id)) (ha : QPA X K (e :: es) tl ql) (hn : x ≠ "__name__" := by decide) (hdb : (x == ("__debug__" : Str)) = false := by decide)
    (he : starEach (e :: es) X.env = (false, eval e X.env) :: starEach es X.env := by rfl) (hpl : (backTo pos (starEach es X.env)).any (·.1) = false := by rfl) : QPF X K (.Call (.Name x p) (e :: es) [] pos) (tCB r tl) (qCB rq ql) := ⟨pe_callTy hc hg hm hv ha.h hn hdb he hpl, sim_cb hs ha.s⟩
theorem Rps.one {dl : Dl} {H : Hp} {vs : List V} {t : T} {F : List Addr} (h : Rps K dl H vs [t] F) : ∃ v, vs = [v] ∧ Rp K dl H v t F := by
  obtain ⟨r, n⟩ := h
  cases r with
  | cons r1 r2 =>
    cases r2
    rw [List.append_nil] at n
    rw [List.append_nil]
    exact ⟨_, rfl, r1, n⟩
theorem Rps.two {dl : Dl} {H : Hp} {vs : List V} {t u : T} {F : List Addr} (h : Rps K dl H vs [t, u] F) : ∃ v w F1 F2, vs = [v, w] ∧ Rp K dl H v t F1 ∧ Rp K dl H w u F2 := by
  obtain ⟨r, n⟩ := h
  cases r with
  | cons r1 r2 =>
    obtain ⟨w, rfl, h2⟩ := Rps.one ⟨r2, fun b hb => n b (List.mem_append_right _ hb)⟩
    exact ⟨_, w, _, _, rfl, ⟨r1, fun b hb => n b (List.mem_append_left _ hb)⟩, h2⟩
def rLen3 (K : PySem.W.Frag) : List V → Hp → VK → Prop := fun xs H Q => (∃ p ys, xs = [.ref p] ∧ (SqL K H p ys ∨ SqT K H p ys) ∧ Q (.int ys.length) H) ∨ (∃ z, xs = [.str z] ∧ z.length ≤ sizeLine ∧ Q (.int z.length) H) ∨ ∃ a kvs, xs = [V.ref a] ∧ H a = some (.dK kvs) ∧ Q (.int kvs.length) H
theorem call_len3 (hK : X.K = K) : CallR X (.builtin "len") (rLen3 K) := by subst hK; exact call_len_seq.or (call_len_str.or call_lenD)
def qLen : QC := fun ts Q => match ts with
  | [.l xs] => Q (.i xs.length)
  | [.t xs] => Q (.i xs.length)
  | [.z xs] => Q (.i xs.length)
  | [.d xs] => Q (.i xs.length)
  | [.s x] => x.length ≤ sizeLine ∧ Q (.i x.length)
  | _ => False
theorem sim_len : SimC K (rLen3 K) qLen := by
  intro dl H vs ts F Q R D r hq k
  have fin : ∀ n : Nat, Q (.i n) → R (.int n) H := fun n hq => k _ _ [] H (.refl D) (.c (.i _)) (fun _ z => nomatch z) List.nodup_nil hq
  unfold qLen at hq
  split at hq
  · obtain ⟨v, rfl, r'⟩ := r.one
    obtain ⟨p, vs, G, rfl, _, h1, h2⟩ := r'.r.lst
    exact .inl ⟨p, vs, rfl, .inl (SqL.of h1), fin _ (by rw [h2.len]; exact hq)⟩
  · obtain ⟨v, rfl, r'⟩ := r.one
    obtain ⟨p, vs, rfl, h1, h2⟩ := r'.r.tup
    exact .inl ⟨p, vs, rfl, .inr (SqT.of h1), fin _ (by rw [h2.len]; exact hq)⟩
  · obtain ⟨v, rfl, r'⟩ := r.one
    obtain ⟨p, rfl, h1, _⟩ := r'.r.scr
    exact .inl ⟨p, _, rfl, .inl h1.sq, fin _ (by rw [List.length_map]; exact hq)⟩
  · obtain ⟨v, rfl, r'⟩ := r.one
    obtain ⟨p, vs, G, rfl, _, h1, h2⟩ := r'.r.dic
    exact .inr (.inr ⟨p, vs, rfl, h1, fin _ (by rw [h2.len]; exact hq)⟩)
  · obtain ⟨v, rfl, r'⟩ := r.one
    obtain ⟨rfl, _⟩ := r'.r.str
    exact .inr (.inl ⟨_, rfl, hq.1, fin _ hq.2⟩)
  · exact hq.elim
def qI2 (g : Int → Int → Int) : QC := fun ts Q => match ts with
  | [.i a, .i b] => Q (.i (g a b))
  | _ => False
theorem sim_i2 {g : Int → Int → Int} : SimC K (fun xs H Q => ∃ i j, xs = [.int i, .int j] ∧ Q (.int (g i j)) H) (qI2 g) := by
  intro dl H vs ts F Q R D r hq k
  unfold qI2 at hq
  split at hq
  · obtain ⟨v, w, F1, F2, rfl, r1, r2⟩ := r.two
    obtain ⟨rfl, _⟩ := r1.r.int
    obtain ⟨rfl, _⟩ := r2.r.int
    exact ⟨_, _, rfl, k _ _ [] H (.refl D) (.c (.i _)) (fun _ z => nomatch z) List.nodup_nil hq⟩
  · exact hq.elim
def qInt : QC := fun ts Q => match ts with
  | [.i a] => Q (.i a)
  | [.b k] => Q (.i (if k then 1 else 0))
  | _ => False
theorem sim_int : SimC K (fun xs H Q => (∃ i, xs = [.int i] ∧ Q (.int i) H) ∨ ∃ k, xs = [.bl k] ∧ Q (.int (if k then 1 else 0)) H) qInt := by
  intro dl H vs ts F Q R D r hq k
  unfold qInt at hq
  split at hq
  · obtain ⟨v, rfl, r'⟩ := r.one
    obtain ⟨rfl, _⟩ := r'.r.int
    exact .inl ⟨_, rfl, k _ _ [] H (.refl D) (.c (.i _)) (fun _ z => nomatch z) List.nodup_nil hq⟩
  · obtain ⟨v, rfl, r'⟩ := r.one
    obtain ⟨rfl, _⟩ := r'.r.bl
    exact .inr ⟨_, rfl, k _ _ [] H (.refl D) (.c (.i _)) (fun _ z => nomatch z) List.nodup_nil hq⟩
  · exact hq.elim
def qToTup : QC := fun ts Q => match ts with
  | [.l xs] => T.ims xs = true ∧ Q (.t xs)
  | [.t xs] => T.ims xs = true ∧ Q (.t xs)
  | _ => False
theorem call_tupK (hK : X.K = K) : CallR X (.type "tuple") (fun xs H Q => ∃ p ys, xs = [.ref p] ∧ ((SqL K H p ys ∧ ∀ l, H l = none → Q (.ref l) (upd H l (.tup ys))) ∨ (SqT K H p ys ∧ Q (.ref p) H))) := by subst hK; exact call_tuple_of
theorem sim_totup : SimC K (fun xs H Q => ∃ p ys, xs = [.ref p] ∧ ((SqL K H p ys ∧ ∀ l, H l = none → Q (.ref l) (upd H l (.tup ys))) ∨ (SqT K H p ys ∧ Q (.ref p) H))) qToTup := by
  intro dl H vs ts F Q R D r hq k
  have no : ∀ b : Addr, b ∈ ([] : List Addr) → H b = none := fun _ z => nomatch z
  unfold qToTup at hq
  split at hq
  · obtain ⟨v, rfl, r'⟩ := r.one
    obtain ⟨p, vs, G, rfl, rfl, h1, h2⟩ := r'.r.lst
    obtain rfl := h2.im hq.1
    refine ⟨p, vs, rfl, .inl ⟨SqL.of h1, fun l hl => ?_⟩⟩
    have rs : Rps K dl H vs _ [] := ⟨h2, fun c hc => nomatch hc⟩
    exact k _ _ _ _ ((Evo.refl D).new hl) (rs.tup D hl) no List.nodup_nil hq.2
  · obtain ⟨v, rfl, r'⟩ := r.one
    obtain ⟨p, vs, rfl, h1, h2⟩ := r'.r.tup
    obtain rfl := h2.im hq.1
    exact ⟨p, vs, rfl, .inr ⟨SqT.of h1, k _ _ [] H (.refl D) r' no List.nodup_nil hq.2⟩⟩
  · exact hq.elim
def bls : List T → Option (List Bool)
  | [] => some []
  | .b x :: r => (bls r).map (x :: ·)
  | _ => none
theorem RepFs.bls {dl : Dl} {H : Hp} : ∀ {vs : List V} {ts : List T} {F : List Addr} {bs : List Bool}, RepFs K dl H vs ts F → L2.bls ts = some bs → vs = bs.map V.bl
  | _, _, _, bs, .nil, h => by cases h; rfl
  | _, t :: ts, _, bs, .cons h r, q => by
    unfold L2.bls at q
    split at q
    · rename_i e; cases e
    · rename_i x r' e
      cases e
      obtain ⟨rfl, _⟩ := h.bl
      cases e2 : L2.bls ts with
      | none => rw [e2] at q; cases q
      | some bs' =>
        rw [e2] at q
        cases q
        rw [RepFs.bls r e2]
        rfl
    · cases q
theorem bls_map (bs : List Bool) : bls (bs.map T.b) = some bs := by
  induction bs with
  | nil => rfl
  | cons b r ih => show (bls (r.map T.b)).map (b :: ·) = _; rw [ih]; rfl
def qAll : QC := fun ts Q => match ts with
  | [.l xs] => ∃ bs, bls xs = some bs ∧ Q (.b (bs.all id))
  | _ => False
theorem call_allK (hK : X.K = K) (hc : X.calm = true) : CallR X (.builtin "all") (fun xs H Q => ∃ (l : Addr) (bs : List Bool), xs = [.ref l] ∧ SqL K H l (bs.map V.bl) ∧ Q (.bl (bs.all id)) H) := by subst hK; exact call_all hc
theorem sim_all : SimC K (fun xs H Q => ∃ (l : Addr) (bs : List Bool), xs = [.ref l] ∧ SqL K H l (bs.map V.bl) ∧ Q (.bl (bs.all id)) H) qAll := by
  intro dl H vs ts F Q R D r hq k
  unfold qAll at hq
  split at hq
  · obtain ⟨v, rfl, r'⟩ := r.one
    obtain ⟨p, vs, G, rfl, rfl, h1, h2⟩ := r'.r.lst
    obtain ⟨bs, hb, hq⟩ := hq
    have e := h2.bls hb
    subst e
    exact ⟨p, bs, rfl, SqL.of h1, k _ _ [] H (.refl D) (.c (.b _)) (fun _ z => nomatch z) List.nodup_nil hq⟩
  · exact hq.elim
def T.tyN : T → Option String
  | .n => some "NoneType" | .b _ => some "bool" | .i _ => some "int" | .s _ => some "str" | .l _ => some "list" | .q => some "list" | .t _ => some "tuple" | .d _ => some "dict" | _ => none
theorem RepF.tyOf {dl : Dl} {H : Hp} {v : V} {t : T} {F : List Addr} {n : String} (h : RepF K dl H v t F) (e : t.tyN = some n) : TyOf K H v (.type n) := by
  cases h <;> first | (cases e; constructor; assumption) | (cases e; constructor; done) | (cases e; done)
theorem call_isi2 (hK : X.K = K) : CallR X (.builtin "isinstance") (fun xs H Q => ∃ x T t b, xs = [x, .ty T] ∧ TyOf K H x t ∧ PySem.W.kitOne K t (.type T) = some b ∧ Q (.bl b) H) := by subst hK; exact call_isi
def isiB (a b : String) : Bool := a == b || (a == "bool" && b == "int")
def qIsi : QC := fun ts Q => match ts with
  | [t, .ty n] => match t.tyN with
    | some m => (n == "tuple" || n == "list" || n == "str" || n == "int" || n == "bool" || n == "dict") = true ∧ Q (.b (isiB m n))
    | none => False
  | _ => False
theorem kit_own {n m : String} (h : (n == "tuple" || n == "list" || n == "str" || n == "int" || n == "bool" || n == "dict") = true) (hm : m ∈ ["NoneType", "bool", "int", "str", "list", "tuple", "dict"]) : PySem.W.kitOne K (.type m) (.type n) = some (isiB m n) := by
  simp only [Bool.or_eq_true, beq_iff_eq] at h
  simp only [List.mem_cons, List.not_mem_nil, or_false] at hm
  rcases h with ((((rfl | rfl) | rfl) | rfl) | rfl) | rfl <;> rcases hm with rfl | rfl | rfl | rfl | rfl | rfl | rfl <;> rfl
theorem tyN_mem {t : T} {m : String} (h : t.tyN = some m) : m ∈ ["NoneType", "bool", "int", "str", "list", "tuple", "dict"] := by
  cases t <;> cases h <;> decide
theorem sim_isi : SimC K (fun xs H Q => ∃ x T t b, xs = [x, .ty T] ∧ TyOf K H x t ∧ PySem.W.kitOne K t (.type T) = some b ∧ Q (.bl b) H) qIsi := by
  intro dl H vs ts F Q R D r hq k
  unfold qIsi at hq
  split at hq
  · obtain ⟨v, w, F1, F2, rfl, r1, r2⟩ := r.two
    have e := r2.r.tyy
    subst e
    split at hq
    · rename_i m em
      exact ⟨v, _, _, _, rfl, r1.r.tyOf em, kit_own hq.1 (tyN_mem em), k _ _ [] H (.refl D) (.c (.b _)) (fun _ z => nomatch z) List.nodup_nil hq.2⟩
    · exact hq.elim
  · exact hq.elim
theorem sum_pre (ns : List Int) : preSum (fun i => ns.getD i 0) ns.length = ns.sum := by
  have h : ∀ n, n ≤ ns.length → preSum (fun i => ns.getD i 0) n = (ns.take n).sum := fun n => by
    induction n with
    | zero => intro _; simp [preSum]
    | succ n ih =>
      intro hn
      have hn' : n < ns.length := by omega
      show preSum _ n + ns.getD n 0 = _
      rw [ih (by omega), List.take_add_one, List.getElem?_eq_getElem hn', List.getD_eq_getElem?_getD, List.getElem?_eq_getElem hn']
      simp only [Option.toList_some, List.sum_append, List.sum_cons, List.sum_nil, Option.getD_some, Int.add_zero]
  rw [h _ (Nat.le_refl _), List.take_length]
theorem vals_int {ns : List Int} {us : List Value} {i : Nat} {v : Value} (r : Vals (ns.map V.int) us) (h : us[i]? = some v) : ∃ t, v = .int (ns.getD i 0) t := by
  have hl := r.length
  rw [List.length_map] at hl
  have hi : i < ns.length := by have := (List.getElem?_eq_some_iff.mp h).1; omega
  obtain ⟨u, h1, t, h2⟩ := r.get (i := i) (x := .int ns[i]) (by simp [hi])
  rw [h] at h1
  cases h1
  exact ⟨t, by rw [h2]; simp [List.getD, hi]⟩
theorem call_sumK (hK : X.K = K) (hc : X.calm = true) : CallR X (.builtin "sum") (fun xs H Q => ∃ (l : Addr) (ns : List Int), xs = [.ref l] ∧ SqL K H l (ns.map V.int) ∧ Q (.int ns.sum) H) := by
  subst hK
  intro pins s σ H xs us Q I r h
  obtain ⟨l, ns, rfl, hl, q⟩ := h
  obtain ⟨u, rfl, ru⟩ := vals1 r
  cases ru
  obtain ⟨its, rv, pl, hz⟩ := I.list hl
  have hlt : l < s.heap.objs.size := by obtain ⟨_, e, _⟩ := pl.isList; exact Heap.lt_size e
  have hlen : its.toArray.size = ns.length := by
    have e := rv.length
    rw [List.length_map] at e
    simp [e]
  refine call_sum_walkG (wpAny_pyIter_list pl.isList ?_)
  refine ⟨s.heap.objs.size, [s.heap.objs.size, l], [s.heap.objs.size], its.toArray.size, _, _, fun i => ns.getD i 0, rfl, Walks.list (show X.A.in1.handled = none from I.ok.hd hc) s.heap.objs.size l (Nat.ne_of_lt hlt) its.toArray, ⟨⟨_, Heap.get?_push_size _ rfl, rfl, rfl⟩, pl.isList.push _⟩, ?_, ?_, fun h' tk t' hk => ?_⟩
  · intro b hb
    rw [Heap.size_push]
    rcases List.mem_cons.mp hb with e | hb
    · rw [e]; exact Nat.lt_succ_self _
    · rw [List.mem_singleton.mp hb]; exact Nat.lt_succ_of_lt hlt
  · intro i v hP
    exact vals_int rv (by simpa using hP)
  · refine ⟨.int ns.sum, H, I.kept (t' := tk) (h' := h') fun b o e => hk b o (by simpa using Nat.ne_of_lt (Heap.lt_size e)) (Heap.get?_push_of_some _ e), ⟨t', ?_⟩, q⟩
    rw [hlen, sum_pre]
def ins : List T → Option (List Int)
  | [] => some []
  | .i x :: r => (ins r).map (x :: ·)
  | _ => none
theorem RepFs.ins {dl : Dl} {H : Hp} : ∀ {vs : List V} {ts : List T} {F : List Addr} {bs : List Int}, RepFs K dl H vs ts F → L2.ins ts = some bs → vs = bs.map V.int
  | _, _, _, bs, .nil, h => by cases h; rfl
  | _, t :: ts, _, bs, .cons h r, q => by
    unfold L2.ins at q
    split at q
    · rename_i e; cases e
    · rename_i x r' e
      cases e
      obtain ⟨rfl, _⟩ := h.int
      cases e2 : L2.ins ts with
      | none => rw [e2] at q; cases q
      | some bs' =>
        rw [e2] at q
        cases q
        rw [RepFs.ins r e2]
        rfl
    · cases q
theorem ins_map (bs : List Int) : ins (bs.map T.i) = some bs := by
  induction bs with
  | nil => rfl
  | cons b r ih => show (ins (r.map T.i)).map (b :: ·) = _; rw [ih]; rfl
def qSum : QC := fun ts Q => match ts with
  | [.l xs] => ∃ bs, ins xs = some bs ∧ Q (.i bs.sum)
  | _ => False
theorem sim_sum : SimC K (fun xs H Q => ∃ (l : Addr) (ns : List Int), xs = [.ref l] ∧ SqL K H l (ns.map V.int) ∧ Q (.int ns.sum) H) qSum := by
  intro dl H vs ts F Q R D r hq k
  unfold qSum at hq
  split at hq
  · obtain ⟨v, rfl, r'⟩ := r.one
    obtain ⟨p, vs, G, rfl, rfl, h1, h2⟩ := r'.r.lst
    obtain ⟨bs, hb, hq⟩ := hq
    have e := h2.ins hb
    subst e
    exact ⟨p, bs, rfl, SqL.of h1, k _ _ [] H (.refl D) (.c (.i _)) (fun _ z => nomatch z) List.nodup_nil hq⟩
  · exact hq.elim
end
end L2
namespace L2
open PySem PySem.Spec PyProof.Rows
structure EndsQ where
  nx : Sq → Prop
  rt : T → Prop
  bk : Sq → Prop := fun _ => False
  ct : Sq → Prop := fun _ => False
abbrev QS := EndsQ → Sq → Prop
structure Rel (K : PySem.W.Frag) (dl : Dl) (H₀ : Hp) (hs : List (V × T)) (H : Hp) (σ : St) (q : Sq) (F : Nat → List Addr) : Prop where
  d : Dls dl H
  g : ∀ (i : Nat) (x : Sl) (t : T), q[i]? = some x → x.get = some t → ∃ v, σ[i]? = some (some v) ∧ Rp K dl H v t (F i)
  n : ∀ (i : Nat) (x : Sl), q[i]? = some x → x.get = none → F i = []
  z : ∀ (i : Nat), q.length ≤ i → F i = []
  o : ∀ (i : Nat) (t : T), q[i]? = some (.o t) → (F i).Nodup ∧ (∀ b ∈ F i, H₀ b = none) ∧ (∀ j, j ≠ i → ∀ b ∈ F i, b ∉ F j)
  h : ∀ p ∈ hs, ∃ Fp, Rp K dl H p.1 p.2 Fp ∧ ∀ (i : Nat) (t : T), q[i]? = some (.o t) → ∀ b ∈ F i, b ∉ Fp
  f : ∀ b o, H₀ b = some o → Nd dl b → H b = some o
  l : q.length = σ.length
def RelX (K : PySem.W.Frag) (dl : Dl) (H₀ : Hp) (hs : List (V × T)) (H : Hp) (σ : St) (q : Sq) : Prop := ∃ F, Rel K dl H₀ hs H σ q F
def There (H : Hp) (b : Addr) : Prop := (∃ xs, H b = some (.lst xs)) ∨ ∃ ks, H b = some (.dK ks)
theorem There.no {H : Hp} {b : Addr} (h : There H b) (e : H b = none) : False := by
  rcases h with ⟨_, h⟩ | ⟨_, h⟩
  · rw [e] at h; cases h
  · rw [e] at h; cases h
section
variable {X : Cx} {K : PySem.W.Frag} {dl : Dl} {H₀ H H' : Hp} {hs : List (V × T)} {σ : St} {q : Sq} {F : Nat → List Addr}
theorem Rel.rd (r : Rel K dl H₀ hs H σ q F) : RdR K dl H σ q := ⟨r.d, fun i x t h1 h2 => let ⟨v, e, p⟩ := r.g i x t h1 h2; ⟨v, F i, e, p⟩⟩
theorem Rel.fz (r : Rel K dl H₀ hs H σ q F) {b : Addr} (h : H b = none) : H₀ b = none := by
  cases e : H₀ b with
  | none => rfl
  | some o => rw [r.f b o e (r.d.nd0 h)] at h; cases h
theorem Rel.thereF (r : Rel K dl H₀ hs H σ q F) {i : Nat} {b : Addr} (hb : b ∈ F i) : There H b := by
  by_cases hi : i < q.length
  · have e : q[i]? = some q[i] := by simp [hi]
    cases ex : q[i].get with
    | none => rw [r.n i _ e ex] at hb; cases hb
    | some t =>
      obtain ⟨v, _, p⟩ := r.g i _ t e ex
      exact p.r.there b hb
  · rw [r.z i (by omega)] at hb; cases hb
theorem Rel.evo (r : Rel K dl H₀ hs H σ q F) (e : Evo dl H H') : Rel K dl H₀ hs H' σ q F where
  d := e.d
  g := fun i x t h1 h2 => let ⟨v, e1, p⟩ := r.g i x t h1 h2; ⟨v, e1, p.evo r.d e⟩
  n := r.n
  z := r.z
  o := r.o
  h := fun p hp => let ⟨Fp, h1, h2⟩ := r.h p hp; ⟨Fp, h1.evo r.d e, h2⟩
  f := fun b o h n => e.k b o (r.f b o h n) n
  l := r.l
def setF (F : Nat → List Addr) (i : Nat) (x : List Addr) : Nat → List Addr := fun j => if j = i then x else F j
theorem setF_same {i : Nat} {x : List Addr} : setF F i x i = x := if_pos rfl
theorem setF_ne {i j : Nat} {x : List Addr} (h : j ≠ i) : setF F i x j = F j := if_neg h
theorem get_set {α : Type} {xs : List α} {i j : Nat} {x y : α} (h : (xs.set i x)[j]? = some y) : (j = i ∧ y = x ∧ i < xs.length) ∨ (j ≠ i ∧ xs[j]? = some y) := by
  by_cases e : j = i
  · subst e
    rw [List.getElem?_set_self'] at h
    by_cases hl : j < xs.length
    · rw [List.getElem?_eq_getElem hl] at h
      exact .inl ⟨rfl, (Option.some.inj h).symm, hl⟩
    · rw [List.getElem?_eq_none (by omega)] at h; cases h
  · rw [List.getElem?_set_ne (fun z => e z.symm)] at h
    exact .inr ⟨e, h⟩
theorem Rel.put {i : Nat} {v : V} {t : T} {F' : List Addr} (r : Rel K dl H₀ hs H σ q F) (hi : i < q.length) (e : Evo dl H H') (hv : Rp K dl H' v t F') (hf : ∀ b ∈ F', H b = none) (hn : F'.Nodup) : Rel K dl H₀ hs H' (σ.set i (some v)) (q.set i (.o t)) (setF F i F') := by
  have r' := r.evo e
  have out : ∀ j, ∀ b ∈ F', b ∉ F j := fun j b hb hj => (r.thereF hj).no (hf b hb)
  refine ⟨e.d, fun j x u h1 h2 => ?_, fun j x h1 h2 => ?_, fun j hj => ?_, fun j u h1 => ?_, fun p hp => ?_, r'.f, by simp [r.l]⟩
  · rcases get_set h1 with ⟨rfl, rfl, _⟩ | ⟨ne, h1⟩
    · cases h2
      exact ⟨v, by rw [List.getElem?_set_self (by rw [← r.l]; exact hi)], by rw [setF_same]; exact hv⟩
    · obtain ⟨w, h3, h4⟩ := r'.g j x u h1 h2
      exact ⟨w, by rw [List.getElem?_set_ne (fun z => ne z.symm)]; exact h3, by rw [setF_ne ne]; exact h4⟩
  · rcases get_set h1 with ⟨rfl, rfl, _⟩ | ⟨ne, h1⟩
    · cases h2
    · rw [setF_ne ne]; exact r.n j x h1 h2
  · rw [List.length_set] at hj
    rw [setF_ne (by omega)]
    exact r.z j hj
  · rcases get_set h1 with ⟨rfl, _, _⟩ | ⟨ne, h1⟩
    · rw [setF_same]
      exact ⟨hn, fun b hb => r.fz (hf b hb), fun k hk b hb => by rw [setF_ne hk]; exact out k b hb⟩
    · rw [setF_ne ne]
      obtain ⟨o1, o2, o3⟩ := r.o j u h1
      refine ⟨o1, o2, fun k hk b hb => ?_⟩
      by_cases ek : k = i
      · subst ek
        rw [setF_same]
        exact fun z => out j b z hb
      · rw [setF_ne ek]; exact o3 k hk b hb
  · obtain ⟨Fp, h1, h2⟩ := r.h p hp
    refine ⟨Fp, h1.evo r.d e, fun j u hj b hb z => ?_⟩
    rcases get_set hj with ⟨rfl, _, _⟩ | ⟨ne, hj⟩
    · rw [setF_same] at hb
      exact There.no (h1.r.there b z) (hf b hb)
    · rw [setF_ne ne] at hb
      exact h2 j u hj b hb z
theorem Rel.putR {i : Nat} {v : V} {t : T} {F' : List Addr} (r : Rel K dl H₀ hs H σ q F) (hi : i < q.length) (hv : Rp K dl H v t F') (hf : ∀ (j : Nat) (u : T), q[j]? = some (.o u) → j ≠ i → ∀ b ∈ F j, b ∉ F') : Rel K dl H₀ hs H (σ.set i (some v)) (q.set i (.r t)) (setF F i F') := by
  refine ⟨r.d, fun j x u h1 h2 => ?_, fun j x h1 h2 => ?_, fun j hj => ?_, fun j u h1 => ?_, fun p hp => ?_, r.f, by simp [r.l]⟩
  · rcases get_set h1 with ⟨rfl, rfl, _⟩ | ⟨ne, h1⟩
    · cases h2
      exact ⟨v, by rw [List.getElem?_set_self (by rw [← r.l]; exact hi)], by rw [setF_same]; exact hv⟩
    · obtain ⟨w, h3, h4⟩ := r.g j x u h1 h2
      exact ⟨w, by rw [List.getElem?_set_ne (fun z => ne z.symm)]; exact h3, by rw [setF_ne ne]; exact h4⟩
  · rcases get_set h1 with ⟨rfl, rfl, _⟩ | ⟨ne, h1⟩
    · cases h2
    · rw [setF_ne ne]; exact r.n j x h1 h2
  · rw [List.length_set] at hj
    rw [setF_ne (by omega)]
    exact r.z j hj
  · rcases get_set h1 with ⟨rfl, e, _⟩ | ⟨ne, h1⟩
    · cases e
    · rw [setF_ne ne]
      obtain ⟨o1, o2, o3⟩ := r.o j u h1
      refine ⟨o1, o2, fun k hk b hb => ?_⟩
      have z := hf j u h1 ne b hb
      by_cases ek : k = i
      · subst ek
        rw [setF_same]
        exact z
      · rw [setF_ne ek]; exact o3 k hk b hb
  · obtain ⟨Fp, h1, h2⟩ := r.h p hp
    refine ⟨Fp, h1, fun j u hj b hb z => ?_⟩
    rcases get_set hj with ⟨rfl, e, _⟩ | ⟨ne, hj⟩
    · cases e
    · rw [setF_ne ne] at hb
      exact h2 j u hj b hb z
theorem Rel.hold {v : V} {t : T} {F' : List Addr} (r : Rel K dl H₀ hs H σ q F) (hv : Rp K dl H v t F') (hf : ∀ (j : Nat) (u : T), q[j]? = some (.o u) → ∀ b ∈ F j, b ∉ F') : Rel K dl H₀ ((v, t) :: hs) H σ q F :=
  ⟨r.d, r.g, r.n, r.z, r.o, fun p hp => by
    rcases List.mem_cons.mp hp with e | hp
    · subst e; exact ⟨F', hv, hf⟩
    · exact r.h p hp, r.f, r.l⟩
theorem Rel.down {i : Nat} {t : T} (r : Rel K dl H₀ hs H σ q F) (hi : q[i]? = some (.o t)) : Rel K dl H₀ hs H σ (q.set i (.r t)) F := by
  refine ⟨r.d, fun j x u h1 h2 => ?_, fun j x h1 h2 => ?_, fun j hj => r.z j (by rw [List.length_set] at hj; exact hj), fun j u h1 => ?_, fun p hp => ?_, r.f, by simp [r.l]⟩
  · rcases get_set h1 with ⟨rfl, rfl, _⟩ | ⟨ne, h1⟩
    · cases h2; exact r.g j _ t hi rfl
    · exact r.g j x u h1 h2
  · rcases get_set h1 with ⟨rfl, rfl, _⟩ | ⟨ne, h1⟩
    · cases h2
    · exact r.n j x h1 h2
  · rcases get_set h1 with ⟨rfl, e, _⟩ | ⟨ne, h1⟩
    · cases e
    · exact r.o j u h1
  · obtain ⟨Fp, h1, h2⟩ := r.h p hp
    refine ⟨Fp, h1, fun j u hj => ?_⟩
    rcases get_set hj with ⟨rfl, e, _⟩ | ⟨ne, hj⟩
    · cases e
    · exact h2 j u hj
theorem Rel.write {i : Nat} {v : V} {t t' : T} {F' : List Addr} {p : Addr} {o : HO} (r : Rel K dl H₀ hs H σ q F) (hi : q[i]? = some (.o t)) (hv : σ[i]? = some (some v)) (hp : p ∈ F i) (ho : ∀ xs, H p = some (.lst xs) → ∃ ys, o = .lst ys) (hr : Rp K dl (upd H p o) v t' F') (hn : F'.Nodup)
    (hf : ∀ b ∈ F', b ∈ F i ∨ (H₀ b = none ∧ (∀ j, b ∉ F j) ∧ ∀ w u Fp, Rp K dl H w u Fp → (w, u) ∈ hs → b ∉ Fp)) : Rel K dl H₀ hs (upd H p o) σ (q.set i (.o t')) (setF F i F') := by
  obtain ⟨o1, o2, o3⟩ := r.o i t hi
  have hil : i < q.length := (List.getElem?_eq_some_iff.mp hi).1
  obtain ⟨v', hv', rp⟩ := r.g i _ t hi rfl
  have pn : Nd dl p := rp.n p hp
  have pth := r.thereF hp
  have tf : TF H (upd H p o) := ⟨fun a vs h => (by
    rw [upd_ne]; exact h
    intro z; subst z
    rcases pth with ⟨_, e⟩ | ⟨_, e⟩ <;> rw [h] at e <;> cases e), fun a ob u h => (by
    rw [upd_ne]; exact h
    intro z; subst z
    rcases pth with ⟨_, e⟩ | ⟨_, e⟩ <;> rw [h] at e <;> cases e), fun a xs h => (by
    by_cases z : a = p
    · subst z
      obtain ⟨ys, e⟩ := ho xs h
      exact ⟨ys, by rw [upd_same, e]⟩
    · exact ⟨xs, by rw [upd_ne z]; exact h⟩)⟩
  have st : ∀ {w : V} {u : T} {Fw : List Addr}, Rp K dl H w u Fw → p ∉ Fw → Rp K dl (upd H p o) w u Fw := fun {w u Fw} h np =>
    ⟨h.r.stay tf (fun _ z => z) fun b hb ob e => (by
      have ne : b ≠ p := by
        intro z
        subst z
        exact np hb
      rw [upd_ne ne]
      exact e), h.n⟩
  refine ⟨fun d hd => (r.d d hd).other (pn d hd).1 (pn d hd).2, fun j x u h1 h2 => ?_, fun j x h1 h2 => ?_, fun j hj => ?_, fun j u h1 => ?_, fun w hw => ?_, fun b ob hb nb => ?_, by simp [r.l]⟩
  · rcases get_set h1 with ⟨rfl, rfl, _⟩ | ⟨ne, h1⟩
    · cases h2
      exact ⟨v, hv, by rw [setF_same]; exact hr⟩
    · obtain ⟨w, h3, h4⟩ := r.g j x u h1 h2
      exact ⟨w, h3, by rw [setF_ne ne]; exact st h4 (o3 j ne p hp)⟩
  · rcases get_set h1 with ⟨rfl, rfl, _⟩ | ⟨ne, h1⟩
    · cases h2
    · rw [setF_ne ne]; exact r.n j x h1 h2
  · rw [List.length_set] at hj
    rw [setF_ne (by omega)]
    exact r.z j hj
  · rcases get_set h1 with ⟨rfl, e, _⟩ | ⟨ne, h1⟩
    · rw [setF_same]
      refine ⟨hn, fun b hb => ?_, fun k hk b hb => ?_⟩
      · rcases hf b hb with z | z
        · exact o2 b z
        · exact z.1
      · rw [setF_ne hk]
        rcases hf b hb with z | z
        · exact o3 k hk b z
        · exact z.2.1 k
    · rw [setF_ne ne]
      obtain ⟨p1, p2, p3⟩ := r.o j u h1
      refine ⟨p1, p2, fun k hk b hb => ?_⟩
      by_cases ek : k = i
      · subst ek
        rw [setF_same]
        intro z
        rcases hf b z with z | z
        · exact o3 j ne b z hb
        · exact z.2.1 j hb
      · rw [setF_ne ek]; exact p3 k hk b hb
  · obtain ⟨Fp, h1, h2⟩ := r.h w hw
    refine ⟨Fp, st h1 (h2 i t hi p hp), fun j u hj b hb z => ?_⟩
    rcases get_set hj with ⟨rfl, e, _⟩ | ⟨ne, hj⟩
    · rw [setF_same] at hb
      rcases hf b hb with y | y
      · exact h2 j t hi b y z
      · exact y.2.2 w.1 w.2 Fp h1 hw z
    · rw [setF_ne ne] at hb
      exact h2 j u hj b hb z
  · rw [upd_ne]
    · exact r.f b ob hb nb
    · intro z
      subst z
      rw [o2 b hp] at hb
      cases hb
end
structure EndsOk (K : PySem.W.Frag) (dl : Dl) (H₀ : Hp) (hs : List (V × T)) (Dq : EndsQ) (D : Ends) : Prop where
  nx : ∀ H σ q, RelX K dl H₀ hs H σ q → Dq.nx q → D.nx σ H
  bk : ∀ H σ q, RelX K dl H₀ hs H σ q → Dq.bk q → D.bk σ H
  ct : ∀ H σ q, RelX K dl H₀ hs H σ q → Dq.ct q → D.ct σ H
  rt : ∀ v t F H, Dls dl H → Rp K dl H v t F → (∀ b ∈ F, H₀ b = none) → F.Nodup → (∀ b o, H₀ b = some o → Nd dl b → H b = some o) → Dq.rt t → D.rt v H
def SimS (K : PySem.W.Frag) (ts : TS) (qs : QS) : Prop := ∀ (dl : Dl) (H₀ : Hp) (hs : List (V × T)) (H : Hp) (σ : St) (q : Sq) (Dq : EndsQ) (D : Ends), RelX K dl H₀ hs H σ q → qs Dq q → EndsOk K dl H₀ hs Dq D → ts D σ H
structure QPS (X : Cx) (K : PySem.W.Frag) (st : Stmt) (ts : TS) (qs : QS) : Prop where
  h : PS X st ts
  s : SimS K ts qs
structure QPSs (X : Cx) (K : PySem.W.Frag) (st : List Stmt) (ts : TS) (qs : QS) : Prop where
  h : PSs X st ts
  s : SimS K ts qs
section
variable {X : Cx} {K : PySem.W.Frag} {st : Stmt} {rest sa sb : List Stmt} {t u : TS} {qt qu : QS} {e c : Expr} {te : TE} {qe : QE} {tc : TT} {qc : QT} {pos : Pos}
def qNext : QS := fun D q => D.nx q
def qSeq (t u : QS) : QS := fun D q => t { D with nx := u D } q
theorem qss_nil : QPSs X K [] tNext qNext := ⟨pss_nil, fun _ _ _ H σ q _ _ r hq E => E.nx H σ q r hq⟩
theorem qss_cons (h1 : QPS X K st t qt) (h2 : QPSs X K rest u qu) : QPSs X K (st :: rest) (tSeq t u) (qSeq qt qu) := ⟨pss_cons h1.h h2.h, fun dl H₀ hs H σ q Dq D r hq E =>
  h1.s dl H₀ hs H σ q _ _ r hq ⟨fun H σ q r' hq' => h2.s dl H₀ hs H σ q _ _ r' hq' E, E.bk, E.ct, E.rt⟩⟩
theorem qss_one (h1 : QPS X K st t qt) : QPSs X K [st] t qt := ⟨pss_one h1.h, h1.s⟩
theorem qs_ret (he : QPF X K e te qe) : QPS X K (.Return (some e) pos) (tRet te) (fun D q => qe q D.rt) := ⟨ps_ret he.h, fun dl H₀ hs H σ q Dq D ⟨F, r⟩ hq E =>
  he.s dl H σ q _ _ r.rd hq fun v t F' H' e1 r1 f1 n1 hz => E.rt v t F' H' e1.d r1 (fun b hb => r.fz (f1 b hb)) n1 (r.evo e1).f hz⟩
theorem qs_retO {i : Nat} (he : PE X e (tVar i)) : QPS X K (.Return (some e) pos) (tRet (tVar i)) (fun D q => match q[i]? with | some (.o t) => D.rt t | _ => False) := ⟨ps_ret he, fun dl H₀ hs H σ q Dq D ⟨F, r⟩ hq E => by
  split at hq
  · rename_i t e1
    obtain ⟨v, hv, rp⟩ := r.g i _ t e1 rfl
    obtain ⟨o1, o2, o3⟩ := r.o i t e1
    exact ⟨v, hv, E.rt v t (F i) H r.d rp o2 o1 r.f hq⟩
  · exact hq.elim⟩
def qIfS (c : QT) (t u : QS) : QS := fun D q => c q fun b => if b = true then t D q else u D q
theorem qs_if (hc : QPT X K c tc qc) (ha : QPSs X K sa t qt) (hb : QPSs X K sb u qu) : QPS X K (.If c sa sb pos) (tIfS tc t u) (qIfS qc qt qu) := ⟨ps_if hc.h ha.h hb.h, fun dl H₀ hs H σ q Dq D ⟨F, r⟩ hq E =>
  hc.s dl H σ q _ _ r.rd hq fun b H' e1 hz => by
    cases b with
    | true => exact ha.s dl H₀ hs H' σ q Dq D ⟨F, r.evo e1⟩ hz E
    | false => exact hb.s dl H₀ hs H' σ q Dq D ⟨F, r.evo e1⟩ hz E⟩
def qSet (i : Nat) (qe : QE) : QS := fun D q => qe q fun t => D.nx (q.set i (.o t))
theorem Rel.putX {dl : Dl} {H₀ H H' : Hp} {hs : List (V × T)} {σ : St} {q : Sq} {F : Nat → List Addr} {i : Nat} {v : V} {t : T} {F' : List Addr} (r : Rel K dl H₀ hs H σ q F) (e : Evo dl H H') (hv : Rp K dl H' v t F') (hf : ∀ b ∈ F', H b = none) (hn : F'.Nodup) : RelX K dl H₀ hs H' (σ.set i (some v)) (q.set i (.o t)) := by
  by_cases hi : i < q.length
  · exact ⟨_, r.put hi e hv hf hn⟩
  · have hl := r.l
    rw [List.set_eq_of_length_le (by omega), List.set_eq_of_length_le (by omega)]
    exact ⟨F, r.evo e⟩
theorem sim_set {i : Nat} (he : SimF K te qe) : SimS K (tAsg te (gName i)) (qSet i qe) := fun dl H₀ hs H σ q Dq D ⟨F, r⟩ hq E => he dl H σ q _ _ r.rd hq fun v t F' H' e1 r1 f1 n1 hz => E.nx H' _ _ (r.putX e1 r1 f1 n1) hz
theorem qs_set {i : Nat} {x : Str} {pos' : Pos} (hN : X.N.Nodup) (hi : X.N[i]? = some x) (hx : Loc X.env.scope x) (he : QPF X K e te qe) (hs : swapsWith e (some (.Name x pos')) pos.line X.env = pure false := by rfl) (hf : X.fn x = true ∨ X.env.scope.names.lookup x = some .local := by first | exact .inl rfl | exact .inr rfl | assumption) :
    QPS X K (.Assign [.Name x pos'] e pos) (tAsg te (gName i)) (qSet i qe) := ⟨ps_set hN hi hx he.h hs hf, sim_set he.s⟩
def qWhile (c : QT) (tb : QS) : QS := fun D q => ∃ W : Nat → Sq → Prop, (∃ m, W m q) ∧ ∀ m q, W m q → c q fun b => if b = true then ∃ N : Sq → Prop, (∀ q', N q' → ∃ m', m' < m ∧ W m' q') ∧ tb { D with nx := N, ct := N, bk := D.nx } q else D.nx q
theorem qs_while (hp : PassesOwn (model X.prog X.w) X.A X.env X.xe) (hc : QPT X K c tc qc) (hb : QPSs X K rest t qt) : QPS X K (.While c rest [] pos) (tWhile tc t) (qWhile qc qt) := ⟨ps_while hp hc.h hb.h, fun dl H₀ hs H σ q Dq D r hq E => by
  obtain ⟨W, ⟨m0, w0⟩, turn⟩ := hq
  refine ⟨fun m σ H => ∃ q, RelX K dl H₀ hs H σ q ∧ W m q, ⟨m0, q, r, w0⟩, ?_⟩
  rintro m σ H ⟨q, ⟨F, r⟩, w⟩
  refine hc.s dl H σ q _ _ r.rd (turn m q w) fun b H1 e1 hz => ?_
  cases b with
  | false => exact E.nx H1 σ q ⟨F, r.evo e1⟩ hz
  | true =>
    obtain ⟨N, hN, hz⟩ := hz
    refine ⟨fun σ' H' => ∃ q', RelX K dl H₀ hs H' σ' q' ∧ N q', fun σ' H' ⟨q', r', n'⟩ => ?_, ?_⟩
    · obtain ⟨m', hm, w'⟩ := hN q' n'
      exact ⟨m', hm, q', r', w'⟩
    · exact hb.s dl H₀ hs H1 σ q _ _ ⟨F, r.evo e1⟩ hz ⟨fun H σ q r n => ⟨q, r, n⟩, fun H σ q r n => E.nx H σ q r n, fun H σ q r n => ⟨q, r, n⟩, E.rt⟩⟩
end
end L2
namespace L2
open PySem PySem.Spec PyProof.Rows
abbrev PSp := List T → (T → Prop) → Prop
def spQ (K : PySem.W.Frag) (ps : PSp) : Sp := fun vs H Q _ => ∃ (dl : Dl) (ts : List T) (F : List Addr) (Qp : T → Prop), Dls dl H ∧ Rps K dl H vs ts F ∧ ps ts Qp ∧
  ∀ v t F' H', Evo dl H H' → Rp K dl H' v t F' → (∀ b ∈ F', H b = none) → F'.Nodup → Qp t → Q v H'
section
variable {X : Cx} {K : PySem.W.Frag} {e : Expr} {es : List Expr} {tl : TA} {ql : QA} {pos p : Pos} {x : Str} {k : Nat} {f : Addr} {fd : FuncData} {prs : List Str} {ps : PSp}
def qCall (ps : PSp) (ql : QA) : QE := fun q Q => ql q fun ts => ps ts Q
theorem sim_call {n : Nat} (ha : SimA K n tl ql) : SimF K (tCall (spQ K ps) [] E0 tl) (qCall ps ql) := fun dl H σ q Q R rd hq k => ha dl H σ q _ _ rd hq fun vs ts F H1 e1 r1 _ hz => by
  show spQ K ps (vs ++ []) H1 R E0
  rw [List.append_nil]
  exact ⟨dl, ts, F, Q, e1.d, r1, hz, fun v t F' H' e r f n hz => k v t F' H' (e1.trans e) r (fun b hb => e1.free (f b hb)) n hz⟩
theorem qe_call (F : FnOk X.prog X.w X.K X.mg X.base CX0 k f fd prs (spQ K ps)) (hr : Room k X.A) (hg : Gl X x) (hm : X.mg x = some (.ref f)) (hk : PySem.W.keepIn X.K (.ref f) = true) (hb : Binds X.K fd prs []) (ha : QPA X K (e :: es) tl ql)
    (hdb : (x == ("__debug__" : Str)) = false := by decide) (he : starEach (e :: es) X.env = (false, eval e X.env) :: starEach es X.env := by rfl) (hpl : (backTo pos (starEach es X.env)).any (·.1) = false := by rfl) :
    QPF X K (.Call (.Name x p) (e :: es) [] pos) (tCall (spQ K ps) [] E0 tl) (qCall ps ql) := ⟨pe_call F hr hg hm hk hb .nil pass0 ha.h hdb he hpl, sim_call ha.s⟩
end
theorem rel_start {K : PySem.W.Frag} {dl : Dl} {H : Hp} {vs : List V} {ts : List T} {F : List Addr} {n : Nat} (D : Dls dl H) (r : Rps K dl H vs ts F) (hn : vs.length ≤ n) : RelX K dl H [] H (vs.map some ++ List.replicate (n - vs.length) none) (ts.map Sl.r ++ List.replicate (n - vs.length) .no) := by
  have hl := r.r.len
  have main : ∀ {vs : List V} {ts : List T} {F : List Addr}, RepFs K dl H vs ts F → (∀ b ∈ F, Nd dl b) → ∃ Fs : Nat → List Addr, (∀ (i : Nat) (t : T), ts[i]? = some t → ∃ v, vs[i]? = some v ∧ Rp K dl H v t (Fs i)) ∧ ∀ i, ts.length ≤ i → Fs i = [] := by
    intro vs ts F h
    induction ts generalizing vs F with
    | nil => intro _; exact ⟨fun _ => [], fun i t e => by simp at e, fun _ _ => rfl⟩
    | cons t ts ih =>
      cases h with
      | @cons v0 _ vs0 _ F1 G1 h1 h2 =>
        intro hn
        obtain ⟨Fs, g1, g2⟩ := ih h2 fun b hb => hn b (List.mem_append_right _ hb)
        refine ⟨fun i => match i with | 0 => F1 | i + 1 => Fs i, fun i u e => ?_, fun i hi => ?_⟩
        · cases i with
          | zero =>
            simp at e
            subst e
            exact ⟨_, by simp, h1, fun b hb => hn b (List.mem_append_left _ hb)⟩
          | succ i =>
            obtain ⟨v, e1, e2⟩ := g1 i u (by simpa using e)
            exact ⟨v, by simpa using e1, e2⟩
        · cases i with
          | zero => simp at hi
          | succ i => exact g2 i (by simpa using hi)
  obtain ⟨Fs, g1, g2⟩ := main r.r r.n
  have lk : ∀ (i : Nat) (y : Sl), (ts.map Sl.r ++ List.replicate (n - vs.length) Sl.no)[i]? = some y → (∃ t, ts[i]? = some t ∧ y = .r t) ∨ (ts.length ≤ i ∧ y = .no) := fun i y h => by
    by_cases hi : i < ts.length
    · rw [List.getElem?_append_left (by simpa using hi), List.getElem?_map, List.getElem?_eq_getElem hi] at h
      exact .inl ⟨ts[i], by simp, (Option.some.inj h).symm⟩
    · rw [List.getElem?_append_right (by simpa using hi), List.getElem?_replicate] at h
      split at h
      · exact .inr ⟨by omega, (Option.some.inj h).symm⟩
      · cases h
  refine ⟨Fs, D, fun i y t h1 h2 => ?_, fun i y h1 h2 => ?_, fun i hi => ?_, fun i t h1 => ?_, fun p hp => (by cases hp), fun b o h _ => h, by simp [hl]⟩
  · rcases lk i y h1 with ⟨u, e, rfl⟩ | ⟨_, rfl⟩
    · cases h2
      obtain ⟨v, e1, e2⟩ := g1 i t e
      refine ⟨v, ?_, e2⟩
      have hi : i < vs.length := (List.getElem?_eq_some_iff.mp e1).1
      rw [List.getElem?_append_left (by simpa using hi), List.getElem?_map, e1]
      rfl
    · cases h2
  · rcases lk i y h1 with ⟨u, e, rfl⟩ | ⟨hi, rfl⟩
    · cases h2
    · exact g2 i hi
  · refine g2 i ?_
    simp at hi
    omega
  · rcases lk i _ h1 with ⟨u, e, z⟩ | ⟨_, z⟩ <;> cases z
theorem Fun.okQ {P : Program} {w : World} {K : PySem.W.Frag} {mg : Str → Option Value} {base : Heap} {x qual : Str} {st : Stmt} {f : Addr} {fd : FuncData} {N ps : List Str} {k : Nat} {psp : PSp} (F : Fun K x qual st f fd) (S : FnScope N ps (defScope st)) (len : ∀ ts Q, psp ts Q → ts.length = ps.length)
    (hbody : ∀ (cdv : Value) (A : Around) (outer : List Env) (s : Shared) (H : Hp) (E : XK), Room k (A.deeper (envOfC qual (defScope st) s.heap.objs.size f cdv)) →
      ∃ t qs, QPSs (cxOf CX0 P w K mg base N qual (defScope st) f cdv A outer s H E).nox K (defBody st) t qs ∧ ∀ ts Q, psp ts Q → qs { nx := fun _ => Q .n, rt := Q } (ts.map Sl.r ++ List.replicate (N.length - ts.length) .no)) : FnOk P w K mg base CX0 (k + 1) f fd ps (spQ K psp) := by
  have hPN : ps.length ≤ N.length := by have := congrArg List.length S.pre; rw [List.length_take] at this; omega
  refine F.ok S (fun vs H Q E h => ?_) (fun cdv A outer s H vs Q E hr h => ?_)
  · obtain ⟨dl, ts, F, Qp, _, r, h, _⟩ := h
    rw [r.r.len]; exact len ts Qp h
  · obtain ⟨dl, ts, Fp, Qp, D, r, h, fin⟩ := h
    obtain ⟨t, qs, hb, hq⟩ := hbody cdv A outer s H E hr
    refine ⟨t, hb.h, ?_⟩
    have hlen := len ts Qp h
    have hl := r.r.len
    have z := hq ts Qp h
    have R := rel_start (n := N.length) D r (by omega)
    rw [← hl] at z
    refine hb.s dl H [] H _ _ _ _ R z ⟨fun H' σ q ⟨F, r'⟩ hz => ?_, fun _ _ _ _ hz => hz.elim, fun _ _ _ _ hz => hz.elim, fun v t F H' D' r' f' n' fr hz => ?_⟩
    · exact fin .non .n [] H' ⟨r'.f, r'.d⟩ ⟨.n, fun _ z => nomatch z⟩ (fun _ z => nomatch z) List.nodup_nil hz
    · exact fin v t F H' ⟨fr, D'⟩ r' f' n' hz
end L2
namespace L2
open PySem PySem.Spec PyProof.Rows
structure ItOk (K : PySem.W.Frag) (dl : Dl) (J : It) (xs : List T) (hv : List (V × T)) : Prop where
  go : ∀ (H : Hp) (i : Nat), Dls dl H → (∀ p ∈ hv, ∃ F, Rp K dl H p.1 p.2 F) → i < xs.length → J.go i H
  yld : ∀ (H : Hp) (i : Nat) (x : T) (fp : V × T → List Addr) (v : V) (H' : Hp), Dls dl H → (∀ p ∈ hv, Rp K dl H p.1 p.2 (fp p)) → xs[i]? = some x → J.yld i H v H' → Evo dl H H' ∧ ∃ F, Rp K dl H' v x F ∧ ∀ b ∈ F, H b = none ∨ ∃ p ∈ hv, b ∈ fp p
  stop : ∀ (H : Hp), Dls dl H → (∀ p ∈ hv, ∃ F, Rp K dl H p.1 p.2 F) → J.stop xs.length H
section
variable {X : Cx} {K : PySem.W.Frag} {dl : Dl}
theorem it_list {a : Addr} {xs : List T} : ItOk K dl (Itl K a) xs [(.ref a, .l xs)] where
  go := fun H i D h hi => by
    obtain ⟨F, r⟩ := h _ (List.mem_singleton.mpr rfl)
    obtain ⟨p, vs, G, e, _, h1, h2⟩ := r.r.lst
    cases e
    exact ⟨vs, vs[i]'(by rw [h2.len]; exact hi), SqL.of h1, by simp [h2.len, hi]⟩
  yld := fun H i x fp v H' D h hx y => by
    have r := h _ (List.mem_singleton.mpr rfl)
    obtain ⟨p, vs, G, e, eF, h1, h2⟩ := r.r.lst
    cases e
    obtain ⟨rfl, y⟩ := y
    obtain ⟨w, G', hw, rw', hs⟩ := h2.get hx
    have e2 := y vs (SqL.of h1)
    rw [hw] at e2
    cases e2
    have sub : ∀ b ∈ G', b ∈ fp (V.ref a, T.l xs) := fun b hb => by
      rw [eF]
      exact List.mem_cons_of_mem _ (hs b hb)
    exact ⟨.refl D, G', ⟨rw', fun b hb => r.n b (sub b hb)⟩, fun b hb => .inr ⟨_, List.mem_singleton.mpr rfl, sub b hb⟩⟩
  stop := fun H D h => by
    obtain ⟨F, r⟩ := h _ (List.mem_singleton.mpr rfl)
    obtain ⟨p, vs, G, e, _, h1, h2⟩ := r.r.lst
    cases e
    exact ⟨vs, SqL.of h1, by rw [h2.len]; exact Nat.le_refl _⟩
theorem it_tup {a : Addr} {xs : List T} : ItOk K dl (Itt K a) xs [(.ref a, .t xs)] where
  go := fun H i D h hi => by
    obtain ⟨F, r⟩ := h _ (List.mem_singleton.mpr rfl)
    obtain ⟨p, vs, e, h1, h2⟩ := r.r.tup
    cases e
    exact ⟨vs, vs[i]'(by rw [h2.len]; exact hi), SqT.of h1, by simp [h2.len, hi]⟩
  yld := fun H i x fp v H' D h hx y => by
    have r := h _ (List.mem_singleton.mpr rfl)
    obtain ⟨p, vs, e, h1, h2⟩ := r.r.tup
    cases e
    obtain ⟨rfl, y⟩ := y
    obtain ⟨w, G', hw, rw', hs⟩ := h2.get hx
    have e2 := y vs (SqT.of h1)
    rw [hw] at e2
    cases e2
    exact ⟨.refl D, G', ⟨rw', fun b hb => r.n b (hs b hb)⟩, fun b hb => .inr ⟨_, List.mem_singleton.mpr rfl, hs b hb⟩⟩
  stop := fun H D h => by
    obtain ⟨F, r⟩ := h _ (List.mem_singleton.mpr rfl)
    obtain ⟨p, vs, e, h1, h2⟩ := r.r.tup
    cases e
    exact ⟨vs, SqT.of h1, by rw [h2.len]; exact Nat.le_refl _⟩
theorem it_rng {lo : Int} {n : Nat} : ItOk K dl (Itr lo n) ((List.range n).map fun i => .i (lo + (i : Nat))) [] where
  go := fun H i D h hi => by
    show i < n
    simpa using hi
  yld := fun H i x fp v H' D h hx y => by
    obtain ⟨rfl, rfl⟩ := y
    rw [List.getElem?_map] at hx
    cases e : (List.range n)[i]? with
    | none => rw [e] at hx; cases hx
    | some j =>
      rw [e] at hx
      have hj : j = i := by
        have := List.getElem?_eq_some_iff.mp e
        obtain ⟨h1, h2⟩ := this
        simp at h2
        exact h2.symm
      subst hj
      cases hx
      exact ⟨.refl D, [], .c (.i _), fun _ z => nomatch z⟩
  stop := fun H D h => by show n ≤ _; simp
abbrev QI := Sq → (List T → Prop) → Prop
def SimI (K : PySem.W.Frag) (wi : TI) (iq : QI) : Prop := ∀ (dl : Dl) (H : Hp) (σ : St) (q : Sq) (Q : List T → Prop) (R : It → Hp → Prop), RdR K dl H σ q → iq q Q →
  (∀ xs J hv H', Evo dl H H' → ItOk K dl J xs hv → (∀ p ∈ hv, ∃ F, Rp K dl H' p.1 p.2 F) → Q xs → R J H') → wi σ H R
structure QPI (X : Cx) (K : PySem.W.Frag) (tg iter : Expr) (wi : TI) (iq : QI) : Prop where
  h : PI X tg iter wi
  s : SimI K wi iq
abbrev QJ := Sq → (List T → Sq → Prop) → Prop
def SimJ (K : PySem.W.Frag) (wi : TI) (iq : QJ) : Prop := ∀ (dl : Dl) (H₀ : Hp) (hs : List (V × T)) (H : Hp) (σ : St) (q : Sq) (Q : List T → Sq → Prop) (R : It → Hp → Prop), RelX K dl H₀ hs H σ q → iq q Q →
  (∀ xs J hv H' q', RelX K dl H₀ (hv ++ hs) H' σ q' → ItOk K dl J xs hv → Q xs q' → R J H') → wi σ H R
structure QPJ (X : Cx) (K : PySem.W.Frag) (tg iter : Expr) (wi : TI) (iq : QJ) : Prop where
  h : PI X tg iter wi
  s : SimJ K wi iq
variable {tg e a b : Expr} {te ta tb : TE} {qe qa qb : QE} {tl : TA} {ql : QA} {pos p : Pos}
theorem pi_listK (hK : X.K = K) (h : PE X e te) : PI X tg e (iList K te) := by subst hK; exact pi_list h
theorem pi_tupK (hK : X.K = K) (h : PE X e te) : PI X tg e (iTup K te) := by subst hK; exact pi_tup h
def asL (qe : QE) : QI := fun q Q => qe q fun t => match t with | .l xs => Q xs | _ => False
def asT (qe : QE) : QI := fun q Q => qe q fun t => match t with | .t xs => Q xs | _ => False
theorem qi_list (h : QPE X K e te qe) (hK : X.K = K := by rfl) : QPI X K tg e (iList K te) (asL qe) := ⟨pi_listK hK h.h, fun dl H σ q Q R rd hq k => h.s dl H σ q _ _ rd hq fun v t F H' e1 r hz => by
  split at hz
  · obtain ⟨p, vs, G, rfl, rfl, h1, h2⟩ := r.r.lst
    exact ⟨p, rfl, ⟨vs, SqL.of h1⟩, k _ _ _ H' e1 it_list (fun p hp => by rw [List.mem_singleton.mp hp]; exact ⟨_, r⟩) hz⟩
  · exact hz.elim⟩
theorem qi_tup (h : QPE X K e te qe) (hK : X.K = K := by rfl) : QPI X K tg e (iTup K te) (asT qe) := ⟨pi_tupK hK h.h, fun dl H σ q Q R rd hq k => h.s dl H σ q _ _ rd hq fun v t F H' e1 r hz => by
  split at hz
  · obtain ⟨p, vs, rfl, h1, h2⟩ := r.r.tup
    exact ⟨p, rfl, ⟨vs, SqT.of h1⟩, k _ _ _ H' e1 it_tup (fun p hp => by rw [List.mem_singleton.mp hp]; exact ⟨_, r⟩) hz⟩
  · exact hz.elim⟩
def rngT (lo : Int) (n : Nat) : List T := (List.range n).map fun i => .i (lo + (i : Nat))
theorem rng_at {lo : Int} {n i : Nat} {x : T} (h : (rngT lo n)[i]? = some x) : x = .i (lo + (i : Nat)) ∧ i < n := by
  unfold rngT at h
  rw [List.getElem?_map] at h
  obtain ⟨j, hj, rfl⟩ := Option.map_eq_some_iff.mp h
  obtain ⟨h1, h2⟩ := List.getElem?_eq_some_iff.mp hj
  simp at h1 h2
  subst h2
  exact ⟨rfl, h1⟩
theorem rng_len {lo : Int} {n : Nat} : (rngT lo n).length = n := by simp [rngT]
def asR1 (ql : QA) : QI := fun q Q => ql q fun ts => match ts with | [.i n] => -(2 ^ 62) ≤ n ∧ n < 2 ^ 62 ∧ Q (rngT 0 n.toNat) | _ => False
theorem qi_range1 (hg : Gl X "range") (hm : X.mg "range" = none) (ha : QPA X K [a] tl ql) (hs : starEach [a] X.env = [(false, eval a X.env)] := by rfl) : QPI X K tg (.Call (.Name "range" p) [a] [] pos) (iRng1 tl) (asR1 ql) := ⟨pi_range1 hg hm ha.h hs, fun dl H σ q Q R rd hq k => ha.s dl H σ q _ _ rd hq fun vs ts F H' e1 r _ hz => by
  split at hz
  · obtain ⟨v, rfl, r'⟩ := r.one
    obtain ⟨rfl, _⟩ := r'.r.int
    exact ⟨_, rfl, hz.1, hz.2.1, k _ _ [] H' e1 it_rng (fun _ z => nomatch z) hz.2.2⟩
  · exact hz.elim⟩
def asJ (iq : QI) : QJ := fun q Q => iq q fun xs => Q xs q
theorem qj_range1 (hg : Gl X "range") (hm : X.mg "range" = none) (ha : QPA X K [a] tl ql) (hs : starEach [a] X.env = [(false, eval a X.env)] := by rfl) : QPJ X K tg (.Call (.Name "range" p) [a] [] pos) (iRng1 tl) (asJ (asR1 ql)) := ⟨pi_range1 hg hm ha.h hs, fun dl H₀ hs H σ q Q R ⟨F0, r0⟩ hq k => ha.s dl H σ q _ _ r0.rd hq fun vs ts F H' e1 r _ hz => by
  split at hz
  · obtain ⟨v, rfl, r'⟩ := r.one
    obtain ⟨rfl, _⟩ := r'.r.int
    exact ⟨_, rfl, hz.1, hz.2.1, k _ _ [] H' q ⟨F0, r0.evo e1⟩ it_rng hz.2.2⟩
  · exact hz.elim⟩
theorem qj_list (h : QPF X K e te qe) (hK : X.K = K := by rfl) : QPJ X K tg e (iList K te) (asJ (asL qe)) := ⟨pi_listK hK h.h, fun dl H₀ hs H σ q Q R ⟨F0, r0⟩ hq k => h.s dl H σ q _ _ r0.rd hq fun v t F H' e1 r f n hz => by
  split at hz
  · have r1 := (r0.evo e1).hold r fun j u hj b hb z => (r0.thereF hb).no (f b z)
    obtain ⟨p, vs, G, rfl, rfl, h1, h2⟩ := r.r.lst
    exact ⟨p, rfl, ⟨vs, SqL.of h1⟩, k _ _ _ H' q ⟨F0, r1⟩ it_list hz⟩
  · exact hz.elim⟩
theorem qj_tup (h : QPF X K e te qe) (hK : X.K = K := by rfl) : QPJ X K tg e (iTup K te) (asJ (asT qe)) := ⟨pi_tupK hK h.h, fun dl H₀ hs H σ q Q R ⟨F0, r0⟩ hq k => h.s dl H σ q _ _ r0.rd hq fun v t F H' e1 r f n hz => by
  split at hz
  · have r1 := (r0.evo e1).hold r fun j u hj b hb z => (r0.thereF hb).no (f b z)
    obtain ⟨p, vs, rfl, h1, h2⟩ := r.r.tup
    exact ⟨p, rfl, ⟨vs, SqT.of h1⟩, k _ _ _ H' q ⟨F0, r1⟩ it_tup hz⟩
  · exact hz.elim⟩
def asN (i : Nat) : QJ := fun q Q => match q[i]? with
  | some (.o (.l xs)) => Q xs (q.set i (.r (.l xs)))
  | some (.r (.l xs)) => Q xs q
  | _ => False
theorem qj_name {i : Nat} (h : PE X e (tVar i)) (hK : X.K = K := by rfl) : QPJ X K tg e (iList K (tVar i)) (asN i) := ⟨pi_listK hK h, fun dl H₀ hs H σ q Q R ⟨F0, r0⟩ hq k => by
  unfold asN at hq
  split at hq
  · rename_i xs e1
    obtain ⟨v, hv, r⟩ := r0.g i _ _ e1 rfl
    obtain ⟨o1, o2, o3⟩ := r0.o i _ e1
    have r1 := (r0.down e1).hold r fun j u hj b hb => by
      rcases get_set hj with ⟨_, z, _⟩ | ⟨ne, hj⟩
      · cases z
      · exact (r0.o j u hj).2.2 i (fun z => ne z.symm) b hb
    obtain ⟨p, vs, G, rfl, _, h1, h2⟩ := r.r.lst
    exact ⟨_, hv, p, rfl, ⟨vs, SqL.of h1⟩, k _ _ _ H _ ⟨F0, r1⟩ it_list hq⟩
  · rename_i xs e1
    obtain ⟨v, hv, r⟩ := r0.g i _ _ e1 rfl
    have r1 := r0.hold r fun j u hj b hb => (r0.o j u hj).2.2 i (fun z => by subst z; rw [e1] at hj; cases hj) b hb
    obtain ⟨p, vs, G, rfl, _, h1, h2⟩ := r.r.lst
    exact ⟨_, hv, p, rfl, ⟨vs, SqL.of h1⟩, k _ _ _ H _ ⟨F0, r1⟩ it_list hq⟩
  · exact hq.elim⟩
inductive Tg where
  | nm (i : Nat) | tp (is : List Nat)
def putS (q : Sq) : List Nat → List T → Option Sq
  | [], [] => some q
  | i :: is, x :: xs => if i < q.length then putS (q.set i (.r x)) is xs else none
  | _, _ => none
def Tg.put (g : Tg) (x : T) (q : Sq) : Option Sq := match g with
  | .nm i => if i < q.length then some (q.set i (.r x)) else none
  | .tp is => match x with | .t xs => putS q is xs | _ => none
def gNames : List Nat → TGs
  | [] => gNil
  | i :: is => gCons (gName i) (gNames is)
def Tg.h (K : PySem.W.Frag) : Tg → TG
  | .nm i => gName i
  | .tp is => gTup K is.length (gNames is)
theorem rel_names {H₀ H : Hp} {hs : List (V × T)} : ∀ {is : List Nat} {vs : List V} {xs : List T} {G : List Addr} {σ : St} {q q' : Sq} {F : Nat → List Addr} {R : St → Hp → Prop}, Rel K dl H₀ hs H σ q F → RepFs K dl H vs xs G → (∀ b ∈ G, Nd dl b) →
    (∀ (j : Nat) (u : T), q[j]? = some (.o u) → ∀ b ∈ F j, b ∉ G) → putS q is xs = some q' → (∀ σ', RelX K dl H₀ hs H σ' q' → R σ' H) → gNames is vs σ H R
  | [], vs, xs, G, σ, q, q', F, R, r, rs, _, _, hp, k => by
    cases xs with
    | cons _ _ => cases hp
    | nil =>
      cases rs
      cases hp
      exact ⟨rfl, k σ ⟨F, r⟩⟩
  | i :: is, vs, xs, G, σ, q, q', F, R, r, rs, hn, ho, hp, k => by
    cases xs with
    | nil => cases hp
    | cons x xs =>
      cases rs with
      | cons r1 r2 =>
        unfold putS at hp
        by_cases hi : i < q.length
        · rw [if_pos hi] at hp
          refine ⟨_, _, rfl, ?_⟩
          have r' := r.putR hi ⟨r1, fun b hb => hn b (List.mem_append_left _ hb)⟩ fun j u hj _ b hb z => ho j u hj b hb (List.mem_append_left _ z)
          refine rel_names r' r2 (fun b hb => hn b (List.mem_append_right _ hb)) (fun j u hj b hb z => ?_) hp k
          rcases get_set hj with ⟨_, z', _⟩ | ⟨ne, hj⟩
          · cases z'
          · rw [setF_ne ne] at hb
            exact ho j u hj b hb (List.mem_append_right _ z)
        · rw [if_neg hi] at hp; cases hp
theorem rel_tg {H₀ H : Hp} {hs : List (V × T)} {g : Tg} {v : V} {x : T} {G : List Addr} {σ : St} {q q' : Sq} {F : Nat → List Addr} {R : St → Hp → Prop} (r : Rel K dl H₀ hs H σ q F) (rx : Rp K dl H v x G)
    (ho : ∀ (j : Nat) (u : T), q[j]? = some (.o u) → ∀ b ∈ F j, b ∉ G) (hp : g.put x q = some q') (k : ∀ σ', RelX K dl H₀ hs H σ' q' → R σ' H) : g.h K v σ H R := by
  cases g with
  | nm i =>
    replace hp : (if i < q.length then some (q.set i (.r x)) else none) = some q' := hp
    by_cases hi : i < q.length
    · rw [if_pos hi] at hp
      cases hp
      exact k _ ⟨_, r.putR hi rx fun j u hj _ => ho j u hj⟩
    · rw [if_neg hi] at hp; cases hp
  | tp is =>
    cases x with
    | t xs =>
      replace hp : putS q is xs = some q' := hp
      obtain ⟨p, vs, rfl, h1, h2⟩ := rx.r.tup
      have hl : ∀ {is : List Nat} {xs : List T} {q q' : Sq}, putS q is xs = some q' → xs.length = is.length := fun {is} => by
        induction is with
        | nil => intro xs q q' h; cases xs with
          | nil => rfl
          | cons _ _ => cases h
        | cons i is ih => intro xs q q' h; cases xs with
          | nil => cases h
          | cons x xs =>
            unfold putS at h
            by_cases hi : i < q.length
            · rw [if_pos hi] at h; simp [ih h]
            · rw [if_neg hi] at h; cases h
      exact ⟨p, vs, rfl, SqT.of h1, by rw [h2.len]; exact hl hp, rel_names r h2 rx.n ho hp k⟩
    | _ => cases hp
end
end L2
namespace L2
open PySem PySem.Spec PyProof.Rows
section
variable {X : Cx} {K : PySem.W.Frag} {dl : Dl} {H₀ H : Hp} {hs : List (V × T)} {σ : St} {q : Sq} {F : Nat → List Addr}
theorem Rel.unholds {hv : List (V × T)} (r : Rel K dl H₀ (hv ++ hs) H σ q F) : Rel K dl H₀ hs H σ q F := ⟨r.d, r.g, r.n, r.z, r.o, fun p hp => r.h p (List.mem_append_right _ hp), r.f, r.l⟩
theorem Rel.fps {hv : List (V × T)} (r : Rel K dl H₀ (hv ++ hs) H σ q F) : ∃ fp : V × T → List Addr, ∀ p ∈ hv, Rp K dl H p.1 p.2 (fp p) ∧ ∀ (i : Nat) (t : T), q[i]? = some (.o t) → ∀ b ∈ F i, b ∉ fp p := by
  classical
  refine ⟨fun p => if h : p ∈ hv then (r.h p (List.mem_append_left _ h)).choose else [], fun p hp => ?_⟩
  have z := (r.h p (List.mem_append_left _ hp)).choose_spec
  simp only [dif_pos hp]
  exact z
def qFor (iq : QJ) (g : Tg) (qb : QS) : QS := fun D q => iq q fun xs q0 => ∃ I : Nat → Sq → Prop, I 0 q0 ∧ (∀ i x q, xs[i]? = some x → I i q → ∃ q', g.put x q = some q' ∧ qb { D with nx := I (i + 1), ct := I (i + 1), bk := D.nx } q') ∧ ∀ q, I xs.length q → D.nx q
theorem qs_for {tg iter : Expr} {body : List Stmt} {wi : TI} {iq : QJ} {g : Tg} {tb : TS} {qb : QS} {pos : Pos} (hp : PassesOwn (model X.prog X.w) X.A X.env X.xe) (hc : X.calm = true) (hi : QPJ X K tg iter wi iq) (hg : PG X tg (g.h K)) (hb : QPSs X K body tb qb)
    (hs : ∀ x, foldedSetIterable iter X.env x = pure x := by intro _; rfl) : QPS X K (.For tg iter body [] pos) (tFor wi (g.h K) tb) (qFor iq g qb) := ⟨ps_for hp hc hi.h hg hb.h hs, fun dl H₀ hs H σ q Dq D r hq E => by
  refine hi.s dl H₀ hs H σ q _ _ r hq fun xs J hv H1 q1 r1 it hz => ?_
  obtain ⟨I, i0, turn, fin⟩ := hz
  refine ⟨fun i m σ H => m = xs.length - i ∧ i ≤ xs.length ∧ ∃ q, RelX K dl H₀ (hv ++ hs) H σ q ∧ I i q, ⟨xs.length, by simp, Nat.zero_le _, q1, r1, i0⟩, ?_⟩
  rintro i m σ H ⟨rfl, hi', q, ⟨F, r⟩, hI⟩
  have held : ∀ p ∈ hv, ∃ F, Rp K dl H p.1 p.2 F := fun p hp => let ⟨Fp, h, _⟩ := r.h p (List.mem_append_left _ hp); ⟨Fp, h⟩
  by_cases hlt : i < xs.length
  · refine .inr ⟨it.go H i r.d held hlt, fun σ' H' => ∃ q, RelX K dl H₀ (hv ++ hs) H' σ' q ∧ I (i + 1) q, fun σ' H' h => ⟨xs.length - (i + 1), by omega, rfl, hlt, h⟩, fun v H' y => ?_⟩
    obtain ⟨fp, hfp⟩ := r.fps
    have hx : xs[i]? = some xs[i] := by simp [hlt]
    obtain ⟨e1, G, rx, hG⟩ := it.yld H i xs[i] fp v H' r.d (fun p hp => (hfp p hp).1) hx y
    obtain ⟨q', hq', hz⟩ := turn i xs[i] q hx hI
    refine rel_tg (r.evo e1) rx (fun j u hj b hb z => ?_) hq' fun σ2 r2 => hb.s dl H₀ (hv ++ hs) H' σ2 q' _ _ r2 hz ⟨fun H σ q r n => ⟨q, r, n⟩, fun H σ q ⟨F, r⟩ n => E.nx H σ q ⟨F, r.unholds⟩ n, fun H σ q r n => ⟨q, r, n⟩, E.rt⟩
    rcases hG b z with h | ⟨p, hp, h⟩
    · exact (r.thereF hb).no h
    · exact (hfp p hp).2 j u hj b hb h
  · have e : i = xs.length := by omega
    subst e
    exact .inl ⟨it.stop H r.d held, E.nx H σ q ⟨F, r.unholds⟩ (fin q hI)⟩⟩
def captQ (cap : List (Option Nat)) (q : Sq) : Sq := cap.map fun o => match o with
  | none => .no
  | some i => match q[i]? with
    | some (.o t) => .r t
    | some (.r t) => .r t
    | _ => .no
theorem rd_capt {cap : List (Option Nat)} (r : RdR K dl H σ q) : RdR K dl H (capt cap σ) (captQ cap q) := ⟨r.d, fun j x t h1 h2 => by
  unfold captQ at h1
  rw [List.getElem?_map] at h1
  cases e : cap[j]? with
  | none => rw [e] at h1; cases h1
  | some o =>
    rw [e] at h1
    cases o with
    | none => cases h1; cases h2
    | some i =>
      have go : ∀ y : Sl, q[i]? = some y → y.get = some t → ∃ v F, (capt cap σ)[j]? = some (some v) ∧ Rp K dl H v t F := fun y hy ht => by
        obtain ⟨v, F, h3, h4⟩ := r.g i y t hy ht
        refine ⟨v, F, ?_, h4⟩
        unfold capt
        rw [List.getElem?_map, e]
        show some ((σ[i]?).join) = _
        rw [h3]
        rfl
      replace h1 : (match q[i]? with | some (.o t) => Sl.r t | some (.r t) => .r t | _ => .no) = x := Option.some.inj h1
      split at h1
      · rename_i u eq; subst h1; cases h2; exact go _ eq rfl
      · rename_i u eq; subst h1; cases h2; exact go _ eq rfl
      · subst h1; cases h2⟩
theorem RdR.set {i : Nat} {v : V} {x : T} {G : List Addr} (r : RdR K dl H σ q) (hl : i < σ.length) (rx : Rp K dl H v x G) : RdR K dl H (σ.set i (some v)) (q.set i (.r x)) := ⟨r.d, fun j y t h1 h2 => by
  rcases get_set h1 with ⟨rfl, rfl, _⟩ | ⟨ne, h1⟩
  · cases h2
    exact ⟨v, G, by rw [List.getElem?_set_self hl], rx⟩
  · obtain ⟨w, F, h3, h4⟩ := r.g j y t h1 h2
    exact ⟨w, F, by rw [List.getElem?_set_ne (fun z => ne z.symm)]; exact h3, h4⟩⟩
theorem RdR.any {i : Nat} {o : Option V} (r : RdR K dl H σ q) (hn : q[i]? = some .no) : RdR K dl H (σ.set i o) q := ⟨r.d, fun j y t h1 h2 => by
  obtain ⟨w, F, h3, h4⟩ := r.g j y t h1 h2
  refine ⟨w, F, ?_, h4⟩
  rw [List.getElem?_set_ne]
  · exact h3
  · intro z
    subst z
    rw [hn] at h1
    cases h1
    cases h2⟩
def Tg.ixs : Tg → List Nat
  | .nm i => [i]
  | .tp is => is
theorem rd_names : ∀ {is : List Nat} {vs : List V} {xs : List T} {G : List Addr} {σ : St} {q q0 q' : Sq} {R : St → Hp → Prop}, RdR K dl H σ q → RdR K dl H σ q0 → σ.length = q.length → RepFs K dl H vs xs G → (∀ b ∈ G, Nd dl b) → (∀ i ∈ is, q0[i]? = some .no) → putS q is xs = some q' →
    (∀ σ', RdR K dl H σ' q' → RdR K dl H σ' q0 → σ'.length = σ.length → R σ' H) → gNames is vs σ H R
  | [], vs, xs, G, σ, q, q0, q', R, r, r0, _, rs, _, _, hp, k => by
    cases xs with
    | cons _ _ => cases hp
    | nil =>
      cases rs
      cases hp
      exact ⟨rfl, k σ r r0 rfl⟩
  | i :: is, vs, xs, G, σ, q, q0, q', R, r, r0, hl, rs, hn, hf, hp, k => by
    cases xs with
    | nil => cases hp
    | cons x xs =>
      cases rs with
      | cons r1 r2 =>
        unfold putS at hp
        by_cases hi : i < q.length
        · rw [if_pos hi] at hp
          refine ⟨_, _, rfl, ?_⟩
          refine rd_names (r.set (by omega) ⟨r1, fun b hb => hn b (List.mem_append_left _ hb)⟩) (r0.any (hf i List.mem_cons_self)) (by simp [hl]) r2 (fun b hb => hn b (List.mem_append_right _ hb)) (fun j hj => hf j (List.mem_cons_of_mem _ hj)) hp fun σ' a b c => k σ' a b (by simpa using c)
        · rw [if_neg hi] at hp; cases hp
theorem putS_len : ∀ {is : List Nat} {xs : List T} {q q' : Sq}, putS q is xs = some q' → xs.length = is.length
  | [], [], _, _, _ => rfl
  | [], _ :: _, _, _, h => by cases h
  | _ :: _, [], _, _, h => by cases h
  | i :: is, x :: xs, q, q', h => by
    unfold putS at h
    by_cases hi : i < q.length
    · rw [if_pos hi] at h; simp [putS_len h]
    · rw [if_neg hi] at h; cases h
theorem rd_tg {g : Tg} {v : V} {x : T} {G : List Addr} {q' : Sq} {R : St → Hp → Prop} (r : RdR K dl H σ q) (hl : σ.length = q.length) (rx : Rp K dl H v x G) (hf : ∀ i ∈ g.ixs, q[i]? = some .no) (hp : g.put x q = some q')
    (k : ∀ σ', RdR K dl H σ' q' → RdR K dl H σ' q → σ'.length = σ.length → R σ' H) : g.h K v σ H R := by
  cases g with
  | nm i =>
    replace hp : (if i < q.length then some (q.set i (.r x)) else none) = some q' := hp
    by_cases hi : i < q.length
    · rw [if_pos hi] at hp
      cases hp
      exact k _ (r.set (by omega) rx) (r.any (hf i (List.mem_singleton.mpr rfl))) (by simp)
    · rw [if_neg hi] at hp; cases hp
  | tp is =>
    cases x with
    | t xs =>
      replace hp : putS q is xs = some q' := hp
      obtain ⟨p, vs, rfl, h1, h2⟩ := rx.r.tup
      exact ⟨p, vs, rfl, SqT.of h1, by rw [h2.len]; exact putS_len hp, rd_names r r hl h2 rx.n hf hp k⟩
    | _ => cases hp
def qTst0 : QT := fun _ Q => Q true
theorem sim_tst0 : SimT K tTst0 qTst0 := fun dl H σ q Q R rd hq k => k true H (.refl rd.d) hq
def qComp (cap : List (Option Nat)) (iq : QI) (g : Tg) (tst : QT) (qe : QE) : QE := fun q Q => iq q fun xs => xs.length < sizeLine ∧ ∃ I : Nat → List T → Prop, I 0 [] ∧
  (∀ i x ys, xs[i]? = some x → I i ys → ∃ q', g.put x (captQ cap q) = some q' ∧ tst q' fun b => if b = true then qe q' fun y => I (i + 1) (ys ++ [y]) else I (i + 1) ys) ∧ ∀ ys, I xs.length ys → Q (.l ys)
theorem sim_comp {cap : List (Option Nat)} {wi : TI} {iq : QI} {g : Tg} {tst : TT} {qtst : QT} {te : TE} {qe : QE} (hi : SimI K wi iq) (ht : SimT K tst qtst) (he : SimF K te qe) (hf : (g.ixs.all fun i => cap[i]? == some none) = true) : SimF K (tComp cap wi (g.h K) tst te) (qComp cap iq g qtst qe) := by
  intro dl H σ q Q R rd hq k
  refine hi dl H σ q _ _ rd hq fun xs J hv H1 e1 it held hz => ?_
  obtain ⟨hlen, I, i0, turn, fin⟩ := hz
  have rd1 := rd_capt (cap := cap) (rd.evo e1)
  have hno : ∀ i ∈ g.ixs, (captQ cap q)[i]? = some .no := fun i hi => by
    have z := List.all_eq_true.mp hf i hi
    have z : cap[i]? = some none := by simpa using z
    unfold captQ
    rw [List.getElem?_map, z]
    rfl
  have hcl : (capt cap σ).length = (captQ cap q).length := by simp [capt, captQ]
  refine ⟨fun i m vs σ' H' => m = xs.length - i ∧ i ≤ xs.length ∧ ∃ ts F, Evo dl H1 H' ∧ RdR K dl H' σ' (captQ cap q) ∧ σ'.length = (captQ cap q).length ∧ (∀ p ∈ hv, ∃ F, Rp K dl H' p.1 p.2 F) ∧ Rps K dl H' vs ts F ∧ (∀ b ∈ F, H b = none) ∧ F.Nodup ∧ vs.length ≤ i ∧ I i ts,
    ⟨xs.length, by simp, Nat.zero_le _, [], [], .refl e1.d, rd1, hcl, held, ⟨.nil, fun _ z => nomatch z⟩, (fun _ z => nomatch z), List.nodup_nil, Nat.le_refl _, i0⟩, ?_⟩
  rintro i m vs σ' H' ⟨rfl, hi', ts, F, e2, rd2, hl2, held2, rs, fr, nd, hvl, hI⟩
  by_cases hlt : i < xs.length
  · refine .inr ⟨it.go H' i e2.d held2 hlt, by omega, fun vs2 σ2 H2 => ∃ ts F, Evo dl H1 H2 ∧ RdR K dl H2 σ2 (captQ cap q) ∧ σ2.length = (captQ cap q).length ∧ (∀ p ∈ hv, ∃ F, Rp K dl H2 p.1 p.2 F) ∧ Rps K dl H2 vs2 ts F ∧ (∀ b ∈ F, H b = none) ∧ F.Nodup ∧ vs2.length ≤ i + 1 ∧ I (i + 1) ts,
      fun vs2 σ2 H2 h => ⟨xs.length - (i + 1), by omega, rfl, hlt, h⟩, fun v H2 y => ?_⟩
    have hx : xs[i]? = some xs[i] := by simp [hlt]
    obtain ⟨fp, hfp⟩ : ∃ fp : V × T → List Addr, ∀ p ∈ hv, Rp K dl H' p.1 p.2 (fp p) := by
      classical
      refine ⟨fun p => if h : p ∈ hv then (held2 p h).choose else [], fun p hp => ?_⟩
      simp only [dif_pos hp]
      exact (held2 p hp).choose_spec
    obtain ⟨e3, G, rx, hG⟩ := it.yld H' i xs[i] fp v H2 e2.d hfp hx y
    obtain ⟨q', hq', hz⟩ := turn i xs[i] ts hx hI
    have held3 : ∀ {H3 : Hp}, Evo dl H' H3 → ∀ p ∈ hv, ∃ F, Rp K dl H3 p.1 p.2 F := fun {H3} e p hp => let ⟨F, r⟩ := held2 p hp; ⟨F, r.evo e2.d e⟩
    refine rd_tg (rd2.evo e3) hl2 rx hno hq' fun σ3 r3 r30 l3 => ?_
    refine ht dl H2 σ3 q' _ _ r3 hz fun b H4 e4 hz => ?_
    cases b with
    | false => exact ⟨ts, F, (e2.trans e3).trans e4, r30.evo e4, by omega, held3 (e3.trans e4), (rs.evo e2.d e3).evo e3.d e4, fr, nd, by omega, hz⟩
    | true =>
      refine he dl H4 σ3 q' _ _ (r3.evo e4) hz fun w t G' H5 e5 rw' f5 n5 hz => ?_
      have E := (e2.trans e3).trans (e4.trans e5)
      have rs5 := ((rs.evo e2.d e3).evo e3.d (e4.trans e5))
      refine ⟨ts ++ [t], F ++ (G' ++ []), E, r30.evo (e4.trans e5), by omega, held3 (e3.trans (e4.trans e5)), ⟨rs5.r.append (.cons rw'.r .nil), fun b hb => ?_⟩, fun b hb => ?_, ?_, by simp; omega, hz⟩
      · rcases List.mem_append.mp hb with hb | hb
        · exact rs.n b hb
        · rw [List.append_nil] at hb; exact rw'.n b hb
      · rcases List.mem_append.mp hb with hb | hb
        · exact fr b hb
        · rw [List.append_nil] at hb
          exact ((e1.trans e2).trans (e3.trans e4)).free (f5 b hb)
      · rw [List.append_nil]
        refine List.nodup_append.mpr ⟨nd, n5, fun x hx y hy exy => ?_⟩
        subst exy
        have rs4 := (rs.evo e2.d e3).evo e3.d e4
        exact There.no (rs4.r.there x hx) (f5 x hy)
  · have e : i = xs.length := by omega
    subst e
    refine .inl ⟨it.stop H' e2.d held2, by omega, fun D hD => ?_⟩
    exact k _ _ _ _ ((e1.trans e2).new hD) (rs.lst e2.d hD) (fun b hb => by
      rcases List.mem_cons.mp hb with e | hb
      · rw [e]; exact (e1.trans e2).free hD
      · exact fr b hb) (rs.fresh hD nd) (fin ts hI)
structure QB (X : Cx) (K : PySem.W.Frag) (N' : List Str) (sc : Scope) (tg : Expr) (g : Tg) (ifs : List Expr) (tst : TT) (qtst : QT) (elt : Expr) (te : TE) (qe : QE) : Prop where
  b : ∀ cl C s₂ H₂ fp, PG (blk X N' sc cl C s₂ H₂ fp) tg (g.h K) ∧ PTs (blk X N' sc cl C s₂ H₂ fp) ifs tst ∧ PE (blk X N' sc cl C s₂ H₂ fp) elt te
  t : SimT K tst qtst
  e : SimF K te qe
theorem qb_mk0 {N' : List Str} {sc : Scope} {tg elt : Expr} {g : Tg} {te : TE} {qe : QE} (h : ∀ cl C s₂ H₂ fp, PG (blk X N' sc cl C s₂ H₂ fp) tg (g.h K) ∧ QPF (blk X N' sc cl C s₂ H₂ fp) K elt te qe) : QB X K N' sc tg g [] tTst0 qTst0 elt te qe :=
  ⟨fun cl C s₂ H₂ fp => ⟨(h cl C s₂ H₂ fp).1, pts_nil, (h cl C s₂ H₂ fp).2.h⟩, sim_tst0, (h [] 0 X.s₀ (fun _ => none) []).2.s⟩
theorem qb_mk1 {N' : List Str} {sc : Scope} {tg elt c : Expr} {g : Tg} {tst : TT} {qtst : QT} {te : TE} {qe : QE} (h : ∀ cl C s₂ H₂ fp, PG (blk X N' sc cl C s₂ H₂ fp) tg (g.h K) ∧ QPT (blk X N' sc cl C s₂ H₂ fp) K c tst qtst ∧ QPF (blk X N' sc cl C s₂ H₂ fp) K elt te qe) : QB X K N' sc tg g [c] tst qtst elt te qe :=
  ⟨fun cl C s₂ H₂ fp => ⟨(h cl C s₂ H₂ fp).1, pts_one (h cl C s₂ H₂ fp).2.1.h, (h cl C s₂ H₂ fp).2.2.h⟩, (h [] 0 X.s₀ (fun _ => none) []).2.1.s, (h [] 0 X.s₀ (fun _ => none) []).2.2.s⟩
theorem qe_comp {tg iter elt : Expr} {ifs : List Expr} {sc : Scope} {pos : Pos} {N' : List Str} {cap : List (Option Nat)} {wi : TI} {iq : QI} {g : Tg} {tst : TT} {qtst : QT} {te : TE} {qe : QE} (hc : X.calm = true) (hi : QPI X K tg iter wi iq) (hcap : Caps X sc N' cap) (hb : QB X K N' sc tg g ifs tst qtst elt te qe)
    (hf : (g.ixs.all fun i => cap[i]? == some none) = true := by rfl)
    (hkind : sc.kind = .function := by rfl) (hcell : ∀ y ∈ sc.names, y.2 ≠ .cell := by decide) (hnames : ∀ y ∈ sc.names, y.2 = .local → sc.names.lookup y.1 = some .local := by decide)
    (hfree : (sc.names.all fun y => y.2 != .free || (X.env.kindOf y.1 == some .cell || X.env.kindOf y.1 == some .free)) = true := by rfl)
    (hs : ∀ x, foldedSetIterable iter X.env x = pure x := by intro _; rfl) : QPF X K (.ListComp elt [⟨tg, iter, ifs, 0⟩] sc pos) (tComp cap wi (g.h K) tst te) (qComp cap iq g qtst qe) :=
  ⟨pe_comp hc hi.h hcap hb.b hkind hcell hnames hfree hs, sim_comp hi.s hb.t hb.e hf⟩
theorem qs_comp {i : Nat} {y : Str} {tg iter elt : Expr} {ifs : List Expr} {sc : Scope} {pos spos py : Pos} {N' : List Str} {cap : List (Option Nat)} {wi : TI} {iq : QI} {g : Tg} {tst : TT} {qtst : QT} {te : TE} {qe : QE} (hN : X.N.Nodup) (hi' : X.N[i]? = some y) (hy : Loc X.env.scope y)
    (hc : X.calm = true) (hi : QPI X K tg iter wi iq) (hcap : Caps X sc N' cap) (hb : QB X K N' sc tg g ifs tst qtst elt te qe)
    (hf' : (g.ixs.all fun i => cap[i]? == some none) = true := by rfl)
    (hsw : swapsWith (.ListComp elt [⟨tg, iter, ifs, 0⟩] sc pos) (some (.Name y py)) spos.line X.env = pure true := by rfl)
    (hf : X.fn y = true ∨ X.env.scope.names.lookup y = some .local := by first | exact .inl rfl | exact .inr rfl | assumption)
    (hkind : sc.kind = .function := by rfl) (hcell : ∀ y ∈ sc.names, y.2 ≠ .cell := by decide) (hnames : ∀ y ∈ sc.names, y.2 = .local → sc.names.lookup y.1 = some .local := by decide)
    (hfree : (sc.names.all fun y => y.2 != .free || (X.env.kindOf y.1 == some .cell || X.env.kindOf y.1 == some .free)) = true := by rfl)
    (hs : ∀ x, foldedSetIterable iter X.env x = pure x := by intro _; rfl) : QPS X K (.Assign [.Name y py] (.ListComp elt [⟨tg, iter, ifs, 0⟩] sc pos) spos) (tAsg (tComp cap wi (g.h K) tst te) (gName i)) (qSet i (qComp cap iq g qtst qe)) :=
  ⟨ps_comp hN hi' hy hc hi.h hcap hb.b hsw hf hkind hcell hnames hfree hs, sim_set (sim_comp hi.s hb.t hb.e hf')⟩
end
end L2
namespace L2
open PySem PySem.Spec PyProof.Rows
section
variable {X : Cx} {K : PySem.W.Frag} {dl : Dl} {H₀ H : Hp} {hs : List (V × T)} {σ : St} {q : Sq} {F : Nat → List Addr} {e o : Expr} {te : TE} {qe : QE} {pos apos cpos : Pos}
mutual
theorem RepF.uniq : ∀ {v : V} {t : T} {F F' : List Addr}, RepF K dl H v t F → RepF K dl H v t F' → F = F'
  | _, _, _, _, .n, h => by cases h; rfl
  | _, _, _, _, .b _, h => by cases h; rfl
  | _, _, _, _, .i _, h => by cases h; rfl
  | _, _, _, _, .s _, h => by cases h; rfl
  | _, _, _, _, .ty _, h => by cases h; rfl
  | _, _, _, _, .x _, h => by cases h; rfl
  | _, _, _, _, .z _, h => by cases h; rfl
  | _, _, _, _, .k _, h => by cases h; rfl
  | _, _, _, _, .q _, h => by cases h; rfl
  | _, _, _, _, .fd _ _, h => by cases h; rfl
  | _, _, _, _, .t h1 r1, h => by
    cases h with
    | t h2 r2 =>
      rw [h1] at h2
      cases h2
      exact RepFs.uniq r1 r2
  | _, _, _, _, .l h1 r1, h => by
    cases h with
    | l h2 r2 =>
      rw [h1] at h2
      cases h2
      rw [RepFs.uniq r1 r2]
  | _, _, _, _, .d h1 r1, h => by
    cases h with
    | d h2 r2 =>
      rw [h1] at h2
      cases h2
      rw [RepFk.uniq r1 r2]
theorem RepFs.uniq : ∀ {v : List V} {t : List T} {F F' : List Addr}, RepFs K dl H v t F → RepFs K dl H v t F' → F = F'
  | _, _, _, _, .nil, h => by cases h; rfl
  | _, _, _, _, .cons h1 r1, h => by
    cases h with
    | cons h2 r2 => rw [RepF.uniq h1 h2, RepFs.uniq r1 r2]
theorem RepFk.uniq : ∀ {v : List (Key × V)} {t : List (Key × T)} {F F' : List Addr}, RepFk K dl H v t F → RepFk K dl H v t F' → F = F'
  | _, _, _, _, .nil, h => by cases h; rfl
  | _, _, _, _, .cons h1 r1, h => by
    cases h with
    | cons h2 r2 => rw [RepF.uniq h1 h2, RepFk.uniq r1 r2]
end
theorem Rel.heldOut {H' : Hp} (r : Rel K dl H₀ hs H σ q F) (e : Evo dl H H') {p : V × T} (hp : p ∈ hs) {Fp : List Addr} (h : Rp K dl H' p.1 p.2 Fp) {b : Addr} (hb : H b = none) : b ∉ Fp := fun z => by
  obtain ⟨Fq, h1, _⟩ := r.h p hp
  have e1 := (h1.evo r.d e).r.uniq h.r
  subst e1
  exact There.no (h1.r.there b z) hb
theorem Rel.relist {i : Nat} {p : Addr} {ws : List V} {xs ys : List T} {G G' : List Addr} {H' : Hp} (r : Rel K dl H₀ hs H σ q F) (hi : q[i]? = some (.o (.l xs))) (hv : σ[i]? = some (some (.ref p))) (hF : F i = p :: G) (e : Evo dl H H')
    (rs : RepFs K dl H' ws ys G') (hn : G'.Nodup) (hG : ∀ b ∈ G', b ∈ G ∨ (H b = none ∧ Nd dl b)) : RelX K dl H₀ hs (upd H' p (.lst ws)) σ (q.set i (.o (.l ys))) := by
  have r' := r.evo e
  obtain ⟨o1, o2, o3⟩ := r.o i _ hi
  obtain ⟨v', hv', rp⟩ := r'.g i _ _ hi rfl
  rw [hv] at hv'
  cases hv'
  obtain ⟨p2, vs2, G2, e2, eF, h1, h2⟩ := rp.r.lst
  cases e2
  rw [hF] at eF
  cases eF
  rw [hF] at o1
  have pG : p ∉ G := (List.nodup_cons.mp o1).1
  have pth : There H p := r.thereF (i := i) (by rw [hF]; exact List.mem_cons_self)
  have pG' : p ∉ G' := fun z => by
    rcases hG p z with z | z
    · exact pG z
    · exact pth.no z.1
  have pn : Nd dl p := rp.n p (by rw [hF]; exact List.mem_cons_self)
  have tf : TF H' (upd H' p (.lst ws)) := ⟨fun a us h => (by
    rw [upd_ne]; exact h
    intro z; subst z
    rw [h] at h1; cases h1), fun a ob u h => (by
    rw [upd_ne]; exact h
    intro z; subst z
    rw [h] at h1; cases h1), fun a xs' h => (by
    by_cases z : a = p
    · subst z
      exact ⟨_, upd_same⟩
    · exact ⟨xs', by rw [upd_ne z]; exact h⟩)⟩
  have rs2 : RepFs K dl (upd H' p (.lst ws)) ws ys G' := rs.stay tf (fun _ z => z) fun b hb ob eb => by
    have ne : b ≠ p := by
      intro z
      subst z
      exact pG' hb
    rw [upd_ne ne]; exact eb
  refine ⟨_, r'.write (t' := .l ys) (F' := p :: G') hi hv (by rw [hF]; exact List.mem_cons_self) (fun _ _ => ⟨_, rfl⟩) ⟨.l upd_same rs2, fun b hb => ?_⟩ (List.nodup_cons.mpr ⟨pG', hn⟩) fun b hb => ?_⟩
  · rcases List.mem_cons.mp hb with z | hb
    · rw [z]; exact pn
    · rcases hG b hb with z | z
      · exact rp.n b (by rw [hF]; exact List.mem_cons_of_mem _ z)
      · exact z.2
  · rcases List.mem_cons.mp hb with z | hb
    · rw [z, hF]; exact .inl List.mem_cons_self
    · rcases hG b hb with z | z
      · rw [hF]; exact .inl (List.mem_cons_of_mem _ z)
      · exact .inr ⟨r.fz z.1, fun j hj => (r.thereF hj).no z.1, fun w u Fp h1 h2 => r.heldOut e (p := (w, u)) h2 h1 z.1⟩
def qAppend (i : Nat) (qe : QE) : QS := fun D q => match q[i]? with
  | some (.o (.l xs)) => xs.length < sizeLine ∧ qe q fun t => D.nx (q.set i (.o (.l (xs ++ [t]))))
  | _ => False
theorem mt_appendK (hK : X.K = K) {i : Nat} (ho : PE X o (tVar i)) (he : PE X e te) (hbase : attributeBase o "append" X.env (eval o X.env) = eval o X.env := by rfl)
    (hfew : ((backTo cpos (starEach [e] X.env)).all (fun x => !x.1) && (backToKw cpos (keywordEach [] X.env)).all (fun x => x.1.isSome)
      && decide (([e] : List Expr).length + ([] : List Keyword).length + (if ([] : List Keyword).isEmpty then 0 else 1) < 30)) = true := by rfl)
    (hline : (apos.endLine == cpos.line) = true := by rfl) (hs : starEach [e] X.env = (false, eval e X.env) :: starEach [] X.env := by rfl) (hplain : (backTo cpos (starEach [] X.env)).any (·.1) = false := by rfl) :
    PE X (.Call (.Attribute o "append" apos) [e] [] cpos) (tBM K "list" rAppend (tVar i) (tCons te tNil)) := by
  subst hK
  exact pe_bm PySem.F.plainAttrs_list PySem.F.slot_list_append PySem.F.type_list_append mt_append ho (pa_cons he pa_nil hs) hbase hfew hline hs hplain
theorem sim_append {i : Nat} (he : SimF K te qe) : SimS K (tDrop (tBM K "list" rAppend (tVar i) (tCons te tNil))) (qAppend i qe) := fun dl H₀ hs H σ q Dq D ⟨F, r⟩ hq E => by
  unfold qAppend at hq
  split at hq
  · rename_i xs ei
    obtain ⟨hz, hq⟩ := hq
    obtain ⟨v, hv, rp⟩ := r.g i _ _ ei rfl
    obtain ⟨o1, o2, o3⟩ := r.o i _ ei
    obtain ⟨p, vs, G, rfl, eF, h1, h2⟩ := rp.r.lst
    refine ⟨_, hv, .inl ⟨rfl, vs, SqL.of h1⟩, he dl H σ q _ _ r.rd hq fun w t F' H' e1 r1 f1 n1 hz' => ?_⟩
    have pn : Nd dl p := rp.n p (by rw [eF]; exact List.mem_cons_self)
    refine ⟨p, vs, w, rfl, rfl, e1.k p _ h1 pn, by rw [h2.len]; exact hz, ?_⟩
    have hG : ∀ b ∈ G, Nd dl b := fun b hb => rp.n b (by rw [eF]; exact List.mem_cons_of_mem _ hb)
    have rs2 : RepFs K dl H' vs xs G := h2.stay (e1.tf r.d) (fun _ z => z) fun b hb o eo => e1.k b o eo (hG b hb)
    refine E.nx _ σ _ (r.relist ei hv eF e1 (rs2.append (.cons r1.r .nil)) ?_ fun b hb => ?_) hz'
    · rw [List.append_nil]
      rw [eF] at o1
      refine List.nodup_append.mpr ⟨(List.nodup_cons.mp o1).2, n1, fun x hx y hy exy => ?_⟩
      subst exy
      exact There.no (h2.there x hx) (f1 x hy)
    · rcases List.mem_append.mp hb with hb | hb
      · exact .inl hb
      · rw [List.append_nil] at hb
        exact .inr ⟨f1 b hb, r1.n b hb⟩
  · exact hq.elim
theorem qs_append {i : Nat} {spos : Pos} (ho : PE X o (tVar i)) (he : QPF X K e te qe) (hK : X.K = K := by rfl) (hbase : attributeBase o "append" X.env (eval o X.env) = eval o X.env := by rfl)
    (hfew : ((backTo cpos (starEach [e] X.env)).all (fun x => !x.1) && (backToKw cpos (keywordEach [] X.env)).all (fun x => x.1.isSome)
      && decide (([e] : List Expr).length + ([] : List Keyword).length + (if ([] : List Keyword).isEmpty then 0 else 1) < 30)) = true := by rfl)
    (hline : (apos.endLine == cpos.line) = true := by rfl) (hs : starEach [e] X.env = (false, eval e X.env) :: starEach [] X.env := by rfl) (hplain : (backTo cpos (starEach [] X.env)).any (·.1) = false := by rfl)
    (hsw : swapsWith (.Call (.Attribute o "append" apos) [e] [] cpos) none spos.line X.env = pure false := by rfl) :
    QPS X K (.Expr (.Call (.Attribute o "append" apos) [e] [] cpos) spos) (tDrop (tBM K "list" rAppend (tVar i) (tCons te tNil))) (qAppend i qe) := ⟨ps_expr (mt_appendK hK ho he.h hbase hfew hline hs hplain) hsw, sim_append he.s⟩
def qExtend (i : Nat) (qe : QE) : QS := fun D q => match q[i]? with
  | some (.o (.l xs)) => qe q fun t => match t with
    | .l ys => xs.length + ys.length ≤ sizeLine ∧ D.nx (q.set i (.o (.l (xs ++ ys))))
    | _ => False
  | _ => False
theorem mt_extendK (hK : X.K = K) {i : Nat} (ho : PE X o (tVar i)) (he : PE X e te) (hbase : attributeBase o "extend" X.env (eval o X.env) = eval o X.env := by rfl)
    (hfew : ((backTo cpos (starEach [e] X.env)).all (fun x => !x.1) && (backToKw cpos (keywordEach [] X.env)).all (fun x => x.1.isSome)
      && decide (([e] : List Expr).length + ([] : List Keyword).length + (if ([] : List Keyword).isEmpty then 0 else 1) < 30)) = true := by rfl)
    (hline : (apos.endLine == cpos.line) = true := by rfl) (hs : starEach [e] X.env = (false, eval e X.env) :: starEach [] X.env := by rfl) (hplain : (backTo cpos (starEach [] X.env)).any (·.1) = false := by rfl) :
    PE X (.Call (.Attribute o "extend" apos) [e] [] cpos) (tBM K "list" rExtend (tVar i) (tCons te tNil)) := by
  subst hK
  exact pe_bm PySem.F.plainAttrs_list PySem.F.slot_list_extend PySem.F.type_list_extend mt_extend ho (pa_cons he pa_nil hs) hbase hfew hline hs hplain
theorem sim_extend {i : Nat} (he : SimF K te qe) : SimS K (tDrop (tBM K "list" rExtend (tVar i) (tCons te tNil))) (qExtend i qe) := fun dl H₀ hs H σ q Dq D ⟨F, r⟩ hq E => by
  unfold qExtend at hq
  split at hq
  · rename_i xs ei
    obtain ⟨v, hv, rp⟩ := r.g i _ _ ei rfl
    obtain ⟨o1, o2, o3⟩ := r.o i _ ei
    obtain ⟨p, vs, G, rfl, eF, h1, h2⟩ := rp.r.lst
    refine ⟨_, hv, .inl ⟨rfl, vs, SqL.of h1⟩, he dl H σ q _ _ r.rd hq fun w t F' H' e1 r1 f1 n1 hz' => ?_⟩
    split at hz'
    · rename_i ys _
      obtain ⟨p2, ws, G2, rfl, rfl, h3, h4⟩ := r1.r.lst
      have pn : Nd dl p := rp.n p (by rw [eF]; exact List.mem_cons_self)
      refine ⟨p, p2, vs, ws, rfl, rfl, e1.k p _ h1 pn, h3, by rw [h2.len, h4.len]; exact hz'.1, ?_⟩
      have hG : ∀ b ∈ G, Nd dl b := fun b hb => rp.n b (by rw [eF]; exact List.mem_cons_of_mem _ hb)
      have rs2 : RepFs K dl H' vs xs G := h2.stay (e1.tf r.d) (fun _ z => z) fun b hb o eo => e1.k b o eo (hG b hb)
      refine E.nx _ σ _ (r.relist ei hv eF e1 (rs2.append h4) ?_ fun b hb => ?_) hz'.2
      · rw [eF] at o1
        refine List.nodup_append.mpr ⟨(List.nodup_cons.mp o1).2, (List.nodup_cons.mp n1).2, fun x hx y hy exy => ?_⟩
        subst exy
        exact There.no (h2.there x hx) (f1 x (List.mem_cons_of_mem _ hy))
      · rcases List.mem_append.mp hb with hb | hb
        · exact .inl hb
        · exact .inr ⟨f1 b (List.mem_cons_of_mem _ hb), r1.n b (List.mem_cons_of_mem _ hb)⟩
    · exact hz'.elim
  · exact hq.elim
theorem qs_extend {i : Nat} {spos : Pos} (ho : PE X o (tVar i)) (he : QPF X K e te qe) (hK : X.K = K := by rfl) (hbase : attributeBase o "extend" X.env (eval o X.env) = eval o X.env := by rfl)
    (hfew : ((backTo cpos (starEach [e] X.env)).all (fun x => !x.1) && (backToKw cpos (keywordEach [] X.env)).all (fun x => x.1.isSome)
      && decide (([e] : List Expr).length + ([] : List Keyword).length + (if ([] : List Keyword).isEmpty then 0 else 1) < 30)) = true := by rfl)
    (hline : (apos.endLine == cpos.line) = true := by rfl) (hs : starEach [e] X.env = (false, eval e X.env) :: starEach [] X.env := by rfl) (hplain : (backTo cpos (starEach [] X.env)).any (·.1) = false := by rfl)
    (hsw : swapsWith (.Call (.Attribute o "extend" apos) [e] [] cpos) none spos.line X.env = pure false := by rfl) :
    QPS X K (.Expr (.Call (.Attribute o "extend" apos) [e] [] cpos) spos) (tDrop (tBM K "list" rExtend (tVar i) (tCons te tNil))) (qExtend i qe) := ⟨ps_expr (mt_extendK hK ho he.h hbase hfew hline hs hplain) hsw, sim_extend he.s⟩
end
end L2
namespace L2
open PySem PySem.Spec PyProof.Rows
section
variable {X : Cx} {K : PySem.W.Frag} {dl : Dl} {H₀ H : Hp} {hs : List (V × T)} {σ : St} {q : Sq} {F : Nat → List Addr} {a b e o c : Expr} {te ta tb tk tv : TE} {qe qa qb qk qv : QE} {pos apos cpos : Pos}
theorem RepFs.last : ∀ {ts : List T} {x : T} {vs : List V} {F : List Addr}, RepFs K dl H vs (ts ++ [x]) F → ∃ us w F1 F2, vs = us ++ [w] ∧ RepFs K dl H us ts F1 ∧ RepF K dl H w x F2 ∧ F = F1 ++ F2
  | [], x, vs, F, h => by
    cases h with
    | cons h1 h2 =>
      cases h2
      exact ⟨[], _, [], _, rfl, .nil, h1, by simp⟩
  | t :: ts, x, vs, F, h => by
    cases h with
    | cons h1 h2 =>
      obtain ⟨us, w, F1, F2, rfl, r1, r2, rfl⟩ := RepFs.last h2
      exact ⟨_ :: us, w, _, F2, rfl, .cons h1 r1, r2, by rw [List.append_assoc]⟩
def qPop (i j : Nat) : QS := fun D q => match q[i]? with
  | some (.o (.l xs)) => ∃ ys x, xs = ys ++ [x] ∧ T.ims xs = true ∧ i ≠ j ∧ D.nx ((q.set i (.o (.l ys))).set j (.o x))
  | _ => False
theorem ims_append {xs ys : List T} : T.ims (xs ++ ys) = (T.ims xs && T.ims ys) := by
  induction xs with
  | nil => rfl
  | cons x r ih => show (x.im && T.ims (r ++ ys)) = ((x.im && T.ims r) && T.ims ys); rw [ih, Bool.and_assoc]
theorem sim_pop {i j : Nat} : SimS K (tAsg (tBM0 K "list" rPop (tVar i)) (gName j)) (qPop i j) := fun dl H₀ hs H σ q Dq D ⟨F, r⟩ hq E => by
  unfold qPop at hq
  split at hq
  · rename_i xs ei
    obtain ⟨ys, x, rfl, him, hij, hq⟩ := hq
    obtain ⟨v, hv, rp⟩ := r.g i _ _ ei rfl
    obtain ⟨p, vs, G, rfl, eF, h1, h2⟩ := rp.r.lst
    obtain ⟨us, w, F1, F2, rfl, r1, r2, rfl⟩ := h2.last
    rw [ims_append, Bool.and_eq_true] at him
    obtain rfl := r1.im him.1
    have hx : x.im = true := by have := him.2; simpa [T.ims] using this
    obtain rfl := r2.im hx
    refine ⟨_, hv, .inl ⟨rfl, _, SqL.of h1⟩, p, _, w, rfl, rfl, h1, by simp, ?_⟩
    rw [List.dropLast_concat]
    obtain ⟨F3, r3⟩ := r.relist (H' := H) (ws := us) (ys := ys) (G' := []) ei hv eF (.refl r.d) r1 List.nodup_nil (fun _ z => nomatch z)
    have tf : RepF K dl (upd H p (.lst us)) w x [] := by
      have tf : TF H (upd H p (.lst us)) := ⟨fun a us' h => (by
        rw [upd_ne]; exact h
        intro z; subst z
        rw [h] at h1; cases h1), fun a ob u h => (by
        rw [upd_ne]; exact h
        intro z; subst z
        rw [h] at h1; cases h1), fun a xs' h => (by
        by_cases z : a = p
        · subst z
          exact ⟨_, upd_same⟩
        · exact ⟨xs', by rw [upd_ne z]; exact h⟩)⟩
      exact r2.stay tf (fun _ z => z) fun _ z => nomatch z
    exact E.nx _ _ _ (r3.putX (i := j) (.refl r3.d) (.c tf) (fun _ z => nomatch z) List.nodup_nil) hq
  · exact hq.elim
theorem qs_pop {i j : Nat} {x : Str} {pos' : Pos} (hN : X.N.Nodup) (hi : X.N[j]? = some x) (hx : Loc X.env.scope x) (ho : PE X o (tVar i)) (hK : X.K = K := by rfl) (hbase : attributeBase o "pop" X.env (eval o X.env) = eval o X.env := by rfl) (hline : (apos.endLine == cpos.line) = true := by rfl)
    (hs : swapsWith (.Call (.Attribute o "pop" apos) [] [] cpos) (some (.Name x pos')) pos.line X.env = pure false := by rfl) (hf : X.fn x = true ∨ X.env.scope.names.lookup x = some .local := by first | exact .inl rfl | exact .inr rfl | assumption) :
    QPS X K (.Assign [.Name x pos'] (.Call (.Attribute o "pop" apos) [] [] cpos) pos) (tAsg (tBM0 K "list" rPop (tVar i)) (gName j)) (qPop i j) :=
  ⟨by subst hK; exact ps_set hN hi hx (pe_bm0 PySem.F.plainAttrs_list PySem.F.slot_list_pop PySem.F.type_list_pop mt_pop ho hbase hline) hs hf, sim_pop⟩
def qUnp (g : Tg) (qe : QE) : QS := fun D q => qe q fun t => t.im = true ∧ ∃ q', g.put t q = some q' ∧ D.nx q'
theorem sim_unp {g : Tg} (he : SimE K te qe) : SimS K (tAsg te (g.h K)) (qUnp g qe) := fun dl H₀ hs H σ q Dq D ⟨F, r⟩ hq E => he dl H σ q _ _ r.rd hq fun v t F' H' e1 r1 ⟨him, q', hq', hz⟩ => by
  obtain rfl := r1.r.im him
  exact rel_tg (r.evo e1) r1 (fun _ _ _ _ _ z => nomatch z) hq' fun σ' r' => E.nx _ _ _ r' hz
theorem qs_unp {tg : Expr} {g : Tg} (he : QPE X K e te qe) (hg : PG X tg (g.h K)) (hs : swapsWithSole [tg] e pos.line X.env = pure false := by rfl) (hw : swappedStores [tg] e X.env = pure none := by rfl)
    (h1 : (assignEach [tg] X.env).map (·.2) = [assign tg X.env] := by rfl) : QPS X K (.Assign [tg] e pos) (tAsg te (g.h K)) (qUnp g qe) := ⟨ps_asg he.h hg hs hw h1, sim_unp he.s⟩
def qPar (i j : Nat) (qa qb : QE) : QS := fun D q => qa q fun t => t.im = true ∧ qb q fun u => u.im = true ∧ D.nx ((q.set i (.o t)).set j (.o u))
theorem sim_par {i j : Nat} (ha : SimE K ta qa) (hb : SimE K tb qb) : SimS K (tPar i j (tCons ta (tCons tb tNil))) (qPar i j qa qb) := fun dl H₀ hs H σ q Dq D ⟨F, r⟩ hq E => by
  refine ha dl H σ q _ _ r.rd hq fun v t F1 H1 e1 r1 ⟨m1, hq⟩ => hb dl H1 σ q _ _ (r.rd.evo e1) hq fun w u F2 H2 e2 r2 ⟨m2, hq⟩ => ?_
  obtain rfl := r1.r.im m1
  obtain rfl := r2.r.im m2
  refine ⟨v, w, rfl, ?_⟩
  obtain ⟨F1, R1⟩ := r.putX (i := i) (e1.trans e2) (r1.evo e1.d e2) (fun _ z => nomatch z) List.nodup_nil
  exact E.nx _ _ _ (R1.putX (.refl R1.d) r2 (fun _ z => nomatch z) List.nodup_nil) hq
def T.key : T → Option Key
  | .i x => some (.inl x)
  | .s x => some (.inr x)
  | _ => none
theorem RepF.key {v : V} {t : T} {F : List Addr} {k : Key} (h : RepF K dl H v t F) (e : t.key = some k) : v = kV k := by
  cases h <;> first | (cases e; rfl) | cases e
def lookT (ks : List (Key × T)) (k : Key) : Option T := (ks.find? fun p => decide (p.1 = k)).map (·.2)
def putT (ks : List (Key × T)) (k : Key) (t : T) : List (Key × T) := if (ks.any fun p => decide (p.1 = k)) = true then ks.map (fun p => if p.1 = k then (p.1, t) else p) else ks ++ [(k, t)]
theorem RepFk.look : ∀ {vs : List (Key × V)} {ts : List (Key × T)} {F : List Addr} (k : Key), RepFk K dl H vs ts F → (lookT ts k = none ∧ valV vs k = none) ∨ ∃ t v G, lookT ts k = some t ∧ valV vs k = some v ∧ RepF K dl H v t G ∧ ∀ b ∈ G, b ∈ F
  | _, _, _, k, .nil => .inl ⟨rfl, rfl⟩
  | _, _, _, k, .cons (k := k0) h r => by
    by_cases e : k0 = k
    · subst e
      exact .inr ⟨_, _, _, by simp [lookT], by simp [valV], h, fun b hb => List.mem_append_left _ hb⟩
    · rcases RepFk.look k r with ⟨h1, h2⟩ | ⟨t, v, G, h1, h2, h3, h4⟩
      · refine .inl ⟨?_, ?_⟩
        · unfold lookT at h1 ⊢; rw [List.find?_cons, decide_eq_false e]; exact h1
        · unfold valV at h2 ⊢; rw [List.find?_cons, decide_eq_false e]; exact h2
      · refine .inr ⟨t, v, G, ?_, ?_, h3, fun b hb => List.mem_append_right _ (h4 b hb)⟩
        · unfold lookT at h1 ⊢; rw [List.find?_cons, decide_eq_false e]; exact h1
        · unfold valV at h2 ⊢; rw [List.find?_cons, decide_eq_false e]; exact h2
mutual
def T.imk : List (Key × T) → Bool
  | [] => true
  | (_, x) :: r => x.im && T.imk r
end
theorem RepFk.im : ∀ {vs : List (Key × V)} {ts : List (Key × T)} {F : List Addr}, RepFk K dl H vs ts F → T.imk ts = true → F = []
  | _, _, _, .nil, _ => rfl
  | _, _, _, .cons h r, q => by
    have q : (_ && _) = true := q
    rw [Bool.and_eq_true] at q
    rw [RepF.im h q.1, RepFk.im r q.2]
    rfl
theorem RepFk.keys : ∀ {vs : List (Key × V)} {ts : List (Key × T)} {F : List Addr}, RepFk K dl H vs ts F → ∀ k : Key, (vs.any fun p => decide (p.1 = k)) = ts.any fun p => decide (p.1 = k)
  | _, _, _, .nil, _ => rfl
  | _, _, _, .cons h r, k => by rw [List.any_cons, List.any_cons, RepFk.keys r k]
theorem RepFk.put {k : Key} {w : V} {t : T} (hw : RepF K dl H w t []) : ∀ {vs : List (Key × V)} {ts : List (Key × T)}, RepFk K dl H vs ts [] → RepFk K dl H (putK vs k w) (putT ts k t) [] := by
  have mp : ∀ {vs : List (Key × V)} {ts : List (Key × T)} {F : List Addr}, RepFk K dl H vs ts F → F = [] → RepFk K dl H (vs.map fun p => if p.1 = k then (p.1, w) else p) (ts.map fun p => if p.1 = k then (p.1, t) else p) [] := by
    intro vs ts F h
    induction ts generalizing vs F with
    | nil => intro _; cases h; exact .nil
    | cons p ts ih =>
      cases h with
      | @cons k0 v x vs _ F1 F2 h1 h2 =>
        intro e
        obtain ⟨e1, e2⟩ := List.append_eq_nil_iff.mp e
        subst e1 e2
        have z := ih h2 rfl
        rw [List.map_cons, List.map_cons]
        by_cases e0 : k0 = k
        · show RepFk K dl H ((if k0 = k then (k0, w) else (k0, v)) :: _) ((if k0 = k then (k0, t) else (k0, x)) :: _) ([] ++ [])
          rw [if_pos e0, if_pos e0]
          exact .cons hw z
        · show RepFk K dl H ((if k0 = k then (k0, w) else (k0, v)) :: _) ((if k0 = k then (k0, t) else (k0, x)) :: _) ([] ++ [])
          rw [if_neg e0, if_neg e0]
          exact .cons h1 z
  have sn : ∀ {vs : List (Key × V)} {ts : List (Key × T)} {F : List Addr}, RepFk K dl H vs ts F → RepFk K dl H (vs ++ [(k, w)]) (ts ++ [(k, t)]) F := by
    intro vs ts F h
    induction ts generalizing vs F with
    | nil => cases h; exact .cons (F := []) hw .nil
    | cons p ts ih =>
      cases h with
      | cons h1 h2 => exact .cons h1 (ih h2)
  intro vs ts h
  unfold putK putT
  rw [h.keys k]
  split
  · exact mp h rfl
  · exact sn h
theorem Rel.redict {i : Nat} {p : Addr} {ws : List (Key × V)} {xs ys : List (Key × T)} {H' : Hp} (r : Rel K dl H₀ hs H σ q F) (hi : q[i]? = some (.o (.d xs))) (hv : σ[i]? = some (some (.ref p))) (e : Evo dl H H')
    (rs : RepFk K dl H' ws ys []) : RelX K dl H₀ hs (upd H' p (.dK ws)) σ (q.set i (.o (.d ys))) := by
  have r' := r.evo e
  obtain ⟨v', hv', rp⟩ := r'.g i _ _ hi rfl
  rw [hv] at hv'
  cases hv'
  obtain ⟨p2, vs2, G2, e2, eF, h1, h2⟩ := rp.r.dic
  cases e2
  have pn : Nd dl p := rp.n p (by rw [eF]; exact List.mem_cons_self)
  have tf : TF H' (upd H' p (.dK ws)) := ⟨fun a us h => (by
    rw [upd_ne]; exact h
    intro z; subst z
    rw [h] at h1; cases h1), fun a ob u h => (by
    rw [upd_ne]; exact h
    intro z; subst z
    rw [h] at h1; cases h1), fun a xs' h => (by
    have ne : a ≠ p := by
      intro z
      subst z
      rw [h] at h1
      cases h1
    exact ⟨xs', by rw [upd_ne ne]; exact h⟩)⟩
  have rs2 : RepFk K dl (upd H' p (.dK ws)) ws ys [] := rs.stay tf (fun _ z => z) fun _ z => nomatch z
  exact ⟨_, r'.write (t' := .d ys) (F' := [p]) hi hv (by rw [eF]; exact List.mem_cons_self) (fun xs' h => by rw [h1] at h; cases h) ⟨.d upd_same rs2, fun b hb => by rw [List.mem_singleton.mp hb]; exact pn⟩ (by simp) fun b hb => by rw [List.mem_singleton.mp hb, eF]; exact .inl List.mem_cons_self⟩
def qPut (i : Nat) (qk qv : QE) : QS := fun D q => match q[i]? with
  | some (.o (.d xs)) => qv q fun t => qk q fun u => match u.key with
    | some k => xs.length < sizeLine ∧ T.imk xs = true ∧ t.im = true ∧ D.nx (q.set i (.o (.d (putT xs k t))))
    | none => False
  | _ => False
theorem sim_put {i : Nat} (hk : SimE K tk qk) (hv : SimE K tv qv) : SimS K (sDPut (tVar i) tk tv) (qPut i qk qv) := fun dl H₀ hs H σ q Dq D ⟨F, r⟩ hq E => by
  unfold qPut at hq
  split at hq
  · rename_i xs ei
    refine hv dl H σ q _ _ r.rd hq fun w t F1 H1 e1 r1 hq => ?_
    obtain ⟨v, hv', rp⟩ := (r.evo e1).g i _ _ ei rfl
    refine ⟨v, hv', hk dl H1 σ q _ _ (r.rd.evo e1) hq fun y u F2 H2 e2 r2 hq => ?_⟩
    split at hq
    · rename_i k ek
      obtain ⟨hz, hm, ht, hq⟩ := hq
      obtain rfl := r1.r.im ht
      have rp2 := rp.evo e1.d e2
      obtain ⟨p, vs, G, rfl, eF, h1, h2⟩ := rp2.r.dic
      obtain rfl := h2.im hm
      rw [r2.r.key ek]
      exact ⟨p, _, rfl, DPut.k h1 (by rw [h2.len]; exact hz), E.nx _ _ _ (r.redict ei hv' (e1.trans e2) (RepFk.put (r1.evo e1.d e2).r h2)) hq⟩
    · exact hq.elim
  · exact hq.elim
theorem qs_put {i : Nat} {pos' : Pos} (hu : X.A.units + 1 < cLine) (ho : PE X o (tVar i)) (hk : QPE X K a tk qk) (hv : QPE X K b tv qv) (hs : swapsWith b (some (.Subscript o a pos')) pos.line X.env = pure false := by rfl) :
    QPS X K (.Assign [.Subscript o a pos'] b pos) (sDPut (tVar i) tk tv) (qPut i qk qv) := ⟨ps_dput hu ho hk.h hv.h hs, sim_put hk.s hv.s⟩
theorem qe_dnew : QPF X K (.Dict [] [] pos) tDNewK (qC (.d [])) := ⟨pe_dnewK, fun dl H σ q Q R rd hq k => fun p hp => k _ _ [p] _ ((Evo.refl rd.d).new hp) ⟨.d upd_same .nil, fun b hb => by rw [List.mem_singleton.mp hb]; exact rd.d.nd0 hp⟩ (fun b hb => by rw [List.mem_singleton.mp hb]; exact hp) (by simp) hq⟩
def qDIn (neg : Bool) : Q2 := fun t u Q => match u with
  | .d ks => match t.key with
    | some k => Q (.b (if neg then !(lookT ks k).isSome else (lookT ks k).isSome))
    | none => False
  | _ => False
def rDIn (neg : Bool) : R2 := fun y x H Q => ∃ a o, x = .ref a ∧ DGet H a y o ∧ Q (.bl (if neg then !o.isSome else o.isSome)) H
theorem op_din (hu : X.A.units + 1 < cLine) : OpR X (compareOp .In) (rDIn false) := by
  intro pins s σ H y x u v Q I ry rx h
  obtain ⟨a, o, rfl, g, q⟩ := h
  cases rx
  exact d_in hu I g ry fun s' I' => ⟨.bl _, H, I', rfl, q⟩
theorem sim_din {neg : Bool} : SimOF K (rDIn neg) (qDIn neg) := by
  intro dl H x y t u F G Q R D r1 r2 hq k
  unfold qDIn at hq
  split at hq
  · split at hq
    · rename_i k0 ek
      obtain ⟨p, vs, G, rfl, _, h1, h2⟩ := r2.r.dic
      rw [r1.r.key ek]
      refine ⟨p, _, rfl, DGet.k h1, k _ _ [] H (.refl D) (.c (.b _)) (fun _ z => nomatch z) List.nodup_nil ?_⟩
      have e : ∀ {ks : List (Key × T)}, RepFk K dl H vs ks G → (valV vs k0).isSome = (lookT ks k0).isSome := fun {ks} h2 => by
        rcases h2.look k0 with ⟨z1, z2⟩ | ⟨_, _, _, z1, z2, _⟩
        · rw [z1, z2]; rfl
        · rw [z1, z2]; rfl
      rw [e h2]
      exact hq
    · exact hq.elim
  · exact hq.elim
def qIxD : Q2 := fun t u Q => match t with
  | .d ks => match u.key with
    | some k => ∃ x, lookT ks k = some x ∧ Q x
    | none => False
  | _ => qIx t u Q
def rIxD : R2 := fun x y H Q => ∃ a kvs k v, x = .ref a ∧ y = kV k ∧ H a = some (.dK kvs) ∧ valV kvs k = some v ∧ Q v H
theorem ix_dict : IxR X rIxD := by
  intro value slice pins s σ H x y v u Q I rx ry h hs
  obtain ⟨a, kvs, k, w, rfl, rfl, ha, hv, q⟩ := h
  cases rx
  obtain ⟨z, hd, vs, rel, dd⟩ := dk_rd I.hok (Rd.of ha)
  obtain ⟨w', hw, rw'⟩ := RelO.some_of (v := w) (o := valueAt vs k) (by rw [← hv]; exact rel.val k)
  exact subscriptTail_builtinR (x := w') dd.typeIs PySem.F.slot_dict_getitem.lookup (wpAny_getItem_of (Q := fun r s' => r = w' ∧ EP X pins σ Q r s') (kV_is ry) dd.mapOf hw ⟨rfl, w, H, I.tok _, rw', q⟩) hs
def rIx4 (K : PySem.W.Frag) : R2 := fun x y H Q => rIx K x y H Q ∨ rIxD x y H Q
theorem ix_4 (hK : X.K = K) : IxR X (rIx4 K) := by subst hK; exact ix_seq.or ix_dict
theorem sim_ix4 : SimO K (rIx4 K) qIxD := by
  intro dl H x y t u F G Q R D r1 r2 hq k
  unfold qIxD at hq
  split at hq
  · split at hq
    · rename_i k0 ek
      obtain ⟨z, hz, hq⟩ := hq
      obtain ⟨p, vs, G, rfl, eF, h1, h2⟩ := r1.r.dic
      rw [r2.r.key ek]
      rcases h2.look k0 with ⟨z1, z2⟩ | ⟨t, v, G', z1, z2, z3, z4⟩
      · rw [z1] at hz; cases hz
      · rw [z1] at hz
        cases hz
        exact .inr ⟨p, vs, k0, v, rfl, rfl, h1, z2, k v _ G' H (.refl D) (Rp.sub z3 r1.n fun b hb => by rw [eF]; exact List.mem_cons_of_mem _ (z4 b hb)) hq⟩
    · exact hq.elim
  · exact .inl (sim_ix dl H x y t u F G Q R D r1 r2 hq k)
theorem qe_ixd (ha : QPE X K a ta qa) (hb : QPE X K b tb qb) (hs : PlainIx b := by intro _ _; rfl) (hK : X.K = K := by rfl) : QPE X K (.Subscript a b pos) (tOp (rIx4 K) ta tb) (qOp qIxD qa qb) := ⟨pe_ix (ix_4 hK) ha.h hb.h hs, sim_op sim_ix4 ha.s hb.s⟩
def qGet2 (qd qk qx : QE) : QE := fun q Q => qd q fun d => match d with
  | .d ks => qk q fun u => match u.key with
    | some k => qx q fun x => Q ((lookT ks k).getD x)
    | none => False
  | _ => False
theorem qe_get2 {d f : Expr} {td tx : TE} {qd qx : QE} (hu : X.A.units + 1 < cLine) (hd : QPE X K d td qd) (hk : QPE X K e tk qk) (hx : QPE X K f tx qx) (m : M2 X d "get" apos e f cpos := by exact ⟨rfl, rfl, rfl, rfl⟩) : QPE X K (.Call (.Attribute d "get" apos) [e, f] [] cpos) (tDGet2 td tk tx) (qGet2 qd qk qx) :=
  ⟨pe_dget2 hu hd.h hk.h hx.h m, fun dl H σ q Q R rd hq k => hd.s dl H σ q _ _ rd hq fun v t F H1 e1 r1 hq => by
    split at hq
    · obtain ⟨p, vs, G, rfl, eF, h1, h2⟩ := r1.r.dic
      refine ⟨p, rfl, .inl ⟨vs, Rd.of h1⟩, hk.s dl H1 σ q _ _ (rd.evo e1) hq fun y u F2 H2 e2 r2 hq => ?_⟩
      split at hq
      · rename_i k0 ek
        refine hx.s dl H2 σ q _ _ ((rd.evo e1).evo e2) hq fun z w F3 H3 e3 r3 hq => ?_
        have rp := (r1.evo e1.d e2).evo e2.d e3
        obtain ⟨p', vs', G', e', eF', h1', h2'⟩ := rp.r.dic
        cases e'
        rw [r2.r.key ek]
        refine ⟨_, DGet.k h1', ?_⟩
        rcases h2'.look k0 with ⟨z1, z2⟩ | ⟨t, v, G2, z1, z2, z3, z4⟩
        · rw [z2]
          rw [z1] at hq
          exact k _ _ F3 H3 ((e1.trans e2).trans e3) r3 hq
        · rw [z2]
          rw [z1] at hq
          exact k _ _ G2 H3 ((e1.trans e2).trans e3) (Rp.sub z3 rp.n fun b hb => by rw [eF']; exact List.mem_cons_of_mem _ (z4 b hb)) hq
      · exact hq.elim
    · exact hq.elim⟩
def txs : List T → Option (List Str)
  | [] => some []
  | .s x :: r => (txs r).map (x :: ·)
  | _ => none
theorem RepFs.txs : ∀ {vs : List V} {ts : List T} {F : List Addr} {bs : List Str}, RepFs K dl H vs ts F → L2.txs ts = some bs → vs = bs.map V.str
  | _, _, _, bs, .nil, h => by cases h; rfl
  | _, t :: ts, _, bs, .cons h r, q => by
    unfold L2.txs at q
    split at q
    · rename_i e; cases e
    · rename_i x r' e
      cases e
      obtain ⟨rfl, _⟩ := h.str
      cases e2 : L2.txs ts with
      | none => rw [e2] at q; cases q
      | some bs' =>
        rw [e2] at q
        cases q
        rw [RepFs.txs r e2]
        rfl
    · cases q
theorem txs_map (bs : List Str) : txs (bs.map T.s) = some bs := by
  induction bs with
  | nil => rfl
  | cons b r ih => show (txs (r.map T.s)).map (b :: ·) = _; rw [ih]; rfl
def qJoin (qo qe : QE) : QE := fun q Q => qo q fun s => match s with
  | .s sep => qe q fun t => match t with
    | .l xs => ∃ ys, txs xs = some ys ∧ (ys.map (·.length)).sum + ys.length * sep.length ≤ 16777216 ∧ Q (.s (Txt.join sep ys))
    | _ => False
  | _ => False
theorem qe_join {qo : QE} {to : TE} (ho : QPE X K o to qo) (he : QPE X K e te qe) (hK : X.K = K := by rfl) (hbase : attributeBase o "join" X.env (eval o X.env) = eval o X.env := by rfl)
    (hfew : ((backTo cpos (starEach [e] X.env)).all (fun x => !x.1) && (backToKw cpos (keywordEach [] X.env)).all (fun x => x.1.isSome)
      && decide (([e] : List Expr).length + ([] : List Keyword).length + (if ([] : List Keyword).isEmpty then 0 else 1) < 30)) = true := by rfl)
    (hline : (apos.endLine == cpos.line) = true := by rfl) (hs : starEach [e] X.env = (false, eval e X.env) :: starEach [] X.env := by rfl) (hplain : (backTo cpos (starEach [] X.env)).any (·.1) = false := by rfl) :
    QPF X K (.Call (.Attribute o "join" apos) [e] [] cpos) (tBM K "str" (rJoin K) to (tCons te tNil)) (qJoin qo qe) := ⟨by
  subst hK
  exact pe_bm PySem.F.plainAttrs_str PySem.F.slot_str_join PySem.F.type_str_join mt_join ho.h (pa_cons he.h pa_nil hs) hbase hfew hline hs hplain, fun dl H σ q Q R rd hq k => ho.s dl H σ q _ _ rd hq fun v t F H1 e1 r1 hq => by
    split at hq
    · obtain ⟨rfl, _⟩ := r1.r.str
      refine ⟨rfl, he.s dl H1 σ q _ _ (rd.evo e1) hq fun w u F2 H2 e2 r2 hq => ?_⟩
      split at hq
      · obtain ⟨ys, hy, hz, hq⟩ := hq
        obtain ⟨p, vs, G, rfl, eF, h1, h2⟩ := r2.r.lst
        have ev := h2.txs hy
        subst ev
        exact ⟨_, p, ys, rfl, rfl, SqL.of h1, hz, k _ _ [] H2 (e1.trans e2) (.c (.s _)) (fun _ z => nomatch z) List.nodup_nil hq⟩
      · exact hq.elim
    · exact hq.elim⟩
def qSetL (i : Nat) (qk qv : QE) : QS := fun D q => qv q fun t => match q[i]? with
  | some (.o (.l xs)) => qk q fun u => match u with
    | .i k => ∃ j, ixN xs.length k = some j ∧ T.ims xs = true ∧ t.im = true ∧ D.nx (q.set i (.o (.l (xs.set j t))))
    | _ => False
  | _ => False
end
end L2
namespace L2
open PySem PySem.Spec PyProof.Rows
def eqVs (vs ws : List V) : Bool := vs.length == ws.length && (List.range vs.length).all fun j => match vs[j]?, ws[j]? with | some x, some y => eqV x y | _, _ => false
section
variable {X : Cx} {K : PySem.W.Frag}
theorem Vals.at' {vs : List V} {its : List Value} (r : Vals vs its) {j : Nat} (h : j < its.toArray.size) : ∃ v, vs[j]? = some v ∧ RelV v its.toArray[j] := by
  have hl := r.length
  have hj : j < its.length := by simpa using h
  have hv : j < vs.length := by omega
  obtain ⟨u, h1, h2⟩ := r.get (i := j) (x := vs[j]) (by simp [hv])
  have : its[j]? = some its[j] := by simp [hj]
  rw [this] at h1
  cases h1
  exact ⟨vs[j], by simp [hv], by simpa using h2⟩
theorem flat_at {vs : List V} {j : Nat} {v : V} (h : vs.all flatV = true) (e : vs[j]? = some v) : flatV v = true := List.all_eq_true.mp h v (List.mem_of_getElem? e)
def rEqF (K : PySem.W.Frag) : R2 := fun x y H Q => ∃ p q vs ws, x = .ref p ∧ y = .ref q ∧ ((SqL K H p vs ∧ SqL K H q ws) ∨ (SqT K H p vs ∧ SqT K H q ws)) ∧ vs.all flatV = true ∧ ws.all flatV = true ∧ Q (.bl (eqVs vs ws)) H
theorem op_eqF (hu : X.A.units + 1 < cLine) : OpR X (compareOp .Eq) (rEqF X.K) := by
  intro pins s σ H x y v u Q I rx ry h
  obtain ⟨p, q, vs, ws, rfl, rfl, hs, f1, f2, k⟩ := h
  cases rx
  cases ry
  rcases hs with ⟨h1, h2⟩ | ⟨h1, h2⟩
  · obtain ⟨its, r1, p1, _⟩ := I.list h1
    obtain ⟨its2, r2, p2, _⟩ := I.list h2
    have l1 := r1.length
    have l2 := r2.length
    by_cases hl : its.length = its2.length
    · refine SeqAt.eq_listAt (e := fun j => match vs[j]?, ws[j]? with | some x, some y => eqV x y | _, _ => false) p1.isList p2.isList (by simpa using hl) (by omega) (fun j g1 g2 => ?_) ⟨.bl _, H, I, rfl, ?_⟩
      · obtain ⟨a, ea, ra⟩ := r1.at' g1
        obtain ⟨b, eb, rb⟩ := r2.at' g2
        simp only [ea, eb]
        exact eqAt_V ra rb (flat_at f1 ea) (flat_at f2 eb)
      · have e : eqVs vs ws = (List.range its.toArray.size).all fun j => match vs[j]?, ws[j]? with | some x, some y => eqV x y | _, _ => false := by
          unfold eqVs
          rw [show (vs.length == ws.length) = true from by simp; omega, Bool.true_and, List.size_toArray, l1]
        rw [← e]
        exact k
    · refine SeqAt.eq_list_lengthsAt p1.isList p2.isList (by simpa using hl) (by omega) ⟨.bl _, H, I, rfl, ?_⟩
      have e : eqVs vs ws = false := by
        unfold eqVs
        rw [show (vs.length == ws.length) = false from by simp; omega, Bool.false_and]
      rw [← e]
      exact k
  · obtain ⟨its, r1, p1, _⟩ := I.tuple h1
    obtain ⟨its2, r2, p2, _⟩ := I.tuple h2
    have l1 := r1.length
    have l2 := r2.length
    refine SeqAt.eq_tupleAt (e := fun j => match vs[j]?, ws[j]? with | some x, some y => eqV x y | _, _ => false) (show s.heap.IsTuple p its.toArray from p1) (show s.heap.IsTuple q its2.toArray from p2) (by omega) (fun j g1 g2 => ?_) ⟨.bl _, H, I, rfl, ?_⟩
    · obtain ⟨a, ea, ra⟩ := r1.at' g1
      obtain ⟨b, eb, rb⟩ := r2.at' g2
      simp only [ea, eb]
      exact eqAt_V ra rb (flat_at f1 ea) (flat_at f2 eb)
    · have e : eqVs vs ws = ((List.range (min its.toArray.size its2.toArray.size)).all (fun j => match vs[j]?, ws[j]? with | some x, some y => eqV x y | _, _ => false) && its.toArray.size == its2.toArray.size) := by
        unfold eqVs
        rw [List.size_toArray, List.size_toArray, ← l1, ← l2, Bool.and_comm]
        by_cases hl : vs.length = ws.length
        · rw [hl, Nat.min_self]
        · rw [show (vs.length == ws.length) = false from by simpa using hl, Bool.and_false, Bool.and_false]
      rw [← e]
      exact k
def eqF (xs ys : List T) : Bool := eqVs (xs.map T.v) (ys.map T.v)
def qEq3 : Q2 := fun t u Q => match t, u with
  | .l xs, .l ys => (fls xs && fls ys) = true ∧ Q (.b (eqF xs ys))
  | .t xs, .t ys => (fls xs && fls ys) = true ∧ Q (.b (eqF xs ys))
  | t, u => qEq t u Q
def rEq3 (K : PySem.W.Frag) : R2 := fun x y H Q => rEq x y H Q ∨ rEqF K x y H Q
theorem op_eq3 (hu : X.A.units + 1 < cLine) (hK : X.K = K) : OpR X (compareOp .Eq) (rEq3 K) := by subst hK; exact op_eq.or (op_eqF hu)
theorem sim_eq3 : SimOF K (rEq3 K) qEq3 := by
  intro dl H x y t u F G Q R D r1 r2 hq k
  unfold qEq3 at hq
  split at hq
  · obtain ⟨p, vs, G1, rfl, rfl, h1, h2⟩ := r1.r.lst
    obtain ⟨p', vs', G2, rfl, rfl, h3, h4⟩ := r2.r.lst
    obtain ⟨f, hq⟩ := hq
    rw [Bool.and_eq_true] at f
    obtain ⟨rfl, rfl⟩ := h2.vs f.1
    obtain ⟨rfl, rfl⟩ := h4.vs f.2
    exact .inr ⟨p, p', _, _, rfl, rfl, .inl ⟨SqL.of h1, SqL.of h3⟩, flat_v f.1, flat_v f.2, k _ _ [] H (.refl D) (.c (.b _)) (fun _ z => nomatch z) List.nodup_nil hq⟩
  · obtain ⟨p, vs, rfl, h1, h2⟩ := r1.r.tup
    obtain ⟨p', vs', rfl, h3, h4⟩ := r2.r.tup
    obtain ⟨f, hq⟩ := hq
    rw [Bool.and_eq_true] at f
    obtain ⟨rfl, rfl⟩ := h2.vs f.1
    obtain ⟨rfl, rfl⟩ := h4.vs f.2
    exact .inr ⟨p, p', _, _, rfl, rfl, .inr ⟨SqT.of h1, SqT.of h3⟩, flat_v f.1, flat_v f.2, k _ _ [] H (.refl D) (.c (.b _)) (fun _ z => nomatch z) List.nodup_nil hq⟩
  · exact .inl (sim_eq dl H x y t u F G Q R D r1 r2 hq k)
end
end L2
namespace PySem
open Sem (wp)
section
variable {prog : Program} {w : World} {A : Around} {E : Value → Shared → Prop}
theorem keys_tuple_none : typeLookup (.type "tuple") "keys" = pure none := am_miss_of_fast (by decide +kernel)
theorem keys_list_none : typeLookup (.type "list") "keys" = pure none := am_miss_of_fast (by decide +kernel)
set_option maxRecDepth 8000 in
theorem keys_miss_tuple {s : Shared} {a : Addr} {o : Obj} {xs : Array Value} {k : Nat} {Q : Option Value → Shared → Prop}
    (hx : s.heap.get? a = some o) (hc : o.cls = .type "tuple") (hdat : o.data = .seq xs k) (hd : o.dict = none) (hA : A.handled = none)
    (h : ∀ h' tk, (∀ b o, s.heap.get? b = some o → h'.get? b = some o) → Q none { s with heap := h', toks := tk }) :
    wpAny (model prog w) A (getAttr? (.ref a) "keys") Q E s := by
  obtain ⟨c, dct, dat, sl⟩ := o
  simp only at hc hdat hd
  subst hc hdat hd
  obtain ⟨hp, g, d, tk, os⟩ := s
  have hT : ∀ tk', (⟨hp, g, d, tk', os⟩ : Shared).TypeIs (.ref a) "tuple" := fun _ => ⟨_, hx, rfl⟩
  have f1 := sub_AttributeError
  have f3 := F.slot_tuple_getattribute.lookup
  have f4 := F.slot_tuple_getattribute.bind (.ref a)
  have f5 := am_tuple_getattr_none
  unfold getAttr? getAttrBy? getAttrBy
  repeat (any_goals (first | assumption | exact hT _ | ((with_reducible show wpAny _ _ (call (Value.builtin "tuple.__getattribute__") _ _) _ _ _); refine call_meets F.slot_tuple_getattribute (hT _) am_entry_tuple_getattribute (F.args_tuple_getattribute_2 _ _) (meets_getattribute_miss_tuple a xs k sl "keys" _ keys_tuple_none (by decide +kernel) (by decide +kernel)) ⟨hx, hA, fun h' tk' e hx' => ?_⟩) | wp_step))
  obtain ⟨t', u', he⟩ := hx'.there
  show wpAny _ _ (getattributeRaised _ _ _ _ _ _ _) _ _ _
  unfold getattributeRaised
  repeat (any_goals (first | assumption | wp_step))
  exact h _ _ hx'.keeps
set_option maxRecDepth 8000 in
theorem keys_miss_list {s : Shared} {a : Addr} {o : Obj} {xs : Array Value} {k : Nat} {Q : Option Value → Shared → Prop}
    (hx : s.heap.get? a = some o) (hc : o.cls = .type "list") (hdat : o.data = .seq xs k) (hd : o.dict = none) (hA : A.handled = none)
    (h : ∀ h' tk, (∀ b o, s.heap.get? b = some o → h'.get? b = some o) → Q none { s with heap := h', toks := tk }) :
    wpAny (model prog w) A (getAttr? (.ref a) "keys") Q E s := by
  obtain ⟨c, dct, dat, sl⟩ := o
  simp only at hc hdat hd
  subst hc hdat hd
  obtain ⟨hp, g, d, tk, os⟩ := s
  have hT : ∀ tk', (⟨hp, g, d, tk', os⟩ : Shared).TypeIs (.ref a) "list" := fun _ => ⟨_, hx, rfl⟩
  have f1 := sub_AttributeError
  have f3 := F.slot_list_getattribute.lookup
  have f4 := F.slot_list_getattribute.bind (.ref a)
  have f5 := am_list_getattr_none
  unfold getAttr? getAttrBy? getAttrBy
  repeat (any_goals (first | assumption | exact hT _ | ((with_reducible show wpAny _ _ (call (Value.builtin "list.__getattribute__") _ _) _ _ _); refine call_meets F.slot_list_getattribute (hT _) am_entry_list_getattribute (F.args_list_getattribute_2 _ _) (meets_getattribute_miss_list a xs k sl "keys" _ keys_list_none (by decide +kernel) (by decide +kernel)) ⟨hx, hA, fun h' tk' e hx' => ?_⟩) | wp_step))
  obtain ⟨t', u', he⟩ := hx'.there
  show wpAny _ _ (getattributeRaised _ _ _ _ _ _ _) _ _ _
  unfold getattributeRaised
  repeat (any_goals (first | assumption | wp_step))
  exact h _ _ hx'.keeps
end
end PySem
namespace PySem
open Sem (wp)
namespace F
theorem entry_dict_update_loop : entryFor table "dict.update.loop" = some Builtin.«dict.update.loop» := entryFor_of_tree (by kernel_rfl)
theorem plain_dict_update_loop : plainId "dict.update.loop" = true := by decide +kernel
end F
section
variable {prog : Program} {w : World} {A : Around} {R : Result → Shared → Prop} {I : Addr} {fp wr : List Addr} {n : Nat} {P : Nat → Value → Prop} {St : Nat → Heap → Prop} {κ : Type} [DecidableEq κ] {knd : KeyKind prog w κ}
theorem stored_length (kvs : List (κ × Value)) (k : κ) (v : Value) : (stored kvs k v).length ≤ kvs.length + 1 := by
  unfold stored
  split <;> simp
theorem merged_length (kvs : List (κ × Value)) : ∀ (more : List (κ × Value)), (merged kvs more).length ≤ kvs.length + more.length := by
  intro more
  induction more generalizing kvs with
  | nil => exact Nat.le_refl _
  | cons p r ih =>
    have h1 := ih (stored kvs p.1 p.2)
    have h2 := stored_length kvs p.1 p.2
    show (merged (stored kvs p.1 p.2) r).length ≤ _
    simp only [List.length_cons]
    omega
theorem codeAny_dict_update_loop (W : Walks prog w A.in1 I fp wr n P St) (S : Addr) (hSf : S ∉ fp) (res : Value) (h0 : Heap) (kvs pairs : List (κ × Value)) (hsz : kvs.length + pairs.length ≤ sizeLine) (hnl : pairs.length = n)
    (hp : ∀ i v, P i v → ∃ (a : Addr) (o : Obj) (key val : Value) (k : κ) (m : Nat), v = .ref a ∧ pairs[i]? = some (k, val) ∧ knd.is k key = true ∧ h0.get? a = some o ∧ o.cls = .type "tuple" ∧ o.data = .seq #[key, val] m ∧ a ∉ wr ∧ a ≠ S) :
    ∀ (j i : Nat) (s : Shared), n - i = j → i ≤ n → St i s.heap → s.heap.DictOf knd S (merged kvs (pairs.take i)) → (∀ b o, b ∉ wr → b ≠ S → h0.get? b = some o → s.heap.get? b = some o) →
    (∀ h' tk, (∀ b o, b ∉ wr → b ≠ S → s.heap.get? b = some o → h'.get? b = some o) → h'.DictOf knd S (merged kvs pairs) → R (.ok (.ret res)) { s with heap := h', toks := tk }) →
    codeAny (model prog w) A (.builtin "dict.update.loop" ⟨[.ref S, .ref I, rawInt i, res], []⟩) R s := by
  have hSw : S ∉ wr := fun h => hSf (W.sub _ h)
  intro j
  induction j with
  | zero =>
    intro i s hk hi hst hS hk0 hR
    have hin : i = n := by omega
    subst hin
    refine codeAny_builtin F.entry_dict_update_loop ?_
    rw [Around.under_plainId F.plain_dict_update_loop _]
    show wpAny _ A.in1 (pyNext (.ref I) >>= _) _ _ s
    refine wpAny_bind (W.done s _ _ hst fun h' tk hk' => ?_)
    show wpAny _ A.in1 (Builtin.Dict.addKeywords S [] >>= _) _ _ _
    refine wpAny_bind (wpAny_pure (wpAny_pure (hR h' tk (fun b o hb _ e => hk' b o hb e) ?_)))
    rw [← hnl, List.take_length] at hS
    obtain ⟨o, es, ep, ho, r⟩ := hS
    exact ⟨o, es, ep, hk' S o hSw ho, r⟩
  | succ j ih =>
    intro i s hk hi hst hS hk0 hR
    have hlt : i < n := by omega
    refine codeAny_builtin F.entry_dict_update_loop ?_
    rw [Around.under_plainId F.plain_dict_update_loop _]
    show wpAny _ A.in1 (pyNext (.ref I) >>= _) _ _ s
    refine wpAny_bind (W.item i s _ _ hlt hst fun v h' tk hP hst' hk' => ?_)
    obtain ⟨a, o, key, val, k, m, rfl, hpi, hkey, ho, hc, hd, haw, haS⟩ := hp i v hP
    have ho' : h'.get? a = some o := hk' a o haw (hk0 a o haw haS ho)
    have hS' : h'.DictOf knd S (merged kvs (pairs.take i)) := by
      obtain ⟨o, es, ep, ho, r⟩ := hS
      exact ⟨o, es, ep, hk' S o hSw ho, r⟩
    show wpAny _ A.in1 (holding [Value.ref a] _ >>= _) _ _ _
    refine wpAny_bind (wpAny_holding ?_)
    refine wpAny_bind (wpAny_tryCatch ?_)
    unfold Builtin.Dict.pairItems
    refine wpAny_bind (wpAny_typeOf (T := "tuple") ⟨o, ho', hc⟩ ?_)
    rw [if_pos (by decide)]
    refine wpAny_bind (wpAny_seqItems ho' hd (wpAny_pure ?_))
    show wpAny _ A.in1 (holding [key, val] (dictSet S key val)) _ _ _
    have hml : (merged kvs (pairs.take i)).length ≤ sizeLine := by
      have h1 := merged_length kvs (pairs.take i)
      rw [List.length_take] at h1
      omega
    refine wpAny_holding (wpAny_dictSet_pairs (hsz := hml) hkey hS' fun h'' hS'' hsb => ?_)
    have e := merged_take_succ kvs pairs i (k, val) hpi
    rw [← e] at hS''
    have fr : ∀ b o, b ≠ S → h'.get? b = some o → h''.get? b = some o := fun b o hb eb => (hsb.2 b hb).trans eb
    refine wpAny_pure ⟨plainId_quiet F.plain_dict_update_loop _, ih (i + 1) _ (by omega) hlt (W.frame _ _ _ hst' fun b hb o eb => fr b o (fun z => hSf (z ▸ hb)) eb) hS'' (fun b o hb hbS eb => fr b o hbS (hk' b o hb (hk0 b o hb hbS eb))) fun h3 tk3 hk3 hS3 => ?_⟩
    exact hR h3 tk3 (fun b o hb hbS eb => hk3 b o hb hbS (fr b o hbS (hk' b o hb eb))) hS3
end
end PySem
namespace PySem
open Sem (wp)
section
variable {prog : Program} {w : World} {A : Around} {E : Value → Shared → Prop} {s : Shared} {κ : Type} [DecidableEq κ] {knd : KeyKind prog w κ}
theorem updateFrom_pairs {S p : Addr} {its : Array Value} {kvs pairs : List (κ × Value)} {id : String} {res : Value} {R : Result → Shared → Prop} (hh : A.handled = none) (hS : s.heap.DictOf knd S kvs) (hpS : p ≠ S)
    (ho : ∃ (o : Obj) (n : Nat), s.heap.get? p = some o ∧ o.dict = none ∧ o.data = .seq its n ∧ (o.cls = .type "tuple" ∨ o.cls = .type "list")) (hsz : kvs.length + pairs.length ≤ sizeLine) (hnl : pairs.length = its.size)
    (hp : ∀ (i : Nat) (v : Value), its[i]? = some v → ∃ (a : Addr) (o : Obj) (key val : Value) (k : κ) (m : Nat), v = .ref a ∧ pairs[i]? = some (k, val) ∧ knd.is k key = true ∧ s.heap.get? a = some o ∧ o.cls = .type "tuple" ∧ o.data = .seq #[key, val] m)
    (hR : ∀ h' tk, (∀ b o, b ≠ S → s.heap.get? b = some o → h'.get? b = some o) → h'.DictOf knd S (merged kvs pairs) → R (.ok (.ret res)) { s with heap := h', toks := tk }) :
    wpAny (model prog w) A.in1 (Builtin.Dict.updateFrom id S (.ref p) [] res) (fun fin s' => match fin with | .done f => R (.ok f) s' | .again c' => c'.quiet = true ∧ codeAny (model prog w) A c' R s') (fun e s' => R (.error e) s') s := by
  obtain ⟨o, n, hg, hdn, hdt, hcl⟩ := ho
  have hplt : p < s.heap.objs.size := Heap.lt_size hg
  have hSlt : S < s.heap.objs.size := by obtain ⟨_, _, _, e, _⟩ := hS; exact Heap.lt_size e
  have fin : ∀ (h1 : Heap) (tk : Nat) (h2 : Heap) (I : Addr) (St : Nat → Heap → Prop), (∀ b o, s.heap.get? b = some o → h1.get? b = some o) → (∀ b o, h1.get? b = some o → h2.get? b = some o) → h1.objs.size ≤ I → Walks prog w A.in1 I [I, p] [I] its.size (fun i v => its[i]? = some v) St → St 0 h2 →
      codeAny (model prog w) A (.builtin "dict.update.loop" ⟨[.ref S, .ref I, rawInt 0, res], []⟩) R { s with heap := h2, toks := tk } := by
    intro h1 tk h2 I St k1 k2 hI W hst
    have lt1 : ∀ b o, s.heap.get? b = some o → b ≠ I := fun b o e z => by
      have : b < h1.objs.size := Heap.lt_size (k1 b o e)
      exact absurd (Nat.lt_of_lt_of_le this hI) (by rw [z]; exact Nat.lt_irrefl _)
    have hSI : S ∉ [I, p] := fun z => by
      obtain ⟨o, _, _, e, _⟩ := hS
      rcases List.mem_cons.mp z with z | z
      · exact lt1 S o e z
      · exact hpS (List.mem_singleton.mp z).symm
    refine codeAny_dict_update_loop (knd := knd) W S hSI res s.heap kvs pairs hsz hnl (fun i v hP => ?_) its.size 0 _ rfl (Nat.zero_le _) hst ?_ (fun b o _ _ e => k2 b o (k1 b o e)) fun h' tk' hk hS' => ?_
    · obtain ⟨a, oa, key, val, k, m, e1, e2, e3, e4, e5, e6⟩ := hp i v hP
      refine ⟨a, oa, key, val, k, m, e1, e2, e3, e4, e5, e6, fun z => lt1 a oa e4 (List.mem_singleton.mp z), fun z => ?_⟩
      obtain ⟨o, _, _, e, hc, hd, _⟩ := hS
      rw [← z, e4] at e
      cases e
      rw [e6] at hd
      cases hd
    · obtain ⟨o, es, ep, e, r⟩ := hS
      exact ⟨o, es, ep, k2 _ _ (k1 _ _ e), r⟩
    · exact hR h' tk' (fun b o hb e => hk b o (fun z => lt1 b o e (List.mem_singleton.mp z)) hb (k2 b o (k1 b o e))) hS'
  unfold Builtin.Dict.updateFrom
  rcases hcl with hcl | hcl
  · refine wpAny_bind (wpAny_typeOf (T := "tuple") ⟨o, hg, hcl⟩ ?_)
    rw [if_pos (by decide)]
    refine wpAny_bind (keys_miss_tuple hg hcl hdt hdn hh fun h1 tk k1 => ?_)
    rw [if_pos (show (none : Option Value).isNone = true from rfl)]
    refine wpAny_bind (wpAny_rule ?_)
    have hT : h1.IsTuple p its := ⟨o, k1 _ _ hg, hcl, n, hdt⟩
    refine wpAny_bind (wpAny_pyIter_tuple hT ?_)
    refine wpAny_pure ⟨plainId_quiet F.plain_dict_update_loop _, ?_⟩
    exact fin h1 tk _ h1.objs.size _ k1 (fun b o e => Heap.get?_push_of_some _ e) (Nat.le_refl _) (Walks.tuple (show A.in1.handled = none from hh) _ p (Nat.ne_of_lt (Heap.lt_size (k1 _ _ hg))) its) ⟨⟨_, Heap.get?_push_size _ rfl, rfl, rfl⟩, hT.push _⟩
  · refine wpAny_bind (wpAny_typeOf (T := "list") ⟨o, hg, hcl⟩ ?_)
    rw [if_pos (by decide)]
    refine wpAny_bind (keys_miss_list hg hcl hdt hdn hh fun h1 tk k1 => ?_)
    rw [if_pos (show (none : Option Value).isNone = true from rfl)]
    refine wpAny_bind (wpAny_rule ?_)
    have hT : h1.IsList p its := ⟨o, k1 _ _ hg, hcl, n, hdt⟩
    refine wpAny_bind (wpAny_pyIter_list hT ?_)
    refine wpAny_pure ⟨plainId_quiet F.plain_dict_update_loop _, ?_⟩
    exact fin h1 tk _ h1.objs.size _ k1 (fun b o e => Heap.get?_push_of_some _ e) (Nat.le_refl _) (Walks.list (show A.in1.handled = none from hh) _ p (Nat.ne_of_lt (Heap.lt_size (k1 _ _ hg))) its) ⟨⟨_, Heap.get?_push_size _ rfl, rfl, rfl⟩, hT.push _⟩
end
end PySem
namespace L2
open PySem PySem.Spec PyProof.Rows
section
variable {X : Cx} {K : PySem.W.Frag}
theorem Inv.tupleN {pins : List (Addr × Obj)} {σ : St} {H : Hp} {s : Shared} {a : Addr} {xs : List V} (I : Inv X pins σ H s) (h : H a = some (.tup xs)) : ∃ its : List Value, Vals xs its ∧ IsTupN s.heap a its.toArray ∧ xs.length ≤ sizeLine := by
  obtain ⟨z, its, r, p⟩ := (show ObjOk X.prog X.w H s.heap a (.tup xs) from I.hok a _ h)
  exact ⟨its, r, p, z⟩
theorem pairs_of {pins : List (Addr × Obj)} {σ : St} {H : Hp} {s : Shared} (I : Inv X pins σ H s) : ∀ {ps : List Addr} {kvs : List (Key × V)} {us : List Value}, Vals (ps.map V.ref) us → ps.length = kvs.length → (∀ (i : Nat) (p : Addr) (kv : Key × V), ps[i]? = some p → kvs[i]? = some kv → H p = some (.tup [kV kv.1, kv.2])) →
    ∃ pairs : List (Key × Value), KV kvs pairs ∧ ∀ (i : Nat) (v : Value), us[i]? = some v → ∃ (a : Addr) (o : Obj) (key val : Value) (k : Key) (m : Nat), v = .ref a ∧ pairs[i]? = some (k, val) ∧ (mixKind X.prog X.w).is k key = true ∧ s.heap.get? a = some o ∧ o.cls = .type "tuple" ∧ o.data = .seq #[key, val] m := by
  intro ps
  induction ps with
  | nil =>
    intro kvs us r hl _
    have e : kvs = [] := by cases kvs with | nil => rfl | cons _ _ => simp at hl
    subst e
    cases r
    exact ⟨[], .nil, fun i v h => by simp at h⟩
  | cons p ps ih =>
    intro kvs us r hl h
    cases kvs with
    | nil => simp at hl
    | cons kv kvs =>
      cases r with
      | @cons _ u _ us r1 r2 =>
        obtain ⟨pairs, h1, h2⟩ := ih (kvs := kvs) (us := us) r2 (by simpa using hl) fun i p kv e1 e2 => h (i + 1) p kv (by simpa using e1) (by simpa using e2)
        have hp := h 0 p kv (by simp) (by simp)
        obtain ⟨its, ri, ⟨o, ho, hc, m, hd⟩, _⟩ := I.tuple (SqT.of (K := X.K) hp)
        cases ri with
        | @cons _ key _ rest k1 k2 =>
          cases k2 with
          | @cons _ val _ rest2 k3 k4 =>
            cases k4
            refine ⟨(kv.1, val) :: pairs, .cons ⟨rfl, k3⟩ h1, fun i v hv => ?_⟩
            cases i with
            | zero =>
              simp at hv
              subst hv
              cases (show u = Value.ref p from r1)
              exact ⟨p, o, key, val, kv.1, m, rfl, by simp, kV_is k1, ho, hc, hd⟩
            | succ i =>
              obtain ⟨a, oa, key', val', k, m', e1, e2, e3⟩ := h2 i v (by simpa using hv)
              exact ⟨a, oa, key', val', k, m', e1, by simpa using e2, e3⟩
def rDictOf : List V → Hp → VK → Prop := fun xs H Q => ∃ (p : Addr) (ps : List Addr) (kvs : List (Key × V)), xs = [.ref p] ∧ (H p = some (.tup (ps.map V.ref)) ∨ H p = some (.lst (ps.map V.ref))) ∧ ps.length = kvs.length ∧
  (∀ (i : Nat) (a : Addr) (kv : Key × V), ps[i]? = some a → kvs[i]? = some kv → H a = some (.tup [kV kv.1, kv.2])) ∧ ∀ d, H d = none → Q (.ref d) (upd H d (.dK (mergeK [] kvs)))
theorem call_dict_of (hc : X.calm = true) : CallR X (.type "dict") rDictOf := by
  intro pins s σ H xs us Q I r h
  obtain ⟨p, ps, kvs, rfl, hp, hl, hps, q⟩ := h
  obtain ⟨u, rfl, ru⟩ := vals1 r
  cases ru
  have hh : X.A.handled = none := I.ok.hd hc
  obtain ⟨its, rv, hz, ob⟩ : ∃ its : List Value, Vals (ps.map V.ref) its ∧ (ps.map V.ref).length ≤ sizeLine ∧ ∃ (o : Obj) (n : Nat), s.heap.get? p = some o ∧ o.dict = none ∧ o.data = .seq its.toArray n ∧ (o.cls = .type "tuple" ∨ o.cls = .type "list") := by
    rcases hp with hp | hp
    · obtain ⟨its, rv, ⟨⟨o, ho, h1, n, h2⟩, o', ho', h3⟩, hz⟩ := I.tupleN hp
      rw [ho] at ho'
      cases ho'
      exact ⟨its, rv, hz, o, n, ho, h3, h2, .inl h1⟩
    · obtain ⟨hz, its, n, rv, e⟩ := (show ObjOk X.prog X.w H s.heap p (.lst (ps.map V.ref)) from I.hok p _ hp)
      exact ⟨its, rv, hz, _, n, e, rfl, rfl, .inr rfl⟩
  obtain ⟨pairs, kv, hpairs⟩ := pairs_of I rv hl hps
  refine callType_codes (Q₁ := fun obj s₁ => obj = .ref s.heap.objs.size ∧ s₁ = { s with heap := s.heap.push { cls := .type "dict", data := .dict #[] } }) F.kt_called_dict (F.kt_typeCall_dict_1 _) F.entry_dict_init (kt_code_dict_new _ ⟨rfl, rfl⟩) ?_
  rintro obj s₁ ⟨rfl, rfl⟩
  have hnew : (s.heap.push { cls := .type "dict", data := .dict #[] }).DictOf (mixKind X.prog X.w) s.heap.objs.size [] := Heap.DictOf.new s.heap
  refine ⟨hnew.typeIs, F.args_dict_init_2 _ _, ?_⟩
  unfold Builtin.«dict.__init__»
  refine wpAny_bind ?_
  unfold Builtin.Dict.selfAndRest
  refine wpAny_bind (wpAny_notOrdered_dict hnew.typeIs ?_)
  show wpAny _ _ (pure (s.heap.objs.size, [Value.ref p])) _ _ _
  refine wpAny_pure ?_
  show wpAny _ _ (Builtin.Dict.updateFrom "dict.__init__" s.heap.objs.size (.ref p) [] .none) _ _ _
  obtain ⟨o, n, ho, hdn, hdt, hcl⟩ := ob
  have hlv := rv.length
  rw [List.length_map] at hlv hz
  have hkl := kv.length
  refine updateFrom_pairs (A := X.A.in1) (knd := mixKind X.prog X.w) (kvs := []) (pairs := pairs) (its := its.toArray) hh hnew (Nat.ne_of_lt (Heap.lt_size ho)) ⟨o, n, Heap.get?_push_of_some _ ho, hdn, hdt, hcl⟩ (by simp only [List.length_nil]; omega) (by rw [List.size_toArray]; omega) (fun i v hv => ?_) fun h' tk hk hd => ?_
  · obtain ⟨a, oa, key, val, k, m, e1, e2, e3, e4, e5, e6⟩ := hpairs i v (by simpa using hv)
    exact ⟨a, oa, key, val, k, m, e1, e2, e3, Heap.get?_push_of_some _ e4, e5, e6⟩
  · refine ⟨rfl, .ref s.heap.objs.size, _, I.laid (t' := tk) (h' := h') (a := s.heap.objs.size) (o := .dK (mergeK [] kvs)) (fun b u e => hk b u (Nat.ne_of_lt (Heap.lt_size e)) (Heap.get?_push_of_some _ e)) (Nat.le_refl _) ?_, rfl, q _ (I.hok.fresh (Nat.le_refl _))⟩
    refine dk_new ?_ ?_ (KV.merge kv .nil) hd
    · have := length_mergeK kvs []
      simp only [List.length_nil] at this
      omega
    · have := I.big
      exact beq_eq_false_iff_ne.mpr (Nat.ne_of_gt this)
end
end L2
namespace L2
open PySem PySem.Spec PyProof.Rows
def pairsT : List T → Option (List (Key × T))
  | [] => some []
  | .t [k, x] :: r => match k.key, pairsT r with
    | some k, some r => some ((k, x) :: r)
    | _, _ => none
  | _ => none
def mergeT (ks more : List (Key × T)) : List (Key × T) := more.foldl (fun acc p => putT acc p.1 p.2) ks
section
variable {X : Cx} {K : PySem.W.Frag} {dl : Dl} {H : Hp}
theorem RepFs.pairs : ∀ {vs : List V} {xs : List T} {F : List Addr} {kts : List (Key × T)}, RepFs K dl H vs xs F → F = [] → pairsT xs = some kts →
    ∃ (ps : List Addr) (kvs : List (Key × V)), vs = ps.map V.ref ∧ ps.length = kvs.length ∧ (∀ (i : Nat) (a : Addr) (kv : Key × V), ps[i]? = some a → kvs[i]? = some kv → H a = some (.tup [kV kv.1, kv.2])) ∧ RepFk K dl H kvs kts []
  | _, _, _, kts, .nil, _, h => by
    cases h
    exact ⟨[], [], rfl, rfl, fun i a kv h => by simp at h, .nil⟩
  | _, x :: xs, _, kts, .cons (F := F1) h r, e, q => by
    obtain ⟨e1, e2⟩ := List.append_eq_nil_iff.mp e
    unfold pairsT at q
    split at q
    · rename_i z; cases z
    · rename_i k y r' z
      cases z
      split at q
      · rename_i k0 r0 ek er
        cases q
        obtain ⟨ps, kvs, rfl, hl, ht, hk⟩ := RepFs.pairs r e2 er
        obtain ⟨a, ws, rfl, ha, hws⟩ := h.tup
        cases hws with
        | @cons w1 _ _ _ G1 G2 w1r w2r =>
          cases w2r with
          | @cons w2 _ _ _ G3 G4 h2 h3 =>
            cases h3
            have e3 := w1r.key ek
            subst e3
            obtain ⟨z1, z2⟩ := List.append_eq_nil_iff.mp e1
            rw [List.append_nil] at z2
            subst z1 z2
            refine ⟨a :: ps, (k0, w2) :: kvs, rfl, by simp [hl], fun i b kv h1 h2 => ?_, .cons (F := []) h2 hk⟩
            cases i with
            | zero =>
              simp at h1 h2
              subst h1 h2
              exact ha
            | succ i => exact ht i b kv (by simpa using h1) (by simpa using h2)
      · cases q
    · cases q
theorem RepFk.mergeT {kvs' : List (Key × V)} {kts' : List (Key × T)} : ∀ {kvs : List (Key × V)} {kts : List (Key × T)} {F : List Addr}, RepFk K dl H kvs kts F → F = [] → ∀ {vs : List (Key × V)} {ts : List (Key × T)}, RepFk K dl H vs ts [] → RepFk K dl H (mergeK vs kvs) (L2.mergeT ts kts) []
  | _, _, _, .nil, _, _, _, h => h
  | _, _, _, .cons h1 r, e, vs, ts, h => by
    obtain ⟨e1, e2⟩ := List.append_eq_nil_iff.mp e
    subst e1
    exact RepFk.mergeT (kvs' := kvs') (kts' := kts') r e2 (RepFk.put h1 h)
def qDictOf : QC := fun ts Q => match ts with
  | [.t xs] => T.ims xs = true ∧ ∃ kts, pairsT xs = some kts ∧ Q (.d (mergeT [] kts))
  | [.l xs] => T.ims xs = true ∧ ∃ kts, pairsT xs = some kts ∧ Q (.d (mergeT [] kts))
  | _ => False
theorem sim_dictof : SimC K rDictOf qDictOf := by
  intro dl H vs ts F Q R D r hq k
  have go : ∀ (p : Addr) (ws : List V) (xs : List T), vs = [.ref p] → (H p = some (.tup ws) ∨ H p = some (.lst ws)) → RepFs K dl H ws xs [] → (∃ kts, pairsT xs = some kts ∧ Q (.d (mergeT [] kts))) → rDictOf vs H R := by
    rintro p ws xs rfl hp rs ⟨kts, e, hq⟩
    obtain ⟨ps, kvs, rfl, hl, ht, hk⟩ := rs.pairs rfl e
    refine ⟨p, ps, kvs, rfl, hp, hl, ht, fun d hd => ?_⟩
    have ev := (Evo.refl D).new (o := .dK (mergeK [] kvs)) hd
    have h2 : RepFk K dl H (mergeK [] kvs) (mergeT [] kts) [] := RepFk.mergeT (kvs' := []) (kts' := []) hk rfl .nil
    exact k _ _ [d] _ ev ⟨.d upd_same (h2.stay (ev.tf D) (fun _ z => z) fun _ z => nomatch z), fun b hb => by rw [List.mem_singleton.mp hb]; exact D.nd0 hd⟩ (fun b hb => by rw [List.mem_singleton.mp hb]; exact hd) (by simp) hq
  unfold qDictOf at hq
  split at hq
  · obtain ⟨v, rfl, r'⟩ := r.one
    obtain ⟨p, ws, rfl, h1, h2⟩ := r'.r.tup
    have e := h2.im hq.1
    subst e
    exact go p ws _ rfl (.inl h1) h2 hq.2
  · obtain ⟨v, rfl, r'⟩ := r.one
    obtain ⟨p, ws, G, rfl, _, h1, h2⟩ := r'.r.lst
    have e := h2.im hq.1
    subst e
    exact go p ws _ rfl (.inr h1) h2 hq.2
  · exact hq.elim
end
end L2
namespace L2
open PySem PySem.Spec PyProof.Rows
section
variable {X : Cx} {K : PySem.W.Frag} {a b : Expr} {ta tb : TE} {qa qb : QE} {pos : Pos}
theorem qs_par {i j : Nat} {x y : Str} {px py pt : Pos} {kt k2 pt2} (hc : X.calm = true) (hN : X.N.Nodup) (hi : X.N[i]? = some x) (hj : X.N[j]? = some y) (hij : i ≠ j)
    (hx : X.env.scope.names.lookup x = some .local) (hy : X.env.scope.names.lookup y = some .local) (ha : QPE X K a ta qa) (hb : QPE X K b tb qb)
    (hw : swappedStores [.Tuple [.Name x px, .Name y py] kt pt] (.Tuple [a, b] k2 pt2) X.env = pure (some [x, y]))
    (hs : swapsWithSole [.Tuple [.Name x px, .Name y py] kt pt] (.Tuple [a, b] k2 pt2) pos.line X.env = pure false := by rfl)
    (h1 : starEach [a, b] X.env = (false, eval a X.env) :: starEach [b] X.env := by rfl) (h2 : starEach [b] X.env = (false, eval b X.env) :: starEach [] X.env := by rfl) :
    QPS X K (.Assign [.Tuple [.Name x px, .Name y py] kt pt] (.Tuple [a, b] k2 pt2) pos) (tPar i j (tCons ta (tCons tb tNil))) (qPar i j qa qb) :=
  ⟨ps_par hc hN hi hj hij hx hy (pa_cons ha.h (pa_cons hb.h pa_nil h2) h1) hw hs, sim_par ha.s hb.s⟩
def psDraw : PSp := fun ts Q => match ts with
  | [.deal, .i m] => 0 < m ∧ m < 18446744073709551616 ∧ ∀ r, 0 ≤ r → r < m → Q (.i r)
  | _ => False
theorem draw_q {P : Program} {w : World} {K : PySem.W.Frag} {mg : Str → Option Value} {base : Heap} {k : Nat} {f : Addr} {fd : FuncData} {ps : List Str} (F : FnOk P w K mg base CX0 k f fd ps spDraw) : FnOk P w K mg base CX0 k f fd ps (spQ K psDraw) := by
  refine F.imp fun vs H Q E h => ?_
  obtain ⟨dl, ts, Fp, Qp, D, r, h, fin⟩ := h
  unfold psDraw at h
  split at h
  · obtain ⟨v, w', F1, F2, rfl, r1, r2⟩ := r.two
    obtain ⟨a, l, rfl, hm, _⟩ := r1.r.dea
    obtain ⟨rfl, _⟩ := r2.r.int
    refine ⟨a, l, _, rfl, D _ hm, h.1, h.2.1, fun r H' r0 r1' D' K' => fin _ _ [] H' ⟨fun b o e n => K' b o e (n _ hm).1 (n _ hm).2, fun p hp => ?_⟩ (.c (.i _)) (fun _ z => nomatch z) List.nodup_nil (h.2.2 r r0 r1')⟩
    by_cases e : p = (a, l)
    · rw [e]; exact D'
    · obtain ⟨s1, n1, l1, Q1⟩ := D p hp
      obtain ⟨s2, n2, l2, Q2⟩ := D _ hm
      obtain ⟨s3, n3, l3, Q3⟩ := D'
      have pa : p.1 ≠ a := fun z => by
        have z1 := Q1.hd
        have z2 := Q2.hd
        rw [z] at z1
        rw [z1] at z2
        have z3 : dk s1 n1 p.2 = dk s2 n2 l := by injection (Option.some.inj z2)
        have z4 := congrArg (fun kv => valV kv (.inr "left" : Key)) z3
        simp only [dk_left] at z4
        exact e (Prod.ext z (V.ref.inj (Option.some.inj z4)))
      have pl : p.1 ≠ l := ne_of Q1.hd Q2.hl (fun z => nomatch z)
      have p2a : p.2 ≠ a := ne_of Q1.hl Q2.hd (fun z => nomatch z)
      by_cases p2l : p.2 = l
      · exact ⟨s1, n1, l3, K' _ _ Q1.hd pa pl, by rw [p2l]; exact Q3.hl, Q1.s0, Q1.s1, Q1.n0, Q3.l0⟩
      · exact ⟨s1, n1, l1, K' _ _ Q1.hd pa pl, K' _ _ Q1.hl p2a p2l, Q1.s0, Q1.s1, Q1.n0, Q1.l0⟩
  · exact h.elim
end
end L2
namespace L2
open PySem PySem.Spec PyProof.Rows
section
variable {X : Cx} {K : PySem.W.Frag} {a b c e o : Expr} {ta tb tk tv te : TE} {qa qb qk qv qe : QE} {pos pos' : Pos}
theorem RepFs.set {dl : Dl} {H : Hp} {w : V} {t : T} (hw : RepF K dl H w t []) : ∀ {vs : List V} {xs : List T} {F : List Addr} (j : Nat), RepFs K dl H vs xs F → F = [] → RepFs K dl H (vs.set j w) (xs.set j t) []
  | _, _, _, _, .nil, _ => .nil
  | _, _, _, 0, .cons h r, e => by
    obtain ⟨e1, e2⟩ := List.append_eq_nil_iff.mp e
    subst e1 e2
    exact .cons (F := []) hw r
  | _, _, _, j + 1, .cons h r, e => by
    obtain ⟨e1, e2⟩ := List.append_eq_nil_iff.mp e
    subst e1 e2
    exact .cons (F := []) h (RepFs.set hw j r rfl)
theorem sim_setL {i : Nat} (hk : SimE K tk qk) (hv : SimE K tv qv) : SimS K (tAsg tv (gSub (tVar i) tk rSetL)) (qSetL i qk qv) := fun dl H₀ hs H σ q Dq D ⟨F, r⟩ hq E => by
  refine hv dl H σ q _ _ r.rd hq fun w t F1 H1 e1 r1 hq => ?_
  split at hq
  · rename_i xs ei
    obtain ⟨v, hv', rp⟩ := (r.evo e1).g i _ _ ei rfl
    refine ⟨v, hv', hk dl H1 σ q _ _ (r.rd.evo e1) hq fun y u F2 H2 e2 r2 hq => ?_⟩
    split at hq
    · obtain ⟨j, hj, hm, ht, hq⟩ := hq
      obtain ⟨rfl, _⟩ := r2.r.int
      obtain rfl := r1.r.im ht
      have rp2 := rp.evo e1.d e2
      obtain ⟨p, vs, G, rfl, eF, h1, h2⟩ := rp2.r.lst
      have eG := h2.im hm
      subst eG
      refine ⟨p, vs, _, j, rfl, rfl, h1, by rw [h2.len]; exact hj, ?_⟩
      exact E.nx _ _ _ (r.relist ei hv' eF (e1.trans e2) (RepFs.set (r1.evo e1.d e2).r j h2 rfl) List.nodup_nil fun _ z => nomatch z) hq
    · exact hq.elim
  · exact hq.elim
theorem qs_setL {i : Nat} (ho : PE X o (tVar i)) (hk : QPE X K a tk qk) (hv : QPE X K b tv qv) (hs : swapsWithSole [.Subscript o a pos'] b pos.line X.env = pure false := by rfl) (hw : swappedStores [.Subscript o a pos'] b X.env = pure none := by rfl)
    (h1 : (assignEach [.Subscript o a pos'] X.env).map (·.2) = [assign (.Subscript o a pos') X.env] := by rfl)
    (ha : ∀ v, assign (.Subscript o a pos') X.env v = (do
      let ov ← holding [v] (eval o X.env)
      let iv ← holding [v, ov] (eval a X.env)
      standAt pos'
      holding [v, ov, iv] (setItem ov iv v)
      release [v, ov, iv] []) := by intro _; rfl) : QPS X K (.Assign [.Subscript o a pos'] b pos) (tAsg tv (gSub (tVar i) tk rSetL)) (qSetL i qk qv) :=
  ⟨ps_asg hv.h (pg_sub ho hk.h set_list ha) hs hw h1, sim_setL hk.s hv.s⟩
def Sq.ro (q : Sq) : Sq := q.map fun x => match x with
  | .o t => if t.im = true then .o t else .r t
  | x => x
theorem Rel.ro {dl : Dl} {H₀ H : Hp} {hs : List (V × T)} {σ : St} {q : Sq} {F : Nat → List Addr} (r : Rel K dl H₀ hs H σ q F) : Rel K dl H₀ hs H σ q.ro F ∧ ∀ (i : Nat) (t : T), q.ro[i]? = some (.o t) → F i = [] := by
  have back : ∀ (i : Nat) (x : Sl), q.ro[i]? = some x → ∃ y, q[i]? = some y ∧ y.get = x.get ∧ ∀ t, x = .o t → y = .o t ∧ t.im = true := fun i x h => by
    unfold Sq.ro at h
    rw [List.getElem?_map] at h
    obtain ⟨y, hy, e⟩ := Option.map_eq_some_iff.mp h
    refine ⟨y, hy, ?_, fun t et => ?_⟩
    · cases y with
      | no => subst e; rfl
      | r t => subst e; rfl
      | o t =>
        replace e : (if t.im = true then Sl.o t else .r t) = x := e
        split at e <;> subst e <;> rfl
    · subst et
      cases y with
      | no => cases e
      | r t => cases e
      | o u =>
        replace e : (if u.im = true then Sl.o u else .r u) = .o t := e
        split at e
        · rename_i hm
          cases e
          exact ⟨rfl, hm⟩
        · cases e
  have em : ∀ (i : Nat) (t : T), q.ro[i]? = some (.o t) → F i = [] := fun i t h => by
    obtain ⟨y, hy, _, ho⟩ := back i _ h
    obtain ⟨rfl, hm⟩ := ho t rfl
    obtain ⟨v, _, rp⟩ := r.g i _ t hy rfl
    exact rp.r.im hm
  refine ⟨⟨r.d, fun i x t h1 h2 => ?_, fun i x h1 h2 => ?_, fun i hi => r.z i (by simpa [Sq.ro] using hi), fun i t h1 => ?_, fun p hp => ?_, r.f, by simp [Sq.ro, r.l]⟩, em⟩
  · obtain ⟨y, hy, hg, _⟩ := back i x h1
    exact r.g i y t hy (by rw [hg]; exact h2)
  · obtain ⟨y, hy, hg, _⟩ := back i x h1
    exact r.n i y hy (by rw [hg]; exact h2)
  · rw [em i t h1]
    exact ⟨List.nodup_nil, (fun _ z => nomatch z), (fun _ _ _ z => nomatch z)⟩
  · obtain ⟨Fp, h1, _⟩ := r.h p hp
    exact ⟨Fp, h1, fun i t hi b hb => by rw [em i t hi] at hb; cases hb⟩
end
end L2
namespace L2
open PySem PySem.Spec PyProof.Rows
section
variable {X : Cx} {K : PySem.W.Frag} {dl : Dl}
def zipT (xs ys : List T) : List T := (xs.zip ys).map fun p => .t [p.1, p.2]
variable {tg e a b : Expr} {te ta tb : TE} {qe qa qb : QE} {tl : TA} {ql : QA} {pos p : Pos}
end
end L2
namespace L2
open PySem PySem.Spec PyProof.Rows
section
variable {X : Cx} {K : PySem.W.Frag} {e a b : Expr} {tl : TA} {ql : QA} {pos p pos2 p2 : Pos} {dl : Dl}
end
end L2
namespace L2
open PySem PySem.Spec PyProof.Rows
def spLawQ (K : PySem.W.Frag) : Sp := fun vs H Q _ => ∃ (a : Addr) (ns : List Int), vs = [.ref a] ∧ FzL K H a (ns.map V.int) ∧ ns.length ≤ 63 ∧ ∀ H', Q (.bl true) H'
theorem fz_of {K : PySem.W.Frag} {H : Hp} {a : Addr} {xs : List V} (h : Only H) (hS : SqL K H a xs) : FzL K H a xs := by
  rcases hS with (z | ⟨o, z⟩) | z
  · rcases h a with e | ⟨o, ys, e⟩
    · rw [e] at z; cases z
    · rw [e] at z; cases z
  · exact .inl ⟨o, z⟩
  · exact .inr z
theorem FzL.same {K : PySem.W.Frag} {H H' : Hp} {a : Addr} {xs : List V} (h : FzL K H a xs) (s : Same H H') : FzL K H' a xs := by
  rcases h with ⟨o, z⟩ | z
  · exact .inl ⟨o, s _ _ z⟩
  · exact .inr z
theorem Fun.lawQ {P : Program} {w : World} {K : PySem.W.Frag} {mg : Str → Option Value} {base : Heap} {x qual : Str} {st : Stmt} {f : Addr} {fd : FuncData} {N : List Str} {k n : Nat} {s1 : Stmt} {rest : List Stmt} (F : Fun K x qual st f fd) (S : FnScope N ["_law_script"] (defScope st)) (hN : N.length = n + 2) (hst : defBody st = s1 :: rest)
    (hbody : ∀ (cdv : Value) (A : Around) (outer : List Env) (s : Shared) (H : Hp) (E : XK), Room k (A.deeper (envOfC qual (defScope st) s.heap.objs.size f cdv)) →
      ∃ t1 t qs, PS (cxOf CX0 P w K mg base N qual (defScope st) f cdv A outer s H E).nox s1 t1 ∧ QPSs (cxOf CX0 P w K mg base N qual (defScope st) f cdv A outer s H E).nox K rest t qs ∧
        (∀ (a : Addr) (ns : List Int) (D : Ends), SqL K H a (ns.map V.int) → ns.length ≤ 63 → (∀ (d l : Addr) (H' : Hp), H d = none → H l = none → Deal H' d l → Same H H' → D.nx ([some (.ref a), some (.ref d)] ++ List.replicate n none) H') → t1 D ([some (.ref a), none] ++ List.replicate n none) H) ∧
        ∀ ns : List Int, ns.length ≤ 63 → qs { nx := fun _ => False, rt := fun t => t = .b true } ([.r (.z ns), .r .deal] ++ List.replicate n .no)) : FnOk P w K mg base CX0 (k + 1) f fd ["_law_script"] (spLawQ K) := by
  refine F.ok S (fun vs H Q E h => ?_) (fun cdv A outer s H vs Q E hr h => ?_)
  · obtain ⟨a, ns, rfl, _⟩ := h; rfl
  · obtain ⟨a, ns, rfl, hS, hlen, k⟩ := h
    obtain ⟨t1, t, qs, h1, hb, r1, hq⟩ := hbody cdv A outer s H E hr
    rw [hst]
    refine ⟨_, pss_cons h1 hb.h, ?_⟩
    have es : start N [V.ref a] = [some (.ref a), none] ++ List.replicate n none := by
      unfold start
      rw [hN]
      rfl
    rw [es]
    refine r1 a ns _ hS.sq hlen fun d l H' hd hl D1 sm => ?_
    have Dq : Dls [(d, l)] H' := fun p hp => by rw [List.mem_singleton.mp hp]; exact D1
    have rp : Rps K [(d, l)] H' [.ref a, .ref d] [.z ns, .deal] ([] ++ ([] ++ [])) := ⟨.cons (.z (hS.same sm)) (.cons (.x (l := l) (List.mem_singleton.mpr rfl)) .nil), fun _ z => nomatch z⟩
    have R := rel_start (n := n + 2) Dq rp (by simp)
    refine hb.s [(d, l)] H' [] H' _ _ _ _ R (hq ns hlen) ⟨fun _ _ _ _ z => z.elim, fun _ _ _ _ z => z.elim, fun _ _ _ _ z => z.elim, fun v t F H2 _ r' _ _ _ hz => ?_⟩
    subst hz
    obtain ⟨rfl, _⟩ := r'.r.bl
    exact k H2
end L2
namespace L2
open PySem PySem.Spec PyProof.Rows
def vOf : Value → V
  | .none => .non
  | .bool b => .bl b
  | .int i _ => .int i
  | .str x _ => .str x
  | _ => .ty ""
theorem vOf_rel {v : V} {u : Value} (r : RelV v u) (f : flatV v = true) : vOf u = v := by
  cases v with
  | non => cases r; rfl
  | bl b => cases r; rfl
  | int i => obtain ⟨t, rfl⟩ := r; rfl
  | str x => obtain ⟨t, rfl⟩ := r; rfl
  | _ => exact absurd (show false = true from f) Bool.false_ne_true
theorem Vals.mem' {vs : List V} {us : List Value} (r : Vals vs us) : ∀ {u : Value}, u ∈ us → ∃ v ∈ vs, RelV v u := by
  induction r with
  | nil => intro u h; cases h
  | cons r1 _ ih =>
    intro u h
    rcases List.mem_cons.mp h with e | h
    · subst e; exact ⟨_, List.mem_cons_self, r1⟩
    · obtain ⟨v, hv, rv⟩ := ih h
      exact ⟨v, List.mem_cons_of_mem _ hv, rv⟩
theorem Vals.map_vOf {vs : List V} {us : List Value} (r : Vals vs us) (f : vs.all flatV = true) : us.map vOf = vs := by
  induction r with
  | nil => rfl
  | cons r1 _ ih =>
    rw [List.all_cons, Bool.and_eq_true] at f
    rw [List.map_cons, vOf_rel r1 f.1, ih f.2]
section
variable {X : Cx} {K : PySem.W.Frag} {o e : Expr} {apos cpos pos : Pos} {tl te : TE} {ql qe : QE}
def rCount (K : PySem.W.Frag) : V → List V → Hp → VK → Prop := fun x vs H Q => ∃ l xs y, x = .ref l ∧ vs = [y] ∧ SqL K H l xs ∧ xs.all flatV = true ∧ flatV y = true ∧ Q (.int (xs.countP (fun z => eqV z y) : Nat)) H
theorem mt_count : MtR X "list.count" (rCount X.K) := by
  intro pins s σ H x vs v us Q I rx rv h
  obtain ⟨l, xs, y, rfl, rfl, hl, fx, fy, q⟩ := h
  cases rx
  obtain ⟨u, rfl, ru⟩ := rv.one
  obtain ⟨its, r, pl, hz⟩ := I.list hl
  obtain ⟨⟨c, dd, dat, sl⟩, ho, hc, n, hd⟩ := pl.isList
  simp only at hc hd
  subst hc hd
  refine call_meets PySem.F.slot_list_count ⟨_, ho, rfl⟩ PySem.F.entry_list_count (PySem.F.args_list_count_2 _ _) (SeqAt.list_countAt l its.toArray n dd sl u (fun v => eqV (vOf v) y)) ⟨ho, fun z hz => ?_, ?_⟩
  · obtain ⟨w, hw, rw'⟩ := r.mem' (by simpa using hz)
    have fw := List.all_eq_true.mp fx w hw
    rw [vOf_rel rw' fw]
    exact eqAt_V rw' ru fw fy
  · have e : its.countP (fun v => eqV (vOf v) y) = xs.countP (fun z => eqV z y) := by
      rw [← r.map_vOf fx, List.countP_map]
      rfl
    have e' : (its.toArray.toList.countP fun v => eqV (vOf v) y) = xs.countP (fun z => eqV z y) := e
    rw [e']
    exact ⟨.int _, H, I.tok _, ⟨_, rfl⟩, q⟩
def rIndex (K : PySem.W.Frag) : V → List V → Hp → VK → Prop := fun x vs H Q => ∃ l xs y j, x = .ref l ∧ vs = [y] ∧ SqL K H l xs ∧ xs.all flatV = true ∧ flatV y = true ∧ xs.findIdx? (fun z => eqV z y) = some j ∧ Q (.int (j : Nat)) H
theorem mt_index : MtR X "list.index" (rIndex X.K) := by
  intro pins s σ H x vs v us Q I rx rv h
  obtain ⟨l, xs, y, j, rfl, rfl, hl, fx, fy, hj, q⟩ := h
  cases rx
  obtain ⟨u, rfl, ru⟩ := rv.one
  obtain ⟨its, r, pl, hz⟩ := I.list hl
  obtain ⟨⟨c, dd, dat, sl⟩, ho, hc, n, hd⟩ := pl.isList
  simp only at hc hd
  subst hc hd
  have hj' : its.findIdx? (fun v => eqV (vOf v) y) = some j := by
    rw [← r.map_vOf fx, List.findIdx?_map] at hj
    exact hj
  obtain ⟨hlt, hit, hno⟩ := List.findIdx?_eq_some_iff_getElem.mp hj'
  have hlen := r.length
  have hn := line63
  refine call_meets PySem.F.slot_list_index ⟨_, ho, rfl⟩ PySem.F.entry_list_index (PySem.F.args_list_index_2 _ _) (SeqAt.list_indexAt l its.toArray n dd sl u (fun v => eqV (vOf v) y) j (by simpa using hlt) (by omega) (by simpa using hit) (fun m hm hmj => ?_)) ⟨ho, fun z hz => ?_, ?_⟩
  · have := hno m hmj
    simpa using this
  · obtain ⟨w, hw, rw'⟩ := r.mem' (by simpa using hz)
    have fw := List.all_eq_true.mp fx w hw
    rw [vOf_rel rw' fw]
    exact eqAt_V rw' ru fw fy
  · exact ⟨.int _, H, I.tok _, ⟨_, rfl⟩, q⟩
def qCnt (ql qe : QE) : QE := fun q Q => ql q fun t => match t with
  | .l xs => qe q fun u => fls xs = true ∧ u.fl = true ∧ Q (.i (xs.countP (fun z => eqV z.v u.v) : Nat))
  | _ => False
def qIdx (ql qe : QE) : QE := fun q Q => ql q fun t => match t with
  | .l xs => qe q fun u => fls xs = true ∧ u.fl = true ∧ ∃ j, xs.findIdx? (fun z => eqV z.v u.v) = some j ∧ Q (.i (j : Nat))
  | _ => False
theorem flatV_all {xs : List T} (f : fls xs = true) : (xs.map T.v).all flatV = true := by
  rw [List.all_map, List.all_eq_true]
  exact fun x hx => flat_v1 (List.all_eq_true.mp f x hx)
theorem qe_count (ho : QPE X K o tl ql) (he : QPE X K e te qe) (hK : X.K = K := by rfl) (hbase : attributeBase o "count" X.env (eval o X.env) = eval o X.env := by rfl)
    (hfew : ((backTo cpos (starEach [e] X.env)).all (fun x => !x.1) && (backToKw cpos (keywordEach [] X.env)).all (fun x => x.1.isSome)
      && decide (([e] : List Expr).length + ([] : List Keyword).length + (if ([] : List Keyword).isEmpty then 0 else 1) < 30)) = true := by rfl)
    (hline : (apos.endLine == cpos.line) = true := by rfl) (hs : starEach [e] X.env = (false, eval e X.env) :: starEach [] X.env := by rfl) (hplain : (backTo cpos (starEach [] X.env)).any (·.1) = false := by rfl) :
    QPF X K (.Call (.Attribute o "count" apos) [e] [] cpos) (tBM K "list" (rCount K) tl (tCons te tNil)) (qCnt ql qe) :=
  ⟨by subst hK; exact pe_bm PySem.F.plainAttrs_list PySem.F.slot_list_count PySem.F.type_list_count mt_count ho.h (pa_cons he.h pa_nil hs) hbase hfew hline hs hplain, fun dl H σ q Q R rd hq k => ho.s dl H σ q _ _ rd hq fun v t F H1 e1 r1 hq => by
    split at hq
    · obtain ⟨p, vs, G, rfl, eF, h1, h2⟩ := r1.r.lst
      refine ⟨.inl ⟨rfl, vs, SqL.of h1⟩, he.s dl H1 σ q _ _ (rd.evo e1) hq fun y u F2 H2 e2 r2 ⟨f1, f2, hq⟩ => ?_⟩
      have rp := r1.evo e1.d e2
      obtain ⟨p', vs', G', e', eF', h1', h2'⟩ := rp.r.lst
      cases e'
      obtain ⟨ev, _⟩ := h2'.vs f1
      obtain ⟨ey, _⟩ := r2.r.v f2
      subst ev ey
      refine ⟨p, _, _, rfl, rfl, SqL.of h1', flatV_all f1, flat_v1 f2, ?_⟩
      rw [List.countP_map]
      exact k _ _ [] H2 (e1.trans e2) (.c (.i _)) (fun _ z => nomatch z) List.nodup_nil hq
    · exact hq.elim⟩
theorem qe_index (ho : QPE X K o tl ql) (he : QPE X K e te qe) (hK : X.K = K := by rfl) (hbase : attributeBase o "index" X.env (eval o X.env) = eval o X.env := by rfl)
    (hfew : ((backTo cpos (starEach [e] X.env)).all (fun x => !x.1) && (backToKw cpos (keywordEach [] X.env)).all (fun x => x.1.isSome)
      && decide (([e] : List Expr).length + ([] : List Keyword).length + (if ([] : List Keyword).isEmpty then 0 else 1) < 30)) = true := by rfl)
    (hline : (apos.endLine == cpos.line) = true := by rfl) (hs : starEach [e] X.env = (false, eval e X.env) :: starEach [] X.env := by rfl) (hplain : (backTo cpos (starEach [] X.env)).any (·.1) = false := by rfl) :
    QPF X K (.Call (.Attribute o "index" apos) [e] [] cpos) (tBM K "list" (rIndex K) tl (tCons te tNil)) (qIdx ql qe) :=
  ⟨by subst hK; exact pe_bm PySem.F.plainAttrs_list PySem.F.slot_list_index PySem.F.type_list_index mt_index ho.h (pa_cons he.h pa_nil hs) hbase hfew hline hs hplain, fun dl H σ q Q R rd hq k => ho.s dl H σ q _ _ rd hq fun v t F H1 e1 r1 hq => by
    split at hq
    · obtain ⟨p, vs, G, rfl, eF, h1, h2⟩ := r1.r.lst
      refine ⟨.inl ⟨rfl, vs, SqL.of h1⟩, he.s dl H1 σ q _ _ (rd.evo e1) hq fun y u F2 H2 e2 r2 ⟨f1, f2, j, hj, hq⟩ => ?_⟩
      have rp := r1.evo e1.d e2
      obtain ⟨p', vs', G', e', eF', h1', h2'⟩ := rp.r.lst
      cases e'
      obtain ⟨ev, _⟩ := h2'.vs f1
      obtain ⟨ey, _⟩ := r2.r.v f2
      subst ev ey
      refine ⟨p, _, _, j, rfl, rfl, SqL.of h1', flatV_all f1, flat_v1 f2, by rw [List.findIdx?_map]; exact hj, ?_⟩
      exact k _ _ [] H2 (e1.trans e2) (.c (.i _)) (fun _ z => nomatch z) List.nodup_nil hq
    · exact hq.elim⟩
end
def ltI : List Int → List Int → Bool
  | [], [] => false
  | [], _ :: _ => true
  | _ :: _, [] => false
  | x :: xs, y :: ys => if x = y then ltI xs ys else decide (x < y)
theorem ltI_drop {xs ys : List Int} {i : Nat} {x y : Int} (hx : xs[i]? = some x) (hy : ys[i]? = some y) : ltI (xs.drop i) (ys.drop i) = if x = y then ltI (xs.drop (i + 1)) (ys.drop (i + 1)) else decide (x < y) := by
  obtain ⟨h1, e1⟩ := List.getElem?_eq_some_iff.mp hx
  obtain ⟨h2, e2⟩ := List.getElem?_eq_some_iff.mp hy
  rw [List.drop_eq_getElem_cons h1, List.drop_eq_getElem_cons h2, e1, e2]
  rfl
theorem ltI_end {xs ys : List Int} {i : Nat} (h : xs.length ≤ i ∨ ys.length ≤ i) (hi : i ≤ xs.length) (hi2 : i ≤ ys.length) : ltI (xs.drop i) (ys.drop i) = decide (xs.length < ys.length) := by
  rcases h with h | h
  · rw [List.drop_eq_nil_of_le h]
    by_cases h2 : i < ys.length
    · rw [List.drop_eq_getElem_cons h2, decide_eq_true (by omega)]; rfl
    · rw [List.drop_eq_nil_of_le (by omega), decide_eq_false (by omega)]; rfl
  · rw [List.drop_eq_nil_of_le h]
    by_cases h2 : i < xs.length
    · rw [List.drop_eq_getElem_cons h2, decide_eq_false (by omega)]; rfl
    · rw [List.drop_eq_nil_of_le (by omega), decide_eq_false (by omega)]; rfl
section
open AutoSeq1 (wpAny_loadPart')
open MeetsSeq MeetsSeq2 MeetsSeq3
theorem ints_at {xs : List Int} {its : List Value} (r : Vals (xs.map V.int) its) (i : Nat) : (∃ x t, xs[i]? = some x ∧ its.toArray[i]? = some (.int x t)) ∨ (xs.length ≤ i ∧ its.toArray[i]? = none) := by
  have hl := r.length
  rw [List.length_map] at hl
  by_cases h : i < xs.length
  · obtain ⟨u, hu, ru⟩ := r.get (i := i) (x := .int xs[i]) (by simp [h])
    obtain ⟨t, rfl⟩ := ru
    exact .inl ⟨xs[i], t, by simp [h], by simpa using hu⟩
  · exact .inr ⟨by omega, by simp; omega⟩
theorem lt_loop (l b : Addr) (its its2 : List Value) (n n2 : Nat) (dd dd2 : Option Addr) (sl sl2 : Array (Option Value)) (xs ys : List Int) (rx : Vals (xs.map V.int) its) (ry : Vals (ys.map V.int) its2) (k : Nat) :
    ∀ i : Nat, xs.length - i = k → i ≤ xs.length → i ≤ ys.length → Meets (Builtin.«list.__eq__.loop» ⟨[.ref l, .ref b, rawInt i, rawInt 0], []⟩)
      (fun A R s => s.heap.get? l = some { cls := .type "list", dict := dd, data := .seq its.toArray n, slots := sl } ∧ s.heap.get? b = some { cls := .type "list", dict := dd2, data := .seq its2.toArray n2, slots := sl2 } ∧
        R (.ok (.ret (.bool (ltI (xs.drop i) (ys.drop i))))) s) := by
  have l1 := rx.length
  have l2 := ry.length
  rw [List.length_map] at l1 l2
  induction k with
  | zero =>
    intro i hk hi hi2 prog w A R s h
    obtain ⟨hp, g, d, tk, os⟩ := s; obtain ⟨hl, hb, h⟩ := h
    wp_walk using wpAny_loadPart' hl, wpAny_loadPart' hb
    have hi1 : its.toArray[((i : Nat) : Int).toNat]? = none := by simp; omega
    rw [ltI_end (.inl (by omega)) hi hi2] at h
    rw [hi1]
    wp_walk using wpAny_loadPart' hl, wpAny_loadPart' hb
    show R (.ok (.ret (.bool (decide (its.toArray.size < its2.toArray.size))))) _
    rw [List.size_toArray, List.size_toArray, ← l1, ← l2]
    exact h
  | succ k ih =>
    intro i hk hi hi2 prog w A R s h
    obtain ⟨hp, g, d, tk, os⟩ := s; obtain ⟨hl, hb, h⟩ := h
    wp_walk using wpAny_loadPart' hl, wpAny_loadPart' hb
    have hc : ((i : Int) + 1) = ((i + 1 : Nat) : Int) := by push_cast; rfl
    rcases ints_at rx i with ⟨x, t, ex, gx⟩ | ⟨z, _⟩
    · rcases ints_at ry i with ⟨y, u, ey, gy⟩ | ⟨z, gy⟩
      · rw [show (((i : Nat) : Int).toNat) = i from by simp, gx, gy]
        rw [ltI_drop ex ey] at h
        refine wpAny_bind (EqGives.int x y t u prog w _ _ _ _ ?_)
        by_cases hxy : x = y
        · subst hxy
          rw [if_pos rfl] at h
          have hb2 : (x == x) = true := by simp
          rw [hb2]
          wp_walk
          rw [hc]
          exact ⟨plainId_quiet plain_eq_loop _, codeAny_builtin entry_eq_loop (by
            rw [Around.under_plainId plain_eq_loop _]
            exact ih (i + 1) (by omega) (by have := (List.getElem?_eq_some_iff.mp ex).1; omega) (by have := (List.getElem?_eq_some_iff.mp ey).1; omega) prog w A R _ ⟨hl, hb, h⟩)⟩
        · rw [if_neg hxy] at h
          have hb2 : (x == y) = false := by simpa using hxy
          rw [hb2]
          wp_walk using wpAny_loadPart' hl, wpAny_loadPart' hb
          rw [gx, gy]
          refine wpAny_bind (lt_int ?_)
          wp_walk
          exact h
      · rw [show (((i : Nat) : Int).toNat) = i from by simp, gx, gy]
        rw [ltI_end (.inr z) hi hi2] at h
        wp_walk using wpAny_loadPart' hl, wpAny_loadPart' hb
        show R (.ok (.ret (.bool (decide (its.toArray.size < its2.toArray.size))))) _
        rw [List.size_toArray, List.size_toArray, ← l1, ← l2]
        exact h
    · omega
theorem gt_loop (l b : Addr) (its its2 : List Value) (n n2 : Nat) (dd dd2 : Option Addr) (sl sl2 : Array (Option Value)) (xs ys : List Int) (rx : Vals (xs.map V.int) its) (ry : Vals (ys.map V.int) its2) (k : Nat) :
    ∀ i : Nat, xs.length - i = k → i ≤ xs.length → i ≤ ys.length → Meets (Builtin.«list.__eq__.loop» ⟨[.ref l, .ref b, rawInt i, rawInt 4], []⟩)
      (fun A R s => s.heap.get? l = some { cls := .type "list", dict := dd, data := .seq its.toArray n, slots := sl } ∧ s.heap.get? b = some { cls := .type "list", dict := dd2, data := .seq its2.toArray n2, slots := sl2 } ∧
        R (.ok (.ret (.bool (ltI (ys.drop i) (xs.drop i))))) s) := by
  have l1 := rx.length
  have l2 := ry.length
  rw [List.length_map] at l1 l2
  induction k with
  | zero =>
    intro i hk hi hi2 prog w A R s h
    obtain ⟨hp, g, d, tk, os⟩ := s; obtain ⟨hl, hb, h⟩ := h
    wp_walk using wpAny_loadPart' hl, wpAny_loadPart' hb
    have hi1 : its.toArray[((i : Nat) : Int).toNat]? = none := by simp; omega
    rw [ltI_end (.inr (by omega)) hi2 hi] at h
    rw [hi1]
    wp_walk using wpAny_loadPart' hl, wpAny_loadPart' hb
    show R (.ok (.ret (.bool (decide (its2.toArray.size < its.toArray.size))))) _
    rw [List.size_toArray, List.size_toArray, ← l1, ← l2]
    exact h
  | succ k ih =>
    intro i hk hi hi2 prog w A R s h
    obtain ⟨hp, g, d, tk, os⟩ := s; obtain ⟨hl, hb, h⟩ := h
    wp_walk using wpAny_loadPart' hl, wpAny_loadPart' hb
    have hc : ((i : Int) + 1) = ((i + 1 : Nat) : Int) := by push_cast; rfl
    rcases ints_at rx i with ⟨x, t, ex, gx⟩ | ⟨z, _⟩
    · rcases ints_at ry i with ⟨y, u, ey, gy⟩ | ⟨z, gy⟩
      · rw [show (((i : Nat) : Int).toNat) = i from by simp, gx, gy]
        rw [ltI_drop ey ex] at h
        refine wpAny_bind (EqGives.int x y t u prog w _ _ _ _ ?_)
        by_cases hxy : x = y
        · subst hxy
          rw [if_pos rfl] at h
          have hb2 : (x == x) = true := by simp
          rw [hb2]
          wp_walk
          rw [hc]
          exact ⟨plainId_quiet plain_eq_loop _, codeAny_builtin entry_eq_loop (by
            rw [Around.under_plainId plain_eq_loop _]
            exact ih (i + 1) (by omega) (by have := (List.getElem?_eq_some_iff.mp ex).1; omega) (by have := (List.getElem?_eq_some_iff.mp ey).1; omega) prog w A R _ ⟨hl, hb, h⟩)⟩
        · rw [if_neg fun z => hxy z.symm] at h
          have hb2 : (x == y) = false := by simpa using hxy
          rw [hb2]
          wp_walk using wpAny_loadPart' hl, wpAny_loadPart' hb
          rw [gx, gy]
          refine wpAny_bind (gt_int ?_)
          wp_walk
          exact h
      · rw [show (((i : Nat) : Int).toNat) = i from by simp, gx, gy]
        rw [ltI_end (.inl z) hi2 hi] at h
        wp_walk using wpAny_loadPart' hl, wpAny_loadPart' hb
        show R (.ok (.ret (.bool (decide (its2.toArray.size < its.toArray.size))))) _
        rw [List.size_toArray, List.size_toArray, ← l1, ← l2]
        exact h
    · omega
def rLtL (K : PySem.W.Frag) : R2 := fun x y H Q => ∃ p q xs ys, x = .ref p ∧ y = .ref q ∧ SqL K H p (xs.map V.int) ∧ SqL K H q (ys.map V.int) ∧ Q (.bl (ltI xs ys)) H
def rGtL (K : PySem.W.Frag) : R2 := fun x y H Q => ∃ p q xs ys, x = .ref p ∧ y = .ref q ∧ SqL K H p (xs.map V.int) ∧ SqL K H q (ys.map V.int) ∧ Q (.bl (ltI ys xs)) H
theorem list_ltAt (l b : Addr) (its its2 : List Value) (n n2 : Nat) (dd dd2 : Option Addr) (sl sl2 : Array (Option Value)) (xs ys : List Int) (rx : Vals (xs.map V.int) its) (ry : Vals (ys.map V.int) its2) :
    Meets (Builtin.«list.__lt__» ⟨[.ref l, .ref b], []⟩) (fun A R s => s.heap.get? l = some { cls := .type "list", dict := dd, data := .seq its.toArray n, slots := sl } ∧ s.heap.get? b = some { cls := .type "list", dict := dd2, data := .seq its2.toArray n2, slots := sl2 } ∧
        R (.ok (.ret (.bool (ltI xs ys)))) s) := by
  intro prog w A R s h
  obtain ⟨hp, g, d, tk, os⟩ := s; obtain ⟨hl, hb, h⟩ := h
  have f3 := AutoSeq1.sub_list_list
  wp_walk using wpAny_loadPart' hl, wpAny_loadPart' hb
  exact ⟨plainId_quiet plain_eq_loop _, codeAny_builtin entry_eq_loop (by
    rw [Around.under_plainId plain_eq_loop _]
    exact lt_loop l b its its2 n n2 dd dd2 sl sl2 xs ys rx ry _ 0 rfl (Nat.zero_le _) (Nat.zero_le _) prog w A R _ ⟨hl, hb, h⟩)⟩
theorem list_gtAt (l b : Addr) (its its2 : List Value) (n n2 : Nat) (dd dd2 : Option Addr) (sl sl2 : Array (Option Value)) (xs ys : List Int) (rx : Vals (xs.map V.int) its) (ry : Vals (ys.map V.int) its2) :
    Meets (Builtin.«list.__gt__» ⟨[.ref l, .ref b], []⟩) (fun A R s => s.heap.get? l = some { cls := .type "list", dict := dd, data := .seq its.toArray n, slots := sl } ∧ s.heap.get? b = some { cls := .type "list", dict := dd2, data := .seq its2.toArray n2, slots := sl2 } ∧
        R (.ok (.ret (.bool (ltI ys xs)))) s) := by
  intro prog w A R s h
  obtain ⟨hp, g, d, tk, os⟩ := s; obtain ⟨hl, hb, h⟩ := h
  have f3 := AutoSeq1.sub_list_list
  wp_walk using wpAny_loadPart' hl, wpAny_loadPart' hb
  exact ⟨plainId_quiet plain_eq_loop _, codeAny_builtin entry_eq_loop (by
    rw [Around.under_plainId plain_eq_loop _]
    exact gt_loop l b its its2 n n2 dd dd2 sl sl2 xs ys rx ry _ 0 rfl (Nat.zero_le _) (Nat.zero_le _) prog w A R _ ⟨hl, hb, h⟩)⟩
section
variable {X : Cx} {K : PySem.W.Frag}
theorem op_ltL (hu : X.A.units + 1 < cLine) (hK : X.K = K) : OpR X (compareOp .Lt) (rLtL K) := by
  subst hK
  intro pins s σ H x y v u Q I rx ry h
  obtain ⟨p, q, xs, ys, rfl, rfl, h1, h2, k⟩ := h
  cases rx
  cases ry
  obtain ⟨its, r1, p1, _⟩ := I.list h1
  obtain ⟨its2, r2, p2, _⟩ := I.list h2
  obtain ⟨⟨c, dd, dat, sl⟩, ho, hc, n, hd⟩ := p1.isList
  obtain ⟨⟨c2, dd2, dat2, sl2⟩, ho2, hc2, n2, hd2⟩ := p2.isList
  simp only at hc hd hc2 hd2
  subst hc hd hc2 hd2
  exact richCompare_meets_room (op := .Lt) ⟨_, ho, rfl⟩ ⟨_, ho2, rfl⟩ F.slot_list_lt F.entry_list_lt (F.args_list_lt_2 _ _) (list_ltAt p q its its2 n n2 dd dd2 sl sl2 xs ys r1 r2) ⟨ho, ho2, (fun x => nomatch x), .bl _, H, I, rfl, k⟩ (by omega)
theorem op_gtL (hu : X.A.units + 1 < cLine) (hK : X.K = K) : OpR X (compareOp .Gt) (rGtL K) := by
  subst hK
  intro pins s σ H x y v u Q I rx ry h
  obtain ⟨p, q, xs, ys, rfl, rfl, h1, h2, k⟩ := h
  cases rx
  cases ry
  obtain ⟨its, r1, p1, _⟩ := I.list h1
  obtain ⟨its2, r2, p2, _⟩ := I.list h2
  obtain ⟨⟨c, dd, dat, sl⟩, ho, hc, n, hd⟩ := p1.isList
  obtain ⟨⟨c2, dd2, dat2, sl2⟩, ho2, hc2, n2, hd2⟩ := p2.isList
  simp only at hc hd hc2 hd2
  subst hc hd hc2 hd2
  exact richCompare_meets_room (op := .Gt) ⟨_, ho, rfl⟩ ⟨_, ho2, rfl⟩ F.slot_list_gt F.entry_list_gt (F.args_list_gt_2 _ _) (list_gtAt p q its its2 n n2 dd dd2 sl sl2 xs ys r1 r2) ⟨ho, ho2, (fun x => nomatch x), .bl _, H, I, rfl, k⟩ (by omega)
def qLtL : Q2 := fun t u Q => match t, u with
  | .l xs, .l ys => ∃ ns ms, xs = ns.map T.i ∧ ys = ms.map T.i ∧ Q (.b (ltI ns ms))
  | _, _ => False
def qGtL : Q2 := fun t u Q => match t, u with
  | .l xs, .l ys => ∃ ns ms, xs = ns.map T.i ∧ ys = ms.map T.i ∧ Q (.b (ltI ms ns))
  | _, _ => False
theorem RepFs.ints {dl : Dl} {H : Hp} {vs : List V} {ns : List Int} {F : List Addr} (h : RepFs K dl H vs (ns.map T.i) F) : vs = ns.map V.int := by
  obtain ⟨e, _⟩ := h.vs (by unfold fls; rw [List.all_map, List.all_eq_true]; exact fun _ _ => rfl)
  rw [e, List.map_map]
  rfl
theorem sim_ltL : SimOF K (rLtL K) qLtL := by
  intro dl H x y t u F G Q R D rx ry hq k
  unfold qLtL at hq
  split at hq
  · obtain ⟨ns, ms, rfl, rfl, hq⟩ := hq
    obtain ⟨p, vs, G1, rfl, _, h1, h2⟩ := rx.r.lst
    obtain ⟨p2, vs2, G2, rfl, _, h3, h4⟩ := ry.r.lst
    obtain rfl := h2.ints
    obtain rfl := h4.ints
    exact ⟨p, p2, ns, ms, rfl, rfl, SqL.of h1, SqL.of h3, k _ _ [] H (.refl D) (.c (.b _)) (fun _ z => nomatch z) List.nodup_nil hq⟩
  · exact hq.elim
theorem sim_gtL : SimOF K (rGtL K) qGtL := by
  intro dl H x y t u F G Q R D rx ry hq k
  unfold qGtL at hq
  split at hq
  · obtain ⟨ns, ms, rfl, rfl, hq⟩ := hq
    obtain ⟨p, vs, G1, rfl, _, h1, h2⟩ := rx.r.lst
    obtain ⟨p2, vs2, G2, rfl, _, h3, h4⟩ := ry.r.lst
    obtain rfl := h2.ints
    obtain rfl := h4.ints
    exact ⟨p, p2, ns, ms, rfl, rfl, SqL.of h1, SqL.of h3, k _ _ [] H (.refl D) (.c (.b _)) (fun _ z => nomatch z) List.nodup_nil hq⟩
  · exact hq.elim
end
end
end L2
namespace L2
open PySem PySem.Spec PyProof.Rows
section
variable {X : Cx} {K : PySem.W.Frag} {dl : Dl}
def enumT (xs : List T) : List T := xs.zipIdx.map fun p => .t [.i (p.2 : Nat), p.1]
theorem enumT_at {xs : List T} {i : Nat} {z : T} (h : (enumT xs)[i]? = some z) : ∃ x, xs[i]? = some x ∧ z = .t [.i (i : Nat), x] := by
  unfold enumT at h
  rw [List.getElem?_map] at h
  obtain ⟨p, hp, rfl⟩ := Option.map_eq_some_iff.mp h
  rw [List.getElem?_zipIdx] at hp
  obtain ⟨x, hx, rfl⟩ := Option.map_eq_some_iff.mp hp
  exact ⟨x, hx, by simp⟩
theorem enumT_len {xs : List T} : (enumT xs).length = xs.length := by simp [enumT]
theorem it_enum {a : Addr} {xs : List T} : ItOk K dl (Ite K true a) (enumT xs) [(.ref a, .t xs)] where
  go := fun H i D h hi => by
    obtain ⟨F, r⟩ := h (.ref a, .t xs) (by simp)
    obtain ⟨p, vs, e, h1, h2⟩ := r.r.tup
    cases e
    rw [enumT_len] at hi
    have l1 : i < vs.length := by rw [h2.len]; omega
    exact ⟨vs, vs[i], SqT.of h1, by simp [l1]⟩
  yld := fun H i x fp v H' D h hx y => by
    have r := h (.ref a, .t xs) (by simp)
    obtain ⟨p, vs, e, h1, h2⟩ := r.r.tup
    cases e
    obtain ⟨x1, hx1, rfl⟩ := enumT_at hx
    obtain ⟨w1, G1, hw1, rw1, hs1⟩ := h2.get hx1
    obtain ⟨q, u1, hq, rfl, rfl, y1'⟩ := y
    have e1 := y1' vs (SqT.of h1)
    rw [hw1] at e1
    cases e1
    have rs : Rps K dl H [.int (i : Nat), w1] [.i (i : Nat), x1] ([] ++ (G1 ++ [])) := Rps.cons ⟨.i _, fun _ z => nomatch z⟩ (Rps.cons ⟨rw1, fun b hb => r.n b (hs1 b hb)⟩ ⟨.nil, fun _ z => nomatch z⟩)
    refine ⟨(Evo.refl D).new hq, _, rs.tup D hq, fun c hb => .inr ?_⟩
    rw [List.append_nil] at hb
    exact ⟨_, by simp, hs1 c hb⟩
  stop := fun H D h => by
    obtain ⟨F, r⟩ := h (.ref a, .t xs) (by simp)
    obtain ⟨p, vs, e, h1, h2⟩ := r.r.tup
    cases e
    exact ⟨vs, SqT.of h1, by rw [enumT_len, h2.len]; exact Nat.le_refl _⟩
variable {tg e a b c : Expr} {te ta tb : TE} {qe qa qb : QE} {tl : TA} {ql : QA} {pos p : Pos}
def asEn (ql : QA) : QI := fun q Q => ql q fun ts => match ts with | [.t xs] => Q (enumT xs) | _ => False
theorem pi_enumK {elts : List Expr} {x1} {pos' : Pos} {ta : TA} {tp : Bool} (hK : X.K = K) (hg : Gl X "enumerate") (hm : X.mg "enumerate" = none) (hboot : bootBuiltins "enumerate" = some (.type "enumerate")) (ha : PA X [a] ta) (hs : starEach [a] X.env = [(false, eval a X.env)]) :
    PI X (.Tuple elts x1 pos') (.Call (.Name "enumerate" p) [a] [] pos) (iEnum K tp ta) := by subst hK; exact pi_enum hg hm hboot ha hs
theorem qi_enum {elts : List Expr} {x1} {pos' : Pos} (hg : Gl X "enumerate") (hm : X.mg "enumerate" = none) (hboot : bootBuiltins "enumerate" = some (.type "enumerate")) (ha : QPA X K [a] tl ql) (hs : starEach [a] X.env = [(false, eval a X.env)] := by rfl) (hK : X.K = K := by rfl) :
    QPI X K (.Tuple elts x1 pos') (.Call (.Name "enumerate" p) [a] [] pos) (iEnum K true tl) (asEn ql) := ⟨pi_enumK hK hg hm hboot ha.h hs, fun dl H σ q Q R rd hq k => ha.s dl H σ q _ _ rd hq fun vs ts F H' e1 r _ hz => by
  split at hz
  · obtain ⟨v, rfl, r1⟩ := r.one
    obtain ⟨l1, vs1, rfl, h1, h2⟩ := r1.r.tup
    exact ⟨l1, rfl, ⟨vs1, SqT.of h1⟩, k _ _ _ H' e1 it_enum (fun p hp => by rw [List.mem_singleton.mp hp]; exact ⟨_, r1⟩) hz⟩
  · exact hz.elim⟩
def zip3T (xs ys zs : List T) : List T := (xs.zip (ys.zip zs)).map fun p => .t [p.1, p.2.1, p.2.2]
theorem zip3T_at {xs ys zs : List T} {i : Nat} {v : T} (h : (zip3T xs ys zs)[i]? = some v) : ∃ x y z, xs[i]? = some x ∧ ys[i]? = some y ∧ zs[i]? = some z ∧ v = .t [x, y, z] := by
  unfold zip3T at h
  rw [List.getElem?_map] at h
  obtain ⟨p, hp, rfl⟩ := Option.map_eq_some_iff.mp h
  rw [List.getElem?_zip_eq_some, List.getElem?_zip_eq_some] at hp
  exact ⟨p.1, p.2.1, p.2.2, hp.1, hp.2.1, hp.2.2, rfl⟩
theorem zip3T_len {xs ys zs : List T} (h1 : xs.length ≤ ys.length) (h2 : xs.length ≤ zs.length) : (zip3T xs ys zs).length = xs.length := by simp [zip3T]; omega
theorem it_zip3 {a b c : Addr} {xs ys zs : List T} (hl1 : xs.length ≤ ys.length) (hl2 : xs.length ≤ zs.length) : ItOk K dl (Itz3 K true true true a b c) (zip3T xs ys zs) [(.ref a, .t xs), (.ref b, .t ys), (.ref c, .t zs)] where
  go := fun H i D h hi => by
    obtain ⟨F, r⟩ := h (.ref a, .t xs) (by simp)
    obtain ⟨F', r'⟩ := h (.ref b, .t ys) (by simp)
    obtain ⟨F'', r''⟩ := h (.ref c, .t zs) (by simp)
    obtain ⟨p, vs, e, h1, h2⟩ := r.r.tup
    cases e
    obtain ⟨p', vs', e', h1', h2'⟩ := r'.r.tup
    cases e'
    obtain ⟨p'', vs'', e'', h1'', h2''⟩ := r''.r.tup
    cases e''
    rw [zip3T_len hl1 hl2] at hi
    have l1 : i < vs.length := by rw [h2.len]; omega
    have l2 : i < vs'.length := by rw [h2'.len]; omega
    have l3 : i < vs''.length := by rw [h2''.len]; omega
    exact ⟨vs, vs', vs'', vs[i], vs'[i], vs''[i], SqT.of h1, SqT.of h1', SqT.of h1'', by simp [l1], by simp [l2], by simp [l3]⟩
  yld := fun H i x fp v H' D h hx y => by
    have r := h (.ref a, .t xs) (by simp)
    have r' := h (.ref b, .t ys) (by simp)
    have r'' := h (.ref c, .t zs) (by simp)
    obtain ⟨p, vs, e, h1, h2⟩ := r.r.tup
    cases e
    obtain ⟨p', vs', e', h1', h2'⟩ := r'.r.tup
    cases e'
    obtain ⟨p'', vs'', e'', h1'', h2''⟩ := r''.r.tup
    cases e''
    obtain ⟨x1, y1, z1, hx1, hy1, hz1, rfl⟩ := zip3T_at hx
    obtain ⟨w1, G1, hw1, rw1, hs1⟩ := h2.get hx1
    obtain ⟨w2, G2, hw2, rw2, hs2⟩ := h2'.get hy1
    obtain ⟨w3, G3, hw3, rw3, hs3⟩ := h2''.get hz1
    obtain ⟨q, u1, u2, u3, hq, rfl, rfl, y1', y2', y3'⟩ := y
    have e1 := y1' vs (SqT.of h1)
    rw [hw1] at e1
    cases e1
    have e2 := y2' vs' (SqT.of h1')
    rw [hw2] at e2
    cases e2
    have e3 := y3' vs'' (SqT.of h1'')
    rw [hw3] at e3
    cases e3
    have rs : Rps K dl H [w1, w2, w3] [x1, y1, z1] (G1 ++ (G2 ++ (G3 ++ []))) := Rps.cons ⟨rw1, fun b hb => r.n b (hs1 b hb)⟩ (Rps.cons ⟨rw2, fun b hb => r'.n b (hs2 b hb)⟩ (Rps.cons ⟨rw3, fun b hb => r''.n b (hs3 b hb)⟩ ⟨.nil, fun _ z => nomatch z⟩))
    refine ⟨(Evo.refl D).new hq, _, rs.tup D hq, fun d hb => .inr ?_⟩
    rw [List.append_nil] at hb
    rcases List.mem_append.mp hb with z | z
    · exact ⟨_, by simp, hs1 d z⟩
    · rcases List.mem_append.mp z with z | z
      · exact ⟨(.ref b, .t ys), by simp, hs2 d z⟩
      · exact ⟨(.ref c, .t zs), by simp, hs3 d z⟩
  stop := fun H D h => by
    obtain ⟨F, r⟩ := h (.ref a, .t xs) (by simp)
    obtain ⟨p, vs, e, h1, h2⟩ := r.r.tup
    cases e
    exact ⟨vs, SqT.of h1, by rw [zip3T_len hl1 hl2, h2.len]; exact Nat.le_refl _⟩
theorem Rps.three {dl : Dl} {H : Hp} {vs : List V} {t u z : T} {F : List Addr} (h : Rps K dl H vs [t, u, z] F) : ∃ v w x F1 F2 F3, vs = [v, w, x] ∧ Rp K dl H v t F1 ∧ Rp K dl H w u F2 ∧ Rp K dl H x z F3 := by
  obtain ⟨r, n⟩ := h
  cases r with
  | cons r1 r2 =>
    obtain ⟨w, x, F2, F3, rfl, h2, h3⟩ := Rps.two ⟨r2, fun b hb => n b (List.mem_append_right _ hb)⟩
    exact ⟨_, w, x, _, _, _, rfl, ⟨r1, fun b hb => n b (List.mem_append_left _ hb)⟩, h2, h3⟩
def asZ3 (ql : QA) : QJ := fun q Q => ql q fun ts => match ts with | [.t xs, .t ys, .t zs] => T.ims xs = true ∧ T.ims ys = true ∧ T.ims zs = true ∧ xs.length ≤ ys.length ∧ xs.length ≤ zs.length ∧ Q (zip3T xs ys zs) q | _ => False
theorem pi_zip3K {elts : List Expr} {x1} {pos' : Pos} {ta : TA} {t1 t2 t3 : Bool} (hK : X.K = K) (hg : Gl X "zip") (hm : X.mg "zip" = none) (hboot : bootBuiltins "zip" = some (.type "zip")) (ha : PA X [a, b, c] ta) (hs : starEach [a, b, c] X.env = [(false, eval a X.env), (false, eval b X.env), (false, eval c X.env)]) (hs2 : starEach [b, c] X.env = [(false, eval b X.env), (false, eval c X.env)]) :
    PI X (.Tuple elts x1 pos') (.Call (.Name "zip" p) [a, b, c] [] pos) (iZip3 K t1 t2 t3 ta) := by subst hK; exact pi_zip3 hg hm hboot ha hs hs2
theorem qj_zip3 {elts : List Expr} {x1} {pos' : Pos} (hg : Gl X "zip") (hm : X.mg "zip" = none) (hboot : bootBuiltins "zip" = some (.type "zip")) (ha : QPA X K [a, b, c] tl ql) (hs : starEach [a, b, c] X.env = [(false, eval a X.env), (false, eval b X.env), (false, eval c X.env)] := by rfl) (hs2 : starEach [b, c] X.env = [(false, eval b X.env), (false, eval c X.env)] := by rfl) (hK : X.K = K := by rfl) :
    QPJ X K (.Tuple elts x1 pos') (.Call (.Name "zip" p) [a, b, c] [] pos) (iZip3 K true true true tl) (asZ3 ql) := ⟨pi_zip3K hK hg hm hboot ha.h hs hs2, fun dl H₀ hs H σ q Q R ⟨F0, r0⟩ hq k => ha.s dl H σ q _ _ r0.rd hq fun vs ts F H' e1 r _ hz => by
  split at hz
  · obtain ⟨i1, i2, i3, hl1, hl2, hz⟩ := hz
    obtain ⟨v, w, x, F1, F2, F3, rfl, r1, r2, r3⟩ := r.three
    obtain rfl := r1.r.im (t := .t _) i1
    obtain rfl := r2.r.im (t := .t _) i2
    obtain rfl := r3.r.im (t := .t _) i3
    have q1 := (((r0.evo e1).hold r3 fun j u hj b hb z => nomatch z).hold r2 fun j u hj b hb z => nomatch z).hold r1 fun j u hj b hb z => nomatch z
    obtain ⟨l1, vs1, rfl, h1, h2⟩ := r1.r.tup
    obtain ⟨l2, vs2, rfl, h3, h4⟩ := r2.r.tup
    obtain ⟨l3, vs3, rfl, h5, h6⟩ := r3.r.tup
    exact ⟨l1, l2, l3, rfl, ⟨vs1, SqT.of h1⟩, ⟨vs2, SqT.of h3⟩, ⟨vs3, SqT.of h5⟩, k _ _ _ H' q ⟨F0, q1⟩ (it_zip3 hl1 hl2) hz⟩
  · exact hz.elim⟩
def qLRev (qe : QE) : QE := fun q Q => qe q fun t => match t with | .t xs => T.ims xs = true ∧ Q (.l xs.reverse) | _ => False
theorem RepFs.snoc {H : Hp} {v : V} {t : T} (hv : RepF K dl H v t []) : ∀ {vs : List V} {ts : List T} {F : List Addr}, RepFs K dl H vs ts F → F = [] → RepFs K dl H (vs ++ [v]) (ts ++ [t]) []
  | _, _, _, .nil, _ => .cons (F := []) (G := []) hv .nil
  | _, _, _, .cons h r, e => by
    obtain ⟨e1, e2⟩ := List.append_eq_nil_iff.mp e
    subst e1
    exact .cons (F := []) (G := []) h (RepFs.snoc hv r e2)
theorem RepFs.rev {H : Hp} : ∀ {vs : List V} {ts : List T} {F : List Addr}, RepFs K dl H vs ts F → F = [] → RepFs K dl H vs.reverse ts.reverse []
  | _, _, _, .nil, _ => .nil
  | _, _, _, .cons h r, e => by
    obtain ⟨e1, e2⟩ := List.append_eq_nil_iff.mp e
    subst e1
    rw [List.reverse_cons, List.reverse_cons]
    exact RepFs.snoc h (RepFs.rev r e2) rfl
theorem pe_listrevTK {p1 p2 pos2 : Pos} (hK : X.K = K) (hc : X.calm = true) (hg1 : Gl X "list") (hm1 : X.mg "list" = none) (hg2 : Gl X "reversed") (hm2 : X.mg "reversed" = none) (he : PE X e te)
    (hs1 : starEach [e] X.env = [(false, eval e X.env)]) (hs2 : starEach [.Call (.Name "reversed" p2) [e] [] pos2] X.env = [(false, eval (.Call (.Name "reversed" p2) [e] [] pos2) X.env)]) :
    PE X (.Call (.Name "list" p1) [.Call (.Name "reversed" p2) [e] [] pos2] [] pos) (tListRevT K te) := by subst hK; exact pe_listrevT hc hg1 hm1 hg2 hm2 he hs1 hs2
theorem qe_listrevT {p1 p2 pos2 : Pos} (hc : X.calm = true) (hg1 : Gl X "list") (hm1 : X.mg "list" = none) (hg2 : Gl X "reversed") (hm2 : X.mg "reversed" = none) (he : QPE X K e te qe)
    (hs1 : starEach [e] X.env = [(false, eval e X.env)] := by rfl) (hs2 : starEach [.Call (.Name "reversed" p2) [e] [] pos2] X.env = [(false, eval (.Call (.Name "reversed" p2) [e] [] pos2) X.env)] := by rfl) (hK : X.K = K := by rfl) :
    QPF X K (.Call (.Name "list" p1) [.Call (.Name "reversed" p2) [e] [] pos2] [] pos) (tListRevT K te) (qLRev qe) :=
  ⟨pe_listrevTK hK hc hg1 hm1 hg2 hm2 he.h hs1 hs2, fun dl H σ q Q R rd hq k => he.s dl H σ q _ _ rd hq fun v t F H1 e1 r hz => by
    split at hz
    · obtain ⟨i1, hz⟩ := hz
      obtain rfl := r.r.im (t := .t _) i1
      obtain ⟨l, vs, rfl, h1, h2⟩ := r.r.tup
      refine ⟨l, vs, rfl, SqT.of h1, fun p hp => ?_⟩
      have rs : Rps K dl H1 vs.reverse _ [] := ⟨h2.rev rfl, fun _ z => nomatch z⟩
      exact k _ _ [p] _ (e1.new hp) (rs.lst e1.d hp) (fun b hb => by rw [List.mem_singleton.mp hb]; exact e1.free hp) (by simp) hz
    · exact hz.elim⟩
def rEqD (op : CmpOp) : R2 := fun x y H Q => ∃ a b kvs, x = .ref a ∧ y = .ref b ∧ H a = some (.dK kvs) ∧ H b = some (.dK kvs) ∧ (kvs.all fun p => flatV p.2) = true ∧ Q (.bl (op == .Eq)) H
theorem eqV_same {v : V} (h : flatV v = true) : eqV v v = true := by cases v <;> first | rfl | exact absurd h Bool.false_ne_true | simp [eqV]
theorem op_eqD {op : CmpOp} (hop : op = .Eq ∨ op = .NotEq) (hc : ∀ v u : Value, compareOp op v u = richCompare op v u) (hu : X.A.units + 1 < cLine) : OpR X (compareOp op) (rEqD op) := by
  intro pins s σ H x y v u Q I rx ry h
  obtain ⟨a, b, kvs, rfl, rfl, ha, hb, hf, q⟩ := h
  cases rx
  cases ry
  obtain ⟨z1, hd1, vs1, r1, d1⟩ := dk_of I.hok ha
  obtain ⟨z2, hd2, vs2, r2, d2⟩ := dk_of I.hok hb
  rw [hc]
  refine dict_eq_call hop hd1 hd2 d1 d2 (by rw [← KV.keys r1, ← KV.keys r2]) (fun A' E' i p p' h1 h2 Q' hq => ?_) (by omega) ⟨.bl _, H, I, rfl, q⟩
  obtain ⟨x1, e1, _, s1⟩ := Paired.at_ r1 h1
  obtain ⟨x2, e2, _, s2⟩ := Paired.at_ r2 h2
  rw [e1] at e2
  cases e2
  have fx := List.all_eq_true.mp hf x1 (List.mem_of_getElem? e1)
  have := eqAt_V (A := A') (s := s) s1 s2 fx fx
  rw [eqV_same fx] at this
  exact this _ _ _ _ hq
theorem op_eqD1 (hu : X.A.units + 1 < cLine) : OpR X (compareOp .Eq) (rEqD .Eq) := op_eqD (.inl rfl) (fun _ _ => rfl) hu
theorem op_neD1 (hu : X.A.units + 1 < cLine) : OpR X (compareOp .NotEq) (rEqD .NotEq) := op_eqD (.inr rfl) (fun _ _ => rfl) hu
def qEqD (op : CmpOp) : Q2 := fun t u Q => match t, u with
  | .d xs, .d ys => xs = ys ∧ (xs.all fun p => p.2.fl) = true ∧ Q (.b (op == .Eq))
  | _, _ => False
theorem RepFk.vs {H : Hp} : ∀ {vs : List (Key × V)} {ts : List (Key × T)} {F : List Addr}, RepFk K dl H vs ts F → (ts.all fun p => p.2.fl) = true → vs = ts.map fun p => (p.1, p.2.v)
  | _, _, _, .nil, _ => rfl
  | _, _, _, .cons h r, f => by
    rw [List.all_cons, Bool.and_eq_true] at f
    rw [List.map_cons, ← RepFk.vs r f.2, (h.v f.1).1]
theorem sim_eqD {op : CmpOp} : SimOF K (rEqD op) (qEqD op) := by
  intro dl H x y t u F G Q R D rx ry hq k
  unfold qEqD at hq
  split at hq
  · obtain ⟨rfl, f, hq⟩ := hq
    obtain ⟨p, vs, G1, rfl, _, h1, h2⟩ := rx.r.dic
    obtain ⟨p2, vs2, G2, rfl, _, h3, h4⟩ := ry.r.dic
    obtain rfl := h2.vs f
    obtain rfl := h4.vs f
    refine ⟨p, p2, _, rfl, rfl, h1, h3, ?_, k _ _ [] H (.refl D) (.c (.b _)) (fun _ z => nomatch z) List.nodup_nil hq⟩
    rw [List.all_map, List.all_eq_true]
    exact fun x hx => flat_v1 (List.all_eq_true.mp f x hx)
  · exact hq.elim
def rDUpd : V → List V → Hp → VK → Prop := fun x vs H Q => ∃ (a p : Addr) (ps : List Addr) (kvs more : List (Key × V)), x = .ref a ∧ vs = [.ref p] ∧ H a = some (.dK kvs) ∧ H p = some (.lst (ps.map V.ref)) ∧ ps.length = more.length ∧
  (∀ (i : Nat) (b : Addr) (kv : Key × V), ps[i]? = some b → more[i]? = some kv → H b = some (.tup [kV kv.1, kv.2])) ∧ kvs.length + more.length ≤ sizeLine ∧ Q .non (upd H a (.dK (mergeK kvs more)))
theorem mt_dupdL (hc : X.calm = true) : MtR X "dict.update" rDUpd := by
  intro pins s σ H x vs v us Q I rx rv h
  obtain ⟨a, p, ps, kvs, more, rfl, rfl, ha, hp, hl, hps, hz, q⟩ := h
  cases rx
  obtain ⟨u, rfl, ru⟩ := rv.one
  cases ru
  have hh : X.A.handled = none := I.ok.hd hc
  obtain ⟨z1, hd1, vs1, r1, d1⟩ := dk_of I.hok ha
  obtain ⟨hzp, its, n, rvl, e⟩ := (show ObjOk X.prog X.w H s.heap p (.lst (ps.map V.ref)) from I.hok p _ hp)
  obtain ⟨pairs, kv, hpairs⟩ := pairs_of I rvl hl hps
  have hlv := rvl.length
  rw [List.length_map] at hlv
  have hkl : more.length = pairs.length := Paired.length kv
  have l1 : kvs.length = vs1.length := Paired.length r1
  have hpa : p ≠ a := ne_of hp ha (fun z => nomatch z)
  refine call_meetsIn PySem.F.slot_dict_update d1.typeIs PySem.F.entry_dict_update (PySem.F.args_dict_update_2 _ _) (S := fun A R s' => s' = s ∧ A = X.A ∧ R = wants (EP X pins σ Q) X.xe) (fun A R s' ⟨e1, e2, e3⟩ => ?_) ⟨rfl, rfl, rfl⟩
  subst e1 e2 e3
  unfold Builtin.«dict.update»
  refine wpAny_bind ?_
  unfold Builtin.Dict.selfAndRest
  refine wpAny_bind (wpAny_notOrdered_dict d1.typeIs ?_)
  show wpAny _ _ (pure (a, [Value.ref p])) _ _ _
  refine wpAny_pure ?_
  show wpAny _ _ (Builtin.Dict.updateFrom "dict.update" a (.ref p) [] .none) _ _ _
  refine updateFrom_pairs (A := X.A) (knd := mixKind X.prog X.w) (kvs := vs1) (pairs := pairs) (its := its.toArray) hh d1 hpa ⟨_, n, e, rfl, rfl, .inr rfl⟩ (by omega) (by rw [List.size_toArray]; omega) (fun i v hv => ?_) fun h' tk hk hd => ?_
  · obtain ⟨b, ob, key, val, k, m, e1, e2, e3, e4, e5, e6⟩ := hpairs i v (by simpa using hv)
    exact ⟨b, ob, key, val, k, m, e1, e2, e3, e4, e5, e6⟩
  · refine ⟨.non, _, ?_, rfl, q⟩
    have hz' : (mergeK kvs more).length ≤ sizeLine := Nat.le_trans (length_mergeK more kvs) hz
    have he : ∃ q, h'.get? a = some q := let ⟨q, _, _, hq, _⟩ := hd; ⟨q, hq⟩
    exact I.write (t' := tk) (x := a) (e := a) (by rw [ha]; exact True.intro) (.inl rfl) (fun b q hb z => hk b q hb z) he (dk_new hz' hd1 (KV.merge kv r1) hd)
def qUpd (i : Nat) (qe : QE) : QS := fun D q => match q[i]? with
  | some (.o (.d xs)) => qe q fun t => match t with
    | .l ys => T.imk xs = true ∧ T.ims ys = true ∧ ∃ kts, pairsT ys = some kts ∧ xs.length + kts.length ≤ sizeLine ∧ D.nx (q.set i (.o (.d (mergeT xs kts))))
    | _ => False
  | _ => False
variable {o : Expr} {apos cpos : Pos}
theorem sim_upd {i : Nat} (he : SimF K te qe) : SimS K (tDrop (tBM K "dict" rDUpd (tVar i) (tCons te tNil))) (qUpd i qe) := fun dl H₀ hs H σ q Dq D ⟨F, r⟩ hq E => by
  unfold qUpd at hq
  split at hq
  · rename_i xs ei
    obtain ⟨v, hv, rp⟩ := r.g i _ _ ei rfl
    obtain ⟨p, vs, G, rfl, eF, h1, h2⟩ := rp.r.dic
    refine ⟨_, hv, .inr (.inr (.inl ⟨rfl, .inl ⟨_, h1⟩⟩)), he dl H σ q _ _ r.rd hq fun w t F' H' e1 r1 f1 n1 hz' => ?_⟩
    split at hz'
    · rename_i ys
      obtain ⟨im1, im2, kts, ek, hl, hz'⟩ := hz'
      have rp2 := rp.evo r.d e1
      obtain ⟨p', vs', G', e', eF', h1', h2'⟩ := rp2.r.dic
      cases e'
      obtain rfl := h2'.im im1
      obtain ⟨p2, ws, G2, rfl, eG2, h3, h4⟩ := r1.r.lst
      obtain rfl := h4.im im2
      obtain ⟨ps, more, rfl, hlen, ht, hk⟩ := h4.pairs rfl ek
      refine ⟨p, p2, ps, vs', more, rfl, rfl, h1', h3, hlen, ht, by rw [h2'.len, hk.len]; exact hl, ?_⟩
      exact E.nx _ _ _ (r.redict ei hv e1 (RepFk.mergeT (kvs' := []) (kts' := []) hk rfl h2')) hz'
    · exact hz'.elim
  · exact hq.elim
theorem qs_upd {i : Nat} {spos : Pos} (hc : X.calm = true) (ho : PE X o (tVar i)) (he : QPF X K e te qe) (hK : X.K = K := by rfl) (hbase : attributeBase o "update" X.env (eval o X.env) = eval o X.env := by rfl)
    (hfew : ((backTo cpos (starEach [e] X.env)).all (fun x => !x.1) && (backToKw cpos (keywordEach [] X.env)).all (fun x => x.1.isSome)
      && decide (([e] : List Expr).length + ([] : List Keyword).length + (if ([] : List Keyword).isEmpty then 0 else 1) < 30)) = true := by rfl)
    (hline : (apos.endLine == cpos.line) = true := by rfl) (hs : starEach [e] X.env = (false, eval e X.env) :: starEach [] X.env := by rfl) (hplain : (backTo cpos (starEach [] X.env)).any (·.1) = false := by rfl)
    (hsw : swapsWith (.Call (.Attribute o "update" apos) [e] [] cpos) none spos.line X.env = pure false := by rfl) :
    QPS X K (.Expr (.Call (.Attribute o "update" apos) [e] [] cpos) spos) (tDrop (tBM K "dict" rDUpd (tVar i) (tCons te tNil))) (qUpd i qe) :=
  ⟨ps_expr (by subst hK; exact pe_bm PySem.F.plainAttrs_dict PySem.F.slot_dict_update PySem.F.type_dict_update (mt_dupdL hc) ho (pa_cons he.h pa_nil hs) hbase hfew hline hs hplain) hsw, sim_upd he.s⟩
end
end L2
namespace L2
open PySem PySem.Spec PyProof.Rows
section
variable {X : Cx} {K : PySem.W.Frag} {dl : Dl} {H : Hp} {v : V} {F : List Addr}
theorem RepF.fdic {o : Obj} {vs : List (Key × V)} {ts : List (Key × T)} (h : RepF K dl H v (.fd o vs ts) F) : ∃ a, v = .ref a ∧ F = [] ∧ H a = some (.frz o (.dK vs)) ∧ RepFk K dl H vs ts [] := by cases h with | fd h r => exact ⟨_, rfl, rfl, h, r⟩
def keyT : Key → T
  | .inl i => .i i
  | .inr s => .s s
theorem keyT_rep (k : Key) : RepF K dl H (kV k) (keyT k) [] := by cases k with | inl i => exact .i i | inr s => exact .s s
theorem RepFk.ks : ∀ {vs : List (Key × V)} {ts : List (Key × T)} {F : List Addr}, RepFk K dl H vs ts F → vs.map (·.1) = ts.map (·.1)
  | _, _, _, .nil => rfl
  | _, _, _, .cons _ r => by rw [List.map_cons, List.map_cons, RepFk.ks r]
theorem it_dictF {a : Addr} {o : Obj} {vs : List (Key × V)} {ts : List (Key × T)} : ItOk K dl (Itd a o vs) (ts.map fun p => keyT p.1) [(.ref a, .fd o vs ts)] where
  go := fun H i D h hi => by
    obtain ⟨F, r⟩ := h (.ref a, .fd o vs ts) (by simp)
    obtain ⟨_, e, _, h1, h2⟩ := r.r.fdic
    cases e
    rw [List.length_map] at hi
    exact ⟨h1, by rw [h2.len]; exact hi⟩
  yld := fun H i x fp v H' D h hx y => by
    have r := h (.ref a, .fd o vs ts) (by simp)
    obtain ⟨_, e, _, h1, h2⟩ := r.r.fdic
    cases e
    obtain ⟨rfl, kv, ek, rfl⟩ := y
    rw [List.getElem?_map] at hx
    obtain ⟨p, hp, rfl⟩ := Option.map_eq_some_iff.mp hx
    have e : kv.1 = p.1 := by
      have h1 : (vs.map (·.1))[i]? = some kv.1 := by rw [List.getElem?_map, ek]; rfl
      rw [h2.ks, List.getElem?_map, hp] at h1
      exact (Option.some.inj h1).symm
    rw [e]
    exact ⟨.refl D, [], .c (keyT_rep _), fun _ z => nomatch z⟩
  stop := fun H D h => by
    obtain ⟨F, r⟩ := h (.ref a, .fd o vs ts) (by simp)
    obtain ⟨_, e, _, h1, h2⟩ := r.r.fdic
    cases e
    exact ⟨h1, by rw [List.length_map, h2.len]; exact Nat.le_refl _⟩
variable {tg e a b : Expr} {te ta tb : TE} {qe qa qb : QE} {pos : Pos}
def asFd (qe : QE) : QI := fun q Q => qe q fun t => match t with | .fd _ _ ts => Q (ts.map fun p => keyT p.1) | _ => False
theorem qi_fd (h : QPE X K e te qe) : QPI X K tg e (iDictF te) (asFd qe) := ⟨pi_dictF h.h, fun dl H σ q Q R rd hq k => h.s dl H σ q _ _ rd hq fun v t F H' e1 r hz => by
  split at hz
  · obtain ⟨p, rfl, rfl, h1, h2⟩ := r.r.fdic
    exact ⟨p, _, _, rfl, h1, k _ _ _ H' e1 it_dictF (fun p hp => by rw [List.mem_singleton.mp hp]; exact ⟨_, r⟩) hz⟩
  · exact hz.elim⟩
def qIxF : Q2 := fun t u Q => match t with
  | .fd _ _ ks => match u.key with
    | some k => ∃ z, lookT ks k = some z ∧ Q z
    | none => False
  | _ => False
def rIxF : R2 := fun x y H Q => ∃ p o kvs k v, x = .ref p ∧ y = kV k ∧ H p = some (.frz o (.dK kvs)) ∧ valV kvs k = some v ∧ Q v H
theorem ix_dictF : IxR X rIxF := by
  intro value slice pins s σ H x y v u Q I rx ry h hs
  obtain ⟨a, o, kvs, k, w, rfl, rfl, ha, hv, q⟩ := h
  cases rx
  obtain ⟨z, hd, vs, rel, dd⟩ := dk_rd I.hok (.inr ⟨o, ha⟩)
  obtain ⟨w', hw, rw'⟩ := RelO.some_of (v := w) (o := valueAt vs k) (by rw [← hv]; exact rel.val k)
  exact subscriptTail_builtinR (x := w') dd.typeIs PySem.F.slot_dict_getitem.lookup (wpAny_getItem_of (Q := fun r s' => r = w' ∧ EP X pins σ Q r s') (kV_is ry) dd.mapOf hw ⟨rfl, w, H, I.tok _, rw', q⟩) hs
theorem sim_ixF : SimO K rIxF qIxF := by
  intro dl H x y t u F G Q R D r1 r2 hq k
  unfold qIxF at hq
  split at hq
  · split at hq
    · rename_i k0 ek
      obtain ⟨z, hz, hq⟩ := hq
      obtain ⟨p, rfl, rfl, h1, h2⟩ := r1.r.fdic
      rw [r2.r.key ek]
      rcases h2.look k0 with ⟨z1, z2⟩ | ⟨t, v, G', z1, z2, z3, z4⟩
      · rw [z1] at hz; cases hz
      · rw [z1] at hz
        cases hz
        exact ⟨p, _, _, k0, v, rfl, rfl, h1, z2, k v _ G' H (.refl D) ⟨z3, fun b hb => nomatch z4 b hb⟩ hq⟩
    · exact hq.elim
  · exact hq.elim
theorem qe_ixf (ha : QPE X K a ta qa) (hb : QPE X K b tb qb) (hs : PlainIx b := by intro _ _; rfl) : QPE X K (.Subscript a b pos) (tOp rIxF ta tb) (qOp qIxF qa qb) := ⟨pe_ix ix_dictF ha.h hb.h hs, sim_op sim_ixF ha.s hb.s⟩
def qFrz (i : Nat) (qe : QE) : QE := fun q Q => match q[i]? with
  | some x => match x.get with
    | some (.d ks) => T.imk ks = true ∧ ∀ o vs, qe ((List.replicate q.length Sl.no).set i (.r (.fd o vs ks))) fun t => match t with
      | .l xs => fls xs = true ∧ Q (.l xs)
      | _ => False
    | _ => False
  | none => False
theorem Deal.oth {H : Hp} {d l a : Addr} {o : HO} (D : Deal H d l) (h1 : a ≠ d) (h2 : a ≠ l) : Deal (upd H a o) d l := by
  obtain ⟨s, n, ls, Q⟩ := D
  exact ⟨s, n, ls, by rw [upd_ne h1.symm]; exact Q.hd, by rw [upd_ne h2.symm]; exact Q.hl, Q.s0, Q.s1, Q.n0, Q.l0⟩
theorem RepF.flat {t : T} (h : t.fl = true) : RepF K dl H t.v t [] := by
  cases t with
  | n => exact .n
  | b x => exact .b x
  | i x => exact .i x
  | s x => exact .s x
  | _ => exact absurd (show false = true from h) Bool.false_ne_true
theorem RepFs.flat : ∀ {xs : List T}, fls xs = true → RepFs K dl H (xs.map T.v) xs []
  | [], _ => .nil
  | x :: r, h => by
    have h : (_ && _) = true := h
    rw [Bool.and_eq_true] at h
    exact .cons (F := []) (G := []) (RepF.flat h.1) (RepFs.flat h.2)
theorem sim_frz {i : Nat} (he : SimF K te qe) : SimF K (tFrzE i te) (qFrz i qe) := by
  intro dl H σ q Q R rd hq k
  unfold qFrz at hq
  split at hq
  · rename_i x ex
    split at hq
    · rename_i ks eg
      obtain ⟨him, hq⟩ := hq
      obtain ⟨v, F, ev, rp⟩ := rd.g i x _ ex eg
      obtain ⟨a, vs, G, rfl, rfl, h1, h2⟩ := rp.r.dic
      obtain rfl := h2.im him
      have na : Nd dl a := rp.n a List.mem_cons_self
      refine ⟨a, vs, ev, h1, fun o => ?_⟩
      have tf : TF H (upd H a (.frz o (.dK vs))) := ⟨fun b xs e => by rw [upd_ne (ne_of e h1 (fun z => nomatch z))]; exact e, fun b o' u e => by rw [upd_ne (ne_of e h1 (fun z => nomatch z))]; exact e, fun b xs e => ⟨xs, by rw [upd_ne (ne_of e h1 (fun z => nomatch z))]; exact e⟩⟩
      have hD : Dls dl (upd H a (.frz o (.dK vs))) := fun p hp => (rd.d p hp).oth (na p hp).1 (na p hp).2
      have rd' : RdR K dl (upd H a (.frz o (.dK vs))) σ ((List.replicate q.length Sl.no).set i (.r (.fd o vs ks))) := by
        refine ⟨hD, fun j y t hj ht => ?_⟩
        by_cases hij : i = j
        · subst hij
          have hlt : i < q.length := (List.getElem?_eq_some_iff.mp ex).1
          rw [List.getElem?_set_self (by simpa using hlt)] at hj
          cases hj
          cases ht
          exact ⟨.ref a, [], ev, .fd upd_same (h2.stay tf (fun _ z => z) fun _ z => nomatch z), fun _ z => nomatch z⟩
        · rw [List.getElem?_set_ne hij, List.getElem?_replicate] at hj
          split at hj
          · cases hj; cases ht
          · cases hj
      refine he dl _ σ _ _ _ rd' (hq o vs) fun w t F' H' e1 r1 f1 n1 hz => ?_
      split at hz
      · rename_i xs
        obtain ⟨fx, hz⟩ := hz
        have ha' : H' a = some (.frz o (.dK vs)) := e1.k a _ upd_same na
        obtain ⟨p, ws, G', rfl, rfl, h3, h4⟩ := r1.r.lst
        obtain ⟨rfl, rfl⟩ := h4.vs fx
        have hpa : p ≠ a := ne_of h3 ha' (fun z => nomatch z)
        have hpn : H p = none := by
          have := f1 p List.mem_cons_self
          rw [upd_ne hpa] at this
          exact this
        refine ⟨ha', k _ (.l xs) [p] _ ⟨fun b o' hb nb => ?_, fun q hq => (e1.d q hq).oth (na q hq).1 (na q hq).2⟩ ⟨?_, fun b hb => r1.n b hb⟩ (fun b hb => by rw [List.mem_singleton.mp hb]; exact hpn) (by simp) hz⟩
        · by_cases hba : b = a
          · subst hba
            rw [h1] at hb
            cases hb
            exact upd_same
          · rw [upd_ne hba]
            exact e1.k b o' (by rw [upd_ne hba]; exact hb) nb
        · refine .l (F := []) (by rw [upd_ne hpa]; exact h3) ?_
          exact RepFs.flat fx
      · exact hz.elim
    · exact hq.elim
  · exact hq.elim
theorem qe_frz {i : Nat} (h : QPF X K e te qe) : QPF X K e (tFrzE i te) (qFrz i qe) := ⟨pe_frz h.h, sim_frz h.s⟩
end
end L2
namespace K13
open PySem L2
def top (i : Nat) : Stmt := PySem.Challenge.pw_pursewright_k13_sizes_counts_and_order.main.body.getD i (.Pass ⟨0, 0, 0, 0⟩)
abbrev s_makers_in : Stmt := top 1
theorem sc_makers_in : FnScope ["value", "makers", "waiting", "thing"] ["value"] (defScope s_makers_in) := ⟨rfl, rfl, rfl, by decide +kernel, rfl, by decide +kernel, by decide +kernel⟩
abbrev s_size : Stmt := top 2
theorem sc_size : FnScope ["value"] ["value"] (defScope s_size) := ⟨rfl, rfl, rfl, by decide +kernel, rfl, by decide +kernel, by decide +kernel⟩
abbrev s_counts : Stmt := top 3
theorem sc_counts : FnScope ["value", "often", "maker"] ["value"] (defScope s_counts) := ⟨rfl, rfl, rfl, by decide +kernel, rfl, by decide +kernel, by decide +kernel⟩
abbrev s_key : Stmt := top 4
theorem sc_key : FnScope ["kinds", "value", "numbers", "name", "makers"] ["kinds", "value"] (defScope s_key) := ⟨rfl, rfl, rfl, by decide +kernel, rfl, by decide +kernel, by decide +kernel⟩
abbrev s_deal : Stmt := top 6
theorem sc_deal : FnScope ["_law_script", "_law_base", "_law_cells", "_law_number", "_law_cell"] ["_law_script", "_law_base"] (defScope s_deal) := ⟨rfl, rfl, rfl, by decide +kernel, rfl, by decide +kernel, by decide +kernel⟩
abbrev s_draw : Stmt := top 7
theorem sc_draw : FnScope ["_law_deal_here", "_law_many", "_law_number", "_law_one", "_law_other"] ["_law_deal_here", "_law_many"] (defScope s_draw) := ⟨rfl, rfl, rfl, by decide +kernel, rfl, by decide +kernel, by decide +kernel⟩
abbrev s_words : Stmt := top 8
theorem sc_words : FnScope ["_law_deal_here", "_law_many", "_law_letters", "_law_core", "_law_at", "_law_turn", "_law_found", "_law_k", "_law_own", "_law_word", "_law_near"] ["_law_deal_here", "_law_many"] (defScope s_words) := ⟨rfl, rfl, rfl, by decide +kernel, rfl, by decide +kernel, by decide +kernel⟩
abbrev s_kinds : Stmt := top 9
theorem sc_kinds : FnScope ["_law_deal_here", "_law_words_here", "_law_form", "_law_a", "_law_b", "_law_m", "_law_found", "_law_many", "_law_made", "_law_k", "_law_makers_here", "_law_j", "_law_wide", "_law_fields"] ["_law_deal_here", "_law_words_here"] (defScope s_kinds) := ⟨rfl, rfl, rfl, by decide +kernel, rfl, by decide +kernel, by decide +kernel⟩
abbrev s_leasts : Stmt := top 10
theorem sc_leasts : FnScope ["_law_kinds_here", "_law_found", "_law_turn", "_law_kind", "_law_makers_here", "_law_maker", "_law_fields", "_law_many"] ["_law_kinds_here"] (defScope s_leasts) := ⟨rfl, rfl, rfl, by decide +kernel, rfl, by decide +kernel, by decide +kernel⟩
abbrev s_value : Stmt := top 11
theorem sc_value : FnScope ["_law_deal_here", "_law_kinds_here", "_law_leasts_here", "_law_kind", "_law_room", "_law_some", "_law_maker", "_law_fields", "_law_spare", "_law_parts", "_law_field", "_law_more"] ["_law_deal_here", "_law_kinds_here", "_law_leasts_here", "_law_kind", "_law_room"] (defScope s_value) := ⟨rfl, rfl, rfl, by decide +kernel, rfl, by decide +kernel, by decide +kernel⟩
abbrev s_makers : Stmt := top 12
theorem sc_makers : FnScope ["_law_value_here", "_law_found", "_law_part"] ["_law_value_here"] (defScope s_makers) := ⟨rfl, rfl, rfl, by decide +kernel, rfl, by decide +kernel, by decide +kernel⟩
abbrev s_ahead : Stmt := top 13
theorem sc_ahead : FnScope ["_law_kinds_here", "_law_kind", "_law_one", "_law_other", "_law_makers_here", "_law_fields", "_law_field", "_law_first", "_law_second", "_law_found"] ["_law_kinds_here", "_law_kind", "_law_one", "_law_other"] (defScope s_ahead) := ⟨rfl, rfl, rfl, by decide +kernel, rfl, by decide +kernel, by decide +kernel⟩
abbrev s_changed : Stmt := top 14
theorem sc_changed : FnScope ["_law_deal_here", "_law_kinds_here", "_law_leasts_here", "_law_kind", "_law_value_here", "_law_room", "_law_maker", "_law_parts", "_law_at", "_law_field"] ["_law_deal_here", "_law_kinds_here", "_law_leasts_here", "_law_kind", "_law_value_here", "_law_room"] (defScope s_changed) := ⟨rfl, rfl, rfl, by decide +kernel, rfl, by decide +kernel, by decide +kernel⟩
abbrev s_whole : Stmt := top 15
theorem sc_whole : FnScope ["_law_number"] ["_law_number"] (defScope s_whole) := ⟨rfl, rfl, rfl, by decide +kernel, rfl, by decide +kernel, by decide +kernel⟩
abbrev s_right : Stmt := top 16
theorem sc_right : FnScope ["_law_kinds_here", "_law_value_here", "_law_found", "_law_due", "_law_maker", "_law_seen", "_law_line"] ["_law_kinds_here", "_law_value_here"] (defScope s_right) := ⟨rfl, rfl, rfl, by decide +kernel, rfl, by decide +kernel, by decide +kernel⟩
abbrev s_law : Stmt := top 17
theorem sc_law : FnScope ["_law_script", "_law_deal_here", "_law_words_here", "_law_kinds_here", "_law_leasts_here", "_law_some", "_law_kind", "_law_values", "_law_k", "_law_room", "_law_keys", "_law_j", "_law_due"] ["_law_script"] (defScope s_law) := ⟨rfl, rfl, rfl, by decide +kernel, rfl, by decide +kernel, by decide +kernel⟩
structure Adr where
  f_makers_in : Addr
  d_makers_in : FuncData
  f_size : Addr
  d_size : FuncData
  f_counts : Addr
  d_counts : FuncData
  f_key : Addr
  d_key : FuncData
  f_deal : Addr
  d_deal : FuncData
  f_draw : Addr
  d_draw : FuncData
  f_words : Addr
  d_words : FuncData
  f_kinds : Addr
  d_kinds : FuncData
  f_leasts : Addr
  d_leasts : FuncData
  f_value : Addr
  d_value : FuncData
  f_makers : Addr
  d_makers : FuncData
  f_ahead : Addr
  d_ahead : FuncData
  f_changed : Addr
  d_changed : FuncData
  f_whole : Addr
  d_whole : FuncData
  f_right : Addr
  d_right : FuncData
  f_law : Addr
  d_law : FuncData
structure Txt (K : PySem.W.Frag) (mg : Str → Option Value) (a : Adr) : Prop where
  F_makers_in : Fun K "makers_in" "makers_in" s_makers_in a.f_makers_in a.d_makers_in
  m_makers_in : mg "makers_in" = some (.ref a.f_makers_in)
  b_makers_in : Binds K a.d_makers_in ["value"] []
  F_size : Fun K "size" "size" s_size a.f_size a.d_size
  m_size : mg "size" = some (.ref a.f_size)
  b_size : Binds K a.d_size ["value"] []
  F_counts : Fun K "counts" "counts" s_counts a.f_counts a.d_counts
  m_counts : mg "counts" = some (.ref a.f_counts)
  b_counts : Binds K a.d_counts ["value"] []
  F_key : Fun K "key" "key" s_key a.f_key a.d_key
  m_key : mg "key" = some (.ref a.f_key)
  b_key : Binds K a.d_key ["kinds", "value"] []
  F_deal : Fun K "_law_deal" "_law_deal" s_deal a.f_deal a.d_deal
  m_deal : mg "_law_deal" = some (.ref a.f_deal)
  b_deal : Binds K a.d_deal ["_law_script", "_law_base"] []
  F_draw : Fun K "_law_draw" "_law_draw" s_draw a.f_draw a.d_draw
  m_draw : mg "_law_draw" = some (.ref a.f_draw)
  b_draw : Binds K a.d_draw ["_law_deal_here", "_law_many"] []
  F_words : Fun K "_law_words" "_law_words" s_words a.f_words a.d_words
  m_words : mg "_law_words" = some (.ref a.f_words)
  b_words : Binds K a.d_words ["_law_deal_here", "_law_many"] []
  F_kinds : Fun K "_law_kinds" "_law_kinds" s_kinds a.f_kinds a.d_kinds
  m_kinds : mg "_law_kinds" = some (.ref a.f_kinds)
  b_kinds : Binds K a.d_kinds ["_law_deal_here", "_law_words_here"] []
  F_leasts : Fun K "_law_leasts" "_law_leasts" s_leasts a.f_leasts a.d_leasts
  m_leasts : mg "_law_leasts" = some (.ref a.f_leasts)
  b_leasts : Binds K a.d_leasts ["_law_kinds_here"] []
  F_value : Fun K "_law_value" "_law_value" s_value a.f_value a.d_value
  m_value : mg "_law_value" = some (.ref a.f_value)
  b_value : Binds K a.d_value ["_law_deal_here", "_law_kinds_here", "_law_leasts_here", "_law_kind", "_law_room"] []
  F_makers : Fun K "_law_makers" "_law_makers" s_makers a.f_makers a.d_makers
  m_makers : mg "_law_makers" = some (.ref a.f_makers)
  b_makers : Binds K a.d_makers ["_law_value_here"] []
  F_ahead : Fun K "_law_ahead" "_law_ahead" s_ahead a.f_ahead a.d_ahead
  m_ahead : mg "_law_ahead" = some (.ref a.f_ahead)
  b_ahead : Binds K a.d_ahead ["_law_kinds_here", "_law_kind", "_law_one", "_law_other"] []
  F_changed : Fun K "_law_changed" "_law_changed" s_changed a.f_changed a.d_changed
  m_changed : mg "_law_changed" = some (.ref a.f_changed)
  b_changed : Binds K a.d_changed ["_law_deal_here", "_law_kinds_here", "_law_leasts_here", "_law_kind", "_law_value_here", "_law_room"] []
  F_whole : Fun K "_law_whole" "_law_whole" s_whole a.f_whole a.d_whole
  m_whole : mg "_law_whole" = some (.ref a.f_whole)
  b_whole : Binds K a.d_whole ["_law_number"] []
  F_right : Fun K "_law_right" "_law_right" s_right a.f_right a.d_right
  m_right : mg "_law_right" = some (.ref a.f_right)
  b_right : Binds K a.d_right ["_law_kinds_here", "_law_value_here"] []
  F_law : Fun K "law" "law" s_law a.f_law a.d_law
  m_law : mg "law" = some (.ref a.f_law)
  b_law : Binds K a.d_law ["_law_script"] []
  b_len : mg "len" = none
  b_all : mg "all" = none
  b_list : mg "list" = none
  b_tuple : mg "tuple" = none
  b_int : mg "int" = none
  b_bool : mg "bool" = none
  b_dict : mg "dict" = none
  b_reversed : mg "reversed" = none
  b_max : mg "max" = none
  b_min : mg "min" = none
  b_sum : mg "sum" = none
  b_range : mg "range" = none
  b_isinstance : mg "isinstance" = none
  b_zip : mg "zip" = none
  b_enumerate : mg "enumerate" = none
def letters : Str := "abcdefghijklmnopqrstuvwxyz"
def kept1 : List Str := ["kind", "def", "to", "let", "make", "call"]
def kept2 : List Str := ["name", "case", "end", "pay", "get", "give"]
def kept : List Str := kept1 ++ kept2
def near : List Str := ["lets", "callx", "payer", "ender", "tom", "nameb", "makes", "gets", "giver", "kinds", "defs", "cases"]
theorem lett_at {i : Int} (h0 : 0 ≤ i) (h1 : i < 26) : atI (Str.cps letters).toList i = some (lett i.toNat) := by
  obtain ⟨n, rfl⟩ : ∃ n : Nat, i = n := ⟨i.toNat, by omega⟩
  have h2 : n < 26 := by omega
  have h3 : ∀ n : Fin 26, atI (Str.cps letters).toList (n.val : Int) = some (lett n.val) := by decide +kernel
  have := h3 ⟨n, h2⟩
  simpa using this
theorem near_len : ∀ w ∈ near, 1 ≤ w.length ∧ w.length ≤ 20 := by decide +kernel
def tM (m : Mk1) : T := .t [.s m.1, .t (m.2.map .s)]
def tMs (ms : List Mk1) : T := .t (ms.map tM)
def tK (k : Kd) : T := .t [.s k.1, tMs k.2]
def tKs (ks : List Kd) : T := .t (ks.map tK)
def psMakers : PSp := fun ts Q => ∃ (ks : List Kd) (k : Str), ts = [tKs ks, .s k] ∧ Q (tMs (mkOf ks k))
theorem ims_map {α : Type} {f : α → T} (h : ∀ x, (f x).im = true) : ∀ xs : List α, T.ims (xs.map f) = true
  | [] => by simp [T.ims]
  | x :: r => by simp [T.ims, h x, ims_map h r]
theorem im_tM (m : Mk1) : (tM m).im = true := by simp [tM, T.im, T.ims, ims_map (f := T.s) (fun _ => rfl)]
theorem im_tMs (m : List Mk1) : (tMs m).im = true := by simp [tMs, T.im, ims_map im_tM]
theorem im_tK (m : Kd) : (tK m).im = true := by simp [tK, T.im, T.ims, im_tMs]
theorem im_tKs (m : List Kd) : (tKs m).im = true := by simp [tKs, T.im, ims_map im_tK]
def psWords : PSp := fun ts Q => ∃ m : Int, ts = [.deal, .i m] ∧ 0 < m ∧ m ≤ 52 ∧ ∀ ws : List Str, (ws.length : Int) = m → ws.Nodup → (∀ w ∈ ws, 1 ≤ w.length ∧ w.length ≤ 20) → Q (.l (ws.map .s))
theorem inT_strs {w : Str} {ws : List Str} : inT (.s w) (ws.map T.s) = inV (.str w) (ws.map V.str) := by
  unfold inT inV
  rw [List.any_map, List.any_map]
  rfl
theorem fls_strs (ws : List Str) : fls (ws.map T.s) = true := by
  unfold fls
  rw [List.all_map, List.all_eq_true]
  exact fun _ _ => rfl
theorem ims_strs (ws : List Str) : T.ims (ws.map T.s) = true := ims_map (fun _ => rfl) ws
theorem noq {w z : Str} (h : z ∈ kept2) : w ++ ("q" : Str) ≠ z := by
  intro e
  have h1 : (w ++ ("q" : Str)).cps.toList.getLast? = some 113 := by simp [Str.cps_append, show (Str.ofString "q").cps = #[113] from by decide +kernel]
  rw [e] at h1
  have h2 : ∀ z ∈ kept2, z.cps.toList.getLast? ≠ some 113 := by decide +kernel
  exact h2 z h h1
theorem notin2 {w : Str} : inV (.str (w ++ ("q" : Str))) (kept2.map V.str) = false := by
  cases e : inV (.str (w ++ ("q" : Str))) (kept2.map V.str) with
  | false => rfl
  | true => exact absurd rfl (noq (w := w) (inV_iff.mp e))
theorem inV_append {w : Str} : inV (.str w) (kept.map V.str) = (inV (.str w) (kept1.map V.str) || inV (.str w) (kept2.map V.str)) := by
  unfold kept inV
  rw [List.map_append, List.any_append]
theorem atT_str {ws : List Str} {i : Int} (h0 : 0 ≤ i) (h1 : i < ws.length) : ∃ w, atI (ws.map T.s) i = some (.s w) ∧ w ∈ ws := by
  obtain ⟨v, e, hm⟩ := atI_lt (xs := ws.map T.s) h0 (by simpa using h1)
  obtain ⟨w, hw, rfl⟩ := List.mem_map.mp hm
  exact ⟨w, e, hw⟩
structure GoodK (ks : List Kd) : Prop where
  k1 : 1 ≤ ks.length
  k2 : ks.length ≤ 3
  nd : (ks.map (·.1)).Nodup
  mn : (names ks).Nodup
  ne : ∀ k ∈ ks, k.2 ≠ [] ∧ k.2.length ≤ 6
  fl : ∀ k ∈ ks, ∀ m ∈ k.2, m.2.length ≤ 4 ∧ ∀ f ∈ m.2, f ∈ ks.map (·.1)
def psKinds : PSp := fun ts Q => ∃ ws : List Str, ts = [.deal, .l (ws.map .s)] ∧ ws.length = 30 ∧ ws.Nodup ∧ ∀ ks, GoodK ks → (∀ m ∈ names ks, m ∈ ws) → Q (tKs ks)
theorem ix_of {ws : List Str} {j : Nat} {w : Str} (h : ws[j]? = some w) : atI (ws.map T.s) (j : Int) = some (.s w) := atI_nat (by rw [List.getElem?_map, h]; rfl)
theorem cut4 {ws : List Str} (h : ws.length = 30) : cutT (ws.map T.s) (some 4) none ++ cutT (ws.map T.s) none (some 4) = (ws.drop 4 ++ ws.take 4).map T.s := by
  unfold cutT
  have e1 : HT.sIx (ws.map T.s).length 0 (some 4) = 4 := by rw [List.length_map, h]; rfl
  have e2 : HT.sIx (ws.map T.s).length (ws.map T.s).length (some 4) = 4 := by rw [List.length_map, h]; rfl
  rw [e1, e2]
  show (List.drop 4 (ws.map T.s)).take ((ws.map T.s).length - 4) ++ (List.drop 0 (ws.map T.s)).take (4 - 0) = _
  rw [List.take_of_length_le (by rw [List.length_drop]; omega), List.drop_zero, List.map_append, List.map_drop, List.map_take]
theorem cutT_map {α β : Type} (f : α → β) (xs : List α) (lo hi : Option Int) : cutT (xs.map f) lo hi = (cutT xs lo hi).map f := by
  unfold cutT
  rw [List.length_map, ← List.map_drop, ← List.map_take]
theorem ims_cut (ws : List Str) (lo hi : Option Int) : T.ims (cutT (ws.map T.s) lo hi) = true := by rw [cutT_map]; exact ims_strs _
theorem pick2 (x y : Int) (b : Bool) : atI [T.i x, T.i y] (if b = true then 1 else 0) = some (.i (if b = true then y else x)) := by cases b <;> rfl
theorem pick3 {x y z r : Int} (h0 : 0 ≤ r) (h1 : r < 3) : ∃ v, atI [T.i x, T.i y, T.i z] r = some (.i v) ∧ (v = x ∨ v = y ∨ v = z) := by
  obtain ⟨n, rfl⟩ : ∃ n : Nat, r = n := ⟨r.toNat, by omega⟩
  match n, h1 with
  | 0, _ => exact ⟨x, rfl, .inl rfl⟩
  | 1, _ => exact ⟨y, rfl, .inr (.inl rfl)⟩
  | 2, _ => exact ⟨z, rfl, .inr (.inr rfl)⟩
  | n + 3, h => omega
structure MadeK (ws M : List Str) (many : Nat) (ks : List Kd) (k made : Nat) : Prop where
  nm : ks.map (·.1) = ws.take k
  mn : names ks = M.take made
  b1 : made ≤ 6 * k
  ne : ∀ k ∈ ks, k.2 ≠ [] ∧ k.2.length ≤ 6
  fl : ∀ k ∈ ks, ∀ m ∈ k.2, m.2.length ≤ 4 ∧ ∀ f ∈ m.2, f ∈ ws.take many
theorem MadeK.next {ws M : List Str} {many : Nat} {ks : List Kd} {k made made' : Nat} {ms : List Mk1} {n : Str} (D : MadeK ws M many ks k made) (hn : ws[k]? = some n) (hm : M.take made ++ ms.map (·.1) = M.take made') (h0 : ms ≠ []) (h1 : ms.length ≤ 6) (h2 : made' ≤ made + ms.length) (h3 : ∀ m ∈ ms, m.2.length ≤ 4 ∧ ∀ f ∈ m.2, f ∈ ws.take many) :
    MadeK ws M many (ks ++ [(n, ms)]) (k + 1) made' where
  nm := by rw [List.map_append, D.nm, ← take_one hn]; rfl
  mn := by
    have : names (ks ++ [(n, ms)]) = names ks ++ ms.map (·.1) := by unfold names; rw [List.flatMap_append]; simp
    rw [this, D.mn, hm]
  b1 := by have := D.b1; omega
  ne := fun x hx => by
    rcases List.mem_append.mp hx with h | h
    · exact D.ne x h
    · rw [List.mem_singleton.mp h]; exact ⟨h0, h1⟩
  fl := fun x hx => by
    rcases List.mem_append.mp hx with h | h
    · exact D.fl x h
    · rw [List.mem_singleton.mp h]; exact h3
theorem MadeK.good {ws M : List Str} {many : Nat} {ks : List Kd} {made : Nat} (D : MadeK ws M many ks many made) (hw : ws.Nodup) (hM : M.Nodup) (h1 : 1 ≤ many) (h2 : many ≤ 3) (hl : 3 ≤ ws.length) : GoodK ks := by
  have hlen : ks.length = many := by
    have := congrArg List.length D.nm
    rw [List.length_map, List.length_take] at this
    omega
  refine ⟨by omega, by omega, by rw [D.nm]; exact hw.sublist (List.take_sublist _ _), by rw [D.mn]; exact hM.sublist (List.take_sublist _ _), D.ne, fun k hk m hm => ?_⟩
  have z := D.fl k hk m hm
  rw [D.nm]
  exact z
abbrev Ds := List (Str × Int)
def dEn (p : Str × Int) : Key × T := (.inr p.1, .i p.2)
def dT (ds : Ds) : T := .d (ds.map dEn)
def lk (ds : Ds) (k : Str) : Option Int := (ds.find? fun p => decide (p.1 = k)).map (·.2)
def putD (ds : Ds) (k : Str) (v : Int) : Ds := if (ds.any fun p => decide (p.1 = k)) = true then ds.map (fun p => if p.1 = k then (p.1, v) else p) else ds ++ [(k, v)]
theorem inr_eq {a b : Str} : decide ((Sum.inr a : Key) = .inr b) = decide (a = b) := by
  by_cases h : a = b
  · subst h; simp
  · rw [decide_eq_false h, decide_eq_false fun z => h (Sum.inr.inj z)]
theorem look_dT (ds : Ds) (k : Str) : lookT (ds.map dEn) (.inr k) = (lk ds k).map .i := by
  unfold lookT lk
  induction ds with
  | nil => rfl
  | cons p r ih =>
    rw [List.map_cons, List.find?_cons, List.find?_cons, show (dEn p).1 = .inr p.1 from rfl, inr_eq]
    cases decide (p.1 = k) with
    | true => rfl
    | false => exact ih
theorem any_dT (ds : Ds) (k : Str) : ((ds.map dEn).any fun p => decide (p.1 = .inr k)) = ds.any fun p => decide (p.1 = k) := by
  rw [List.any_map]
  congr 1
  funext p
  exact inr_eq
theorem put_dT (ds : Ds) (k : Str) (v : Int) : putT (ds.map dEn) (.inr k) (.i v) = (putD ds k v).map dEn := by
  unfold putT putD
  rw [any_dT]
  split
  · rw [List.map_map, List.map_map]
    apply List.map_congr_left
    intro p _
    show (if (Sum.inr p.1 : Key) = .inr k then ((Sum.inr p.1 : Key), T.i v) else dEn p) = dEn (if p.1 = k then (p.1, v) else p)
    by_cases h : p.1 = k
    · rw [if_pos (congrArg Sum.inr h), if_pos h]; rfl
    · rw [if_neg fun z => h (Sum.inr.inj z), if_neg h]
  · rw [List.map_append]; rfl
theorem lk_mem {ds : Ds} {k : Str} {v : Int} (h : lk ds k = some v) : (k, v) ∈ ds := by
  unfold lk at h
  obtain ⟨p, hp, rfl⟩ := Option.map_eq_some_iff.mp h
  have h1 := List.mem_of_find?_eq_some hp
  have h2 := List.find?_some hp
  have h2 : p.1 = k := by simpa using h2
  rw [← h2]
  exact h1
theorem lk_none {ds : Ds} {k : Str} (h : lk ds k = none) : ∀ p ∈ ds, p.1 ≠ k := by
  unfold lk at h
  intro p hp e
  have := List.find?_eq_none.mp (Option.map_eq_none_iff.mp h) p hp
  exact this (decide_eq_true e)
theorem any_lk {ds : Ds} {k : Str} : (ds.any fun p => decide (p.1 = k)) = (lk ds k).isSome := by
  cases h : lk ds k with
  | none =>
    rw [Option.isSome_none, List.any_eq_false]
    exact fun p hp => by simpa using lk_none h p hp
  | some v =>
    rw [Option.isSome_some, List.any_eq_true]
    exact ⟨_, lk_mem h, by simp⟩
theorem lk_put {ds : Ds} {k f : Str} {v : Int} : lk (putD ds k v) f = if f = k then some v else lk ds f := by
  unfold putD
  split
  · rename_i h
    by_cases e : f = k
    · subst e
      rw [if_pos rfl]
      unfold lk
      induction ds with
      | nil => cases h
      | cons p r ih =>
        by_cases hp : p.1 = f
        · simp [hp]
        · rw [List.any_cons, decide_eq_false hp, Bool.false_or] at h
          have := ih h
          simp only [List.map_cons, if_neg hp, List.find?_cons, decide_eq_false hp]
          exact this
    · rw [if_neg e]
      unfold lk
      clear h
      induction ds with
      | nil => rfl
      | cons p r ih =>
        by_cases hp : p.1 = k
        · have h1 : ¬ k = f := fun z => e z.symm
          simp only [List.map_cons, hp, if_pos, List.find?_cons, decide_eq_false h1]
          exact ih
        · by_cases hf : p.1 = f
          · simp [hp, hf, e]
          · simp only [List.map_cons, if_neg hp, List.find?_cons, decide_eq_false hf]
            exact ih
  · rename_i h
    have h' : lk ds k = none := by
      rw [any_lk] at h
      cases g : lk ds k with
      | none => rfl
      | some _ => rw [g] at h; exact absurd rfl h
    unfold lk at h' ⊢
    rw [List.find?_append]
    by_cases e : f = k
    · subst e
      rw [if_pos rfl, Option.map_eq_none_iff.mp h']
      simp
    · rw [if_neg e]
      have h1 : ¬ k = f := fun z => e z.symm
      cases g : List.find? (fun p => decide (p.1 = f)) ds with
      | none => simp [h1]
      | some p => rfl
def sumL (ds : Ds) (fs : List Str) : Int := (fs.map fun f => (lk ds f).getD 0).sum
def bnd : Nat → Int
  | 0 => 0
  | n + 1 => 1 + 4 * bnd n
theorem bnd_nn : ∀ n, 0 ≤ bnd n
  | 0 => Int.le_refl _
  | n + 1 => by have := bnd_nn n; show 0 ≤ 1 + 4 * bnd n; omega
theorem bnd_up (n : Nat) : bnd n ≤ bnd (n + 1) := by have := bnd_nn n; show _ ≤ 1 + 4 * bnd n; omega
theorem bnd_le : ∀ {n m : Nat}, n ≤ m → bnd n ≤ bnd m
  | n, 0, h => by rw [Nat.le_zero.mp h]; exact Int.le_refl _
  | n, m + 1, h => by
    by_cases e : n = m + 1
    · rw [e]; exact Int.le_refl _
    · exact Int.le_trans (bnd_le (by omega)) (bnd_up m)
theorem sumL_le {ds ds' : Ds} : ∀ {fs : List Str}, (∀ f ∈ fs, (lk ds' f).getD 0 ≤ (lk ds f).getD 0) → sumL ds' fs ≤ sumL ds fs
  | [], _ => Int.le_refl _
  | f :: fs, h => by
    have h1 := h f (by simp)
    have h2 := sumL_le (ds := ds) (ds' := ds') (fs := fs) fun g hg => h g (by simp [hg])
    unfold sumL at *
    simp only [List.map_cons, List.sum_cons]
    omega
theorem sumL_bd {ds : Ds} {b : Int} : ∀ {fs : List Str}, (∀ f ∈ fs, 0 ≤ (lk ds f).getD 0 ∧ (lk ds f).getD 0 ≤ b) → 0 ≤ sumL ds fs ∧ sumL ds fs ≤ fs.length * b
  | [], _ => by simp [sumL]
  | f :: fs, h => by
    have h1 := h f (by simp)
    have h2 := sumL_bd (ds := ds) (b := b) (fs := fs) fun g hg => h g (by simp [hg])
    unfold sumL at *
    simp only [List.map_cons, List.sum_cons, List.length_cons]
    have : ((fs.length + 1 : Nat) : Int) * b = fs.length * b + b := by rw [Int.natCast_add, Int.add_mul]; simp
    omega
structure LInv (ks : List Kd) (ds : Ds) : Prop where
  nd : (ds.map (·.1)).Nodup
  sub : ∀ p ∈ ds, p.1 ∈ ks.map (·.1)
  bd : ∀ p ∈ ds, 1 ≤ p.2 ∧ p.2 ≤ bnd ds.length
  wt : ∀ k v, lk ds k = some v → ∃ m ∈ mkOf ks k, (∀ f ∈ m.2, (lk ds f).isSome = true) ∧ 1 + sumL ds m.2 ≤ v
theorem LInv.nil (ks : List Kd) : LInv ks [] := ⟨List.nodup_nil, by simp, by simp, fun k v h => by cases h⟩
theorem LInv.bds {ks : List Kd} {ds : Ds} (h : LInv ks ds) (f : Str) : 0 ≤ (lk ds f).getD 0 ∧ (lk ds f).getD 0 ≤ bnd ds.length := by
  cases e : lk ds f with
  | none => exact ⟨Int.le_refl _, bnd_nn _⟩
  | some v => have := h.bd _ (lk_mem e); exact ⟨by show 0 ≤ v; omega, this.2⟩
theorem LInv.sum {ks : List Kd} {ds : Ds} (h : LInv ks ds) (fs : List Str) : 0 ≤ sumL ds fs ∧ sumL ds fs ≤ fs.length * bnd ds.length := sumL_bd fun f _ => h.bds f
theorem putD_len {ds : Ds} {k : Str} {v : Int} : (putD ds k v).length = if (lk ds k).isSome = true then ds.length else ds.length + 1 := by
  unfold putD
  rw [any_lk]
  split <;> simp
theorem putD_keys {ds : Ds} {k : Str} {v : Int} : (putD ds k v).map (·.1) = if (lk ds k).isSome = true then ds.map (·.1) else ds.map (·.1) ++ [k] := by
  unfold putD
  rw [any_lk]
  split
  · rw [List.map_map]
    apply List.map_congr_left
    intro p _
    show (if p.1 = k then (p.1, v) else p).1 = p.1
    split <;> rfl
  · simp
theorem LInv.put {ks : List Kd} {ds : Ds} (h : LInv ks ds) {k : Str} {m : Mk1} (hk : k ∈ ks.map (·.1)) (hm : m ∈ mkOf ks k) (h4 : m.2.length ≤ 4) (hf : ∀ f ∈ m.2, (lk ds f).isSome = true) {v : Int} (hv : v = min ((lk ds k).getD (1 + sumL ds m.2)) (1 + sumL ds m.2)) : LInv ks (putD ds k v) := by
  have hs := h.sum m.2
  have v1 : 1 ≤ v := by
    rw [hv]
    cases e : lk ds k with
    | none => show 1 ≤ min (1 + sumL ds m.2) _; omega
    | some u => have := h.bd _ (lk_mem e); show 1 ≤ min u _; have := this.1; simp only at this; omega
  have v2 : v ≤ 1 + sumL ds m.2 := by rw [hv]; exact Int.min_le_right _ _
  have v3 : ∀ u, lk ds k = some u → v ≤ u := fun u e => by rw [hv, e]; exact Int.min_le_left _ _
  have vb : v ≤ bnd (putD ds k v).length := by
    rw [putD_len]
    cases e : lk ds k with
    | none =>
      rw [if_neg (by simp)]
      show v ≤ 1 + 4 * bnd ds.length
      have : (m.2.length : Int) * bnd ds.length ≤ 4 * bnd ds.length := Int.mul_le_mul_of_nonneg_right (by omega) (bnd_nn _)
      omega
    | some u =>
      rw [if_pos (by rfl)]
      have := h.bd _ (lk_mem e)
      have := v3 u e
      have := this
      have q := (h.bd _ (lk_mem e)).2
      simp only at q
      omega
  have lb : bnd ds.length ≤ bnd (putD ds k v).length := bnd_le (by rw [putD_len]; split <;> omega)
  have low : ∀ fs : List Str, (∀ f ∈ fs, (lk ds f).isSome = true) → sumL (putD ds k v) fs ≤ sumL ds fs := fun fs hfs => sumL_le fun f hf' => by
    rw [lk_put]
    split
    · rename_i e
      subst e
      obtain ⟨u, hu⟩ := Option.isSome_iff_exists.mp (hfs f hf')
      rw [hu]
      exact v3 u hu
    · exact Int.le_refl _
  have some' : ∀ f, (lk ds f).isSome = true → (lk (putD ds k v) f).isSome = true := fun f hf' => by
    rw [lk_put]
    split
    · rfl
    · exact hf'
  refine ⟨?_, ?_, ?_, ?_⟩
  · rw [putD_keys]
    cases e : lk ds k with
    | none =>
      rw [if_neg (by simp)]
      refine List.nodup_append.mpr ⟨h.nd, by simp, fun a ha b hb => ?_⟩
      rw [List.mem_singleton.mp hb]
      obtain ⟨p, hp, rfl⟩ := List.mem_map.mp ha
      exact lk_none e p hp
    | some u => rw [if_pos (by rfl)]; exact h.nd
  · intro p hp
    have : p.1 ∈ (putD ds k v).map (·.1) := List.mem_map.mpr ⟨p, hp, rfl⟩
    rw [putD_keys] at this
    split at this
    · obtain ⟨q, hq, e⟩ := List.mem_map.mp this
      rw [← e]; exact h.sub q hq
    · rcases List.mem_append.mp this with z | z
      · obtain ⟨q, hq, e⟩ := List.mem_map.mp z
        rw [← e]; exact h.sub q hq
      · rw [List.mem_singleton.mp z]; exact hk
  · intro p hp
    have z : p.2 = v ∨ p ∈ ds := by
      unfold putD at hp
      split at hp
      · obtain ⟨q, hq, rfl⟩ := List.mem_map.mp hp
        split
        · exact .inl rfl
        · exact .inr hq
      · rcases List.mem_append.mp hp with z | z
        · exact .inr z
        · rw [List.mem_singleton.mp z]; exact .inl rfl
    rcases z with z | z
    · rw [z]; exact ⟨v1, vb⟩
    · have := h.bd p z
      exact ⟨this.1, Int.le_trans this.2 lb⟩
  · intro k' u hu
    rw [lk_put] at hu
    by_cases e : k' = k
    · rw [if_pos e] at hu
      cases hu
      subst e
      cases g : lk ds k' with
      | none =>
        have hvv : v = 1 + sumL ds m.2 := by rw [hv, g]; show min (1 + sumL ds m.2) (1 + sumL ds m.2) = _; omega
        have := low m.2 hf
        exact ⟨m, hm, fun f hf' => some' f (hf f hf'), by omega⟩
      | some w =>
        by_cases c : w ≤ 1 + sumL ds m.2
        · obtain ⟨m', hm', hf', hs'⟩ := h.wt k' w g
          have := low m'.2 hf'
          exact ⟨m', hm', fun f hf'' => some' f (hf' f hf''), by rw [hv, g] at *; show _ ≤ min w _; omega⟩
        · have := low m.2 hf
          exact ⟨m, hm, fun f hf' => some' f (hf f hf'), by rw [hv, g] at *; show _ ≤ min w _; omega⟩
    · rw [if_neg e] at hu
      obtain ⟨m', hm', hf', hs'⟩ := h.wt k' u hu
      have := low m'.2 hf'
      exact ⟨m', hm', fun f hf'' => some' f (hf' f hf''), by omega⟩
theorem LInv.len {ks : List Kd} {ds : Ds} (h : LInv ks ds) (g : GoodK ks) : ds.length ≤ 3 := by
  have : (ds.map (·.1)).length ≤ (ks.map (·.1)).length := nodup_len h.nd fun x hx => by obtain ⟨p, hp, rfl⟩ := List.mem_map.mp hx; exact h.sub p hp
  have := g.k2
  simp only [List.length_map] at *
  omega
def Zd (ds : Ds) (k : Str) (m : Mk1) : Prop := m.2 = [] → (lk ds k).isSome = true
theorem Zd.put {ds : Ds} {k : Str} {m : Mk1} (h : Zd ds k m) (k' : Str) (v : Int) : Zd (putD ds k' v) k m := fun e => by
  rw [lk_put]
  split
  · rfl
  · exact h e
def psLeasts : PSp := fun ts Q => ∃ ks : List Kd, ts = [tKs ks] ∧ GoodK ks ∧ ∀ ds, LInv ks ds → (∀ kd ∈ ks, ∀ m ∈ kd.2, Zd ds kd.1 m) → Q (dT ds)
theorem mkOf_mem {ks : List Kd} {i : Nat} {kd : Kd} (g : (ks.map (·.1)).Nodup) (h : ks[i]? = some kd) : mkOf ks kd.1 = kd.2 := by
  refine mkOf_at h rfl fun j y hj hy e => ?_
  have h1 : (ks.map (·.1))[i]? = some kd.1 := by rw [List.getElem?_map, h]; rfl
  have h2 : (ks.map (·.1))[j]? = some kd.1 := by rw [List.getElem?_map, hy, ← e]; rfl
  obtain ⟨l1, e1⟩ := List.getElem?_eq_some_iff.mp h1
  obtain ⟨l2, e2⟩ := List.getElem?_eq_some_iff.mp h2
  exact List.pairwise_iff_getElem.mp g j i l2 l1 hj (by rw [e1, e2])
theorem min_if (a b : Int) : min a b = if b < a then b else a := by
  rw [Int.min_def]
  split <;> split <;> omega
theorem rd_i2 {f : Int → Int → Int} {y : T} {u n : Int} {Q : T → Prop} (h : y = .i u) (hq : Q (.i (f u n))) : qI2 f [y, .i n] Q := by subst h; exact hq
theorem rd_add {a b : Int} {Q : T → Prop} (h : Q (.i (a + b))) : qAdd (.i a) (.i b) Q := h
theorem imk_dT (ds : Ds) : T.imk (ds.map dEn) = true := by
  induction ds with
  | nil => rfl
  | cons p r ih => show (_ && _) = true; rw [ih]; rfl
theorem rd_putmin {f : Int → Int → Int} {D : EndsQ} {q : Sq} {ds : Ds} {k : Str} {n v : Int} (h1 : q[1]? = some (.o (dT ds))) (h3 : q[3]? = some (.r (.s k))) (h7 : q[7]? = some (.o (.i n))) (hl : ds.length < sizeLine) (hv : v = f ((lk ds k).getD n) n) (hq : D.nx (q.set 1 (.o (dT (putD ds k v))))) :
    qPut 1 (qVar 3) (qCB (qI2 f) (qCons (qGet2 (qVar 1) (qVar 3) (qVar 7)) (qCons (qVar 7) qNil))) D q := by
  unfold dT at h1
  simp only [qPut, qCB, qCons, qNil, qGet2, qVar, h1, h3, h7]
  refine rd_i2 (u := (lk ds k).getD n) (by rw [look_dT]; cases lk ds k <;> rfl) ?_
  refine ⟨by rw [List.length_map]; exact hl, imk_dT ds, rfl, ?_⟩
  rw [put_dT, ← hv]
  exact hq
theorem bls_map {α : Type} (f : α → Bool) : ∀ xs : List α, bls (xs.map fun x => T.b (f x)) = some (xs.map f)
  | [] => rfl
  | x :: r => by simp [bls, bls_map f r]
theorem ins_map {α : Type} (f : α → Int) : ∀ xs : List α, ins (xs.map fun x => T.i (f x)) = some (xs.map f)
  | [] => rfl
  | x :: r => by simp [ins, ins_map f r]
theorem never {P : Program} {w : World} {K : PySem.W.Frag} {mg : Str → Option Value} {base : Heap} {CX : CXT} {k : Nat} {f : Addr} {fd : FuncData} {ps : List Str} {sp : PSp} (h : ∀ ts Q, ¬ sp ts Q) : FnOk P w K mg base CX k f fd ps (spQ K sp) :=
  ⟨fun _ _ _ _ ⟨_, ts, _, Qp, _, _, z, _⟩ => (h ts Qp z).elim, fun _ _ _ _ _ _ _ _ _ _ _ _ _ ⟨_, ts, _, Qp, _, _, z, _⟩ => (h ts Qp z).elim⟩
def kEn (k : Kd) : Key × T := (.inr k.1, tMs k.2)
theorem pairs_tK : ∀ ks : List Kd, pairsT (ks.map tK) = some (ks.map kEn)
  | [] => rfl
  | k :: r => by
    show (match (some (.inr k.1) : Option Key), pairsT (r.map tK) with | some k', some r => some ((k', tMs k.2) :: r) | _, _ => none) = _
    rw [pairs_tK r]
    rfl
theorem merge_nd : ∀ {ps acc : List (Key × T)}, (ps.map (·.1)).Nodup → (∀ p ∈ ps, ∀ q ∈ acc, q.1 ≠ p.1) → mergeT acc ps = acc ++ ps
  | [], acc, _, _ => by simp [mergeT]
  | p :: ps, acc, h, hd => by
    have h' := List.nodup_cons.mp h
    have e : putT acc p.1 p.2 = acc ++ [p] := by
      unfold putT
      rw [if_neg]
      intro z
      obtain ⟨q, hq, hz⟩ := List.any_eq_true.mp z
      exact hd p (by simp) q hq (of_decide_eq_true hz)
    show mergeT (putT acc p.1 p.2) ps = _
    rw [e, merge_nd h'.2 fun p' hp' q hq => ?_]
    · simp
    · rcases List.mem_append.mp hq with z | z
      · exact hd p' (by simp [hp']) q z
      · rw [List.mem_singleton.mp z]
        exact fun e => h'.1 (List.mem_map.mpr ⟨p', hp', e.symm⟩)
theorem look_tK {ks : List Kd} {k : Str} (h : k ∈ ks.map (·.1)) : lookT (ks.map kEn) (.inr k) = some (tMs (mkOf ks k)) := by
  unfold lookT mkOf
  induction ks with
  | nil => cases h
  | cons x r ih =>
    by_cases e : x.1 = k
    · rw [List.map_cons, List.find?_cons, List.find?_cons, show (kEn x).1 = .inr x.1 from rfl, inr_eq, decide_eq_true e]
      rfl
    · have h' : k ∈ r.map (·.1) := by
        rcases List.mem_cons.mp h with z | z
        · exact absurd z.symm e
        · exact z
      rw [List.map_cons, List.find?_cons, List.find?_cons, show (kEn x).1 = .inr x.1 from rfl, inr_eq, decide_eq_false e]
      exact ih h'
theorem dict_tK {ks : List Kd} (h : (ks.map (·.1)).Nodup) : mergeT [] (ks.map kEn) = ks.map kEn := by
  rw [merge_nd]
  · rfl
  · rw [List.map_map]
    have : (ks.map ((fun x : Key × T => x.1) ∘ kEn)) = (ks.map (·.1)).map Sum.inr := by rw [List.map_map]; rfl
    rw [this]
    exact List.pairwise_map.mpr (h.imp fun hne z => hne (Sum.inr.inj z))
  · intro p _ q hq
    cases hq
theorem look_dict {ks : List Kd} {k : Str} (g : (ks.map (·.1)).Nodup) (h : k ∈ ks.map (·.1)) : lookT (mergeT [] (ks.map kEn)) (.inr k) = some (tMs (mkOf ks k)) := by rw [dict_tK g, look_tK h]
def due (ks : List Kd) (k : Str) (x : T) (n : Nat) : Option (List Str) := ((mkOf ks k).find? fun m => decide (V.str m.1 = x.v) && decide (m.2.length = n)).map (·.2)
def isN (ks : List Kd) : Nat → Str → T → Bool
  | 0, _, _ => false
  | n + 1, k, .t [x, .t ps] => match due ks k x ps.length with
    | some fs => (fs.zip ps).all fun p => isN ks n p.1 p.2
    | none => false
  | _ + 1, _, _ => false
def wt : Nat → T → Nat
  | 0, _ => 1
  | n + 1, .t [_, .t ps] => 1 + (ps.map (wt n)).sum
  | _ + 1, _ => 1
def Ok : Nat → T → Prop
  | 0, t => t.im = true ∧ t.tyN.isSome = true ∧ (∀ x y, t = .t [x, y] → y.tyN.isSome = true) ∧ ∀ x ps, t ≠ .t [x, .t ps]
  | n + 1, t => t.im = true ∧ t.tyN.isSome = true ∧ (∀ x y, t = .t [x, y] → y.tyN.isSome = true) ∧ ∀ x ps, t = .t [x, .t ps] → x.fl = true ∧ ps.length ≤ 1000 ∧ ∀ p ∈ ps, Ok n p
def FdV (ks : List Kd) (ds : Ds) : Nat → Str → T → Prop
  | n + 1, k, .t [.s x, .t ps] => ∃ m ∈ mkOf ks k, m.1 = x ∧ m.2.length = ps.length ∧ ∀ (j : Nat) f p, m.2[j]? = some f → ps[j]? = some p → (lk ds f).isSome = true ∧ FdV ks ds n f p
  | _, _, _ => False
def psValue (n : Nat) : PSp := fun ts Q => ∃ (ks : List Kd) (ds : Ds) (k : Str) (room v : Int), ts = [.deal, tKs ks, dT ds, .s k, .i room] ∧ GoodK ks ∧ LInv ks ds ∧ lk ds k = some v ∧ v ≤ room ∧ room ≤ n ∧ room ≤ 1000 ∧ ∀ t, isN ks n k t = true → Ok n t → (wt n t : Int) ≤ room → FdV ks ds n k t → Q t
def pickB (ds : Ds) (room : Int) (m : Mk1) : Bool := (m.2.map fun f => (lk ds f).isSome).all id && decide (1 + sumL ds m.2 ≤ room)
theorem take_one' {α : Type} {xs : List α} {i : Nat} {x : α} (h : xs[i]? = some x) : xs.take (i + 1) = xs.take i ++ [x] := by rw [List.take_add_one, h]; rfl
theorem mkOf_kd {ks : List Kd} {k : Str} {m : Mk1} (h : m ∈ mkOf ks k) : ∃ kd ∈ ks, kd.1 = k ∧ mkOf ks k = kd.2 := by
  unfold mkOf at h ⊢
  split at h
  · rename_i x hx
    have h2 := List.find?_some hx
    exact ⟨x, List.mem_of_find?_eq_some hx, by simpa using h2, rfl⟩
  · cases h
theorem GoodK.ma {ks : List Kd} (g : GoodK ks) {k : Str} {m : Mk1} (h : m ∈ mkOf ks k) : m.2.length ≤ 4 ∧ (∀ f ∈ m.2, f ∈ ks.map (·.1)) ∧ (mkOf ks k).length ≤ 6 := by
  obtain ⟨kd, hk, _, e⟩ := mkOf_kd h
  rw [e] at h ⊢
  exact ⟨(g.fl kd hk m h).1, (g.fl kd hk m h).2, (g.ne kd hk).2⟩
theorem names_in : ∀ {ks : List Kd} {kd : Kd}, kd ∈ ks → (names ks).Nodup → (kd.2.map (·.1)).Nodup
  | a :: r, kd, h, hn => by
    have hn : (a.2.map (·.1) ++ names r).Nodup := hn
    rcases List.mem_cons.mp h with rfl | h
    · exact (List.nodup_append.mp hn).1
    · exact names_in h (List.nodup_append.mp hn).2.1
theorem map_inj {ms : List Mk1} (h : (ms.map (·.1)).Nodup) {m m' : Mk1} (h1 : m ∈ ms) (h2 : m' ∈ ms) (e : m.1 = m'.1) : m = m' := by
  induction ms with
  | nil => cases h1
  | cons a r ih =>
    have h : (a.1 :: r.map (·.1)).Nodup := h
    have h' := List.nodup_cons.mp h
    rcases List.mem_cons.mp h1 with e1 | h1
    · rcases List.mem_cons.mp h2 with e2 | h2
      · rw [e1, e2]
      · exact absurd (List.mem_map.mpr ⟨m', h2, by rw [← e, e1]⟩) h'.1
    · rcases List.mem_cons.mp h2 with e2 | h2
      · exact absurd (List.mem_map.mpr ⟨m, h1, by rw [e, e2]⟩) h'.1
      · exact ih h'.2 h1 h2
theorem due_own {ks : List Kd} (g : GoodK ks) {k : Str} {m : Mk1} (h : m ∈ mkOf ks k) : due ks k (.s m.1) m.2.length = some m.2 := by
  unfold due
  obtain ⟨kd, hk, _, e⟩ := mkOf_kd h
  rw [e] at h ⊢
  have hn := names_in hk g.mn
  cases c : List.find? (fun m' => decide (V.str m'.1 = (T.s m.1).v) && decide (m'.2.length = m.2.length)) kd.2 with
  | none =>
    have := List.find?_eq_none.mp c m h
    exact absurd (by simp [T.v]) this
  | some m' =>
    have h2 := List.find?_some c
    rw [Bool.and_eq_true] at h2
    have : m'.1 = m.1 := V.str.inj (of_decide_eq_true h2.1)
    rw [map_inj hn (List.mem_of_find?_eq_some c) h this]
    rfl
theorem sumL_take {ds : Ds} {fs : List Str} {i : Nat} {f : Str} (h : fs[i]? = some f) : sumL ds (fs.take (i + 1)) = sumL ds (fs.take i) + (lk ds f).getD 0 := by
  rw [take_one' h]
  simp [sumL]
theorem sumL_takeLe {ks : List Kd} {ds : Ds} (hI : LInv ks ds) : ∀ (fs : List Str) (i : Nat), sumL ds (fs.take i) ≤ sumL ds fs
  | [], i => by simp
  | f :: fs, 0 => by have := (hI.sum (f :: fs)).1; simpa [sumL] using this
  | f :: fs, i + 1 => by
    have := sumL_takeLe hI fs i
    unfold sumL at *
    simp only [List.take_succ_cons, List.map_cons, List.sum_cons]
    omega
theorem sum_snoc {n : Nat} {ps : List T} {t : T} : ((ps ++ [t]).map (wt n)).sum = (ps.map (wt n)).sum + wt n t := by simp
theorem ims_all {ps : List T} (h : ∀ p ∈ ps, p.im = true) : T.ims ps = true := by
  induction ps with
  | nil => rfl
  | cons p r ih => show (_ && _) = true; rw [h p (by simp), ih fun q hq => h q (by simp [hq])]; rfl
theorem Ok.im {n : Nat} {t : T} (h : Ok n t) : t.im = true := by cases n <;> exact h.1
theorem Ok.ty {n : Nat} {t : T} (h : Ok n t) : t.tyN.isSome = true := by cases n <;> exact h.2.1
theorem Ok.ty2 {n : Nat} {x y : T} (h : Ok n (.t [x, y])) : y.tyN.isSome = true := by cases n <;> exact h.2.2.1 x y rfl
theorem Ok.pr {n : Nat} {x : T} {ps : List T} (h : Ok n (.t [x, .t ps])) : ∃ n', n = n' + 1 ∧ x.fl = true ∧ ps.length ≤ 1000 ∧ ∀ p ∈ ps, Ok n' p := by
  cases n with
  | zero => exact absurd rfl (h.2.2.2 x ps)
  | succ n => exact ⟨n, rfl, h.2.2.2 x ps rfl⟩
theorem find_at {α : Type} {p : α → Bool} : ∀ {xs : List α} {i : Nat} {x : α}, xs[i]? = some x → p x = true → (∀ (j : Nat) y, j < i → xs[j]? = some y → p y = false) → xs.find? p = some x
  | [], _, _, h, _, _ => by simp at h
  | a :: r, 0, x, h, hp, _ => by
    have : a = x := by simpa using h
    subst this
    rw [List.find?_cons, hp]
  | a :: r, i + 1, x, h, hp, hn => by
    have := hn 0 a (by omega) rfl
    rw [List.find?_cons, this]
    exact find_at (by simpa using h) hp fun j y hj hy => hn (j + 1) y (by omega) (by simpa using hy)
theorem find_no {α : Type} {p : α → Bool} {xs : List α} (hn : ∀ (j : Nat) y, xs[j]? = some y → p y = false) : xs.find? p = none := by
  rw [List.find?_eq_none]
  intro x hx
  obtain ⟨j, hj⟩ := List.getElem?_of_mem hx
  rw [hn j x hj]
  exact Bool.false_ne_true
theorem scal_fl {x : T} {m : Str} (h : x.fl = true) : ((T.s m).fl && x.fl && scal (T.s m).v x.v) = true := by cases x <;> first | rfl | cases h
theorem scal_fl' {x : T} {m : Str} (h : x.fl = true) : (x.fl && (T.s m).fl && scal x.v (T.s m).v) = true := by cases x <;> first | rfl | cases h
def dueT (ks : List Kd) (k : Str) : T → Option (List Str)
  | .t [x, .t ps] => due ks k x ps.length
  | _ => none
theorem dueT_len {ks : List Kd} {k : Str} {xs : List T} (h : ¬ xs.length = 2) : dueT ks k (.t xs) = none := by
  unfold dueT
  split
  · rename_i e
    cases e
    exact absurd rfl h
  · rfl
def oT : Option (List Str) → T
  | some fs => .t (fs.map .s)
  | none => .n
def psDue : PSp := fun ts Q => ∃ (ks : List Kd) (k : Str) (n : Nat) (t : T), ts = [tKs ks, .s k, t] ∧ Ok n t ∧ Q (oT (dueT ks k t))
def psIs (n : Nat) : PSp := fun ts Q => ∃ (ks : List Kd) (k : Str) (t : T), ts = [tKs ks, .s k, t] ∧ GoodK ks ∧ k ∈ ks.map (·.1) ∧ Ok n t ∧ Q (.b (isN ks n k t))
theorem isN_due {ks : List Kd} {n : Nat} {k : Str} {x : T} {ps : List T} : isN ks (n + 1) k (.t [x, .t ps]) = match due ks k x ps.length with | some fs => (fs.zip ps).all fun p => isN ks n p.1 p.2 | none => false := rfl
theorem isN_len {ks : List Kd} {n : Nat} {k : Str} {xs : List T} (h : ¬ xs.length = 2) : isN ks n k (.t xs) = false := by
  unfold isN
  split
  · rfl
  · rename_i e
    cases e
    exact absurd rfl h
  · rfl
theorem inT_false : ∀ bs : List Bool, inT (.b false) (bs.map T.b) = !(bs.all id)
  | [] => rfl
  | b :: r => by
    have := inT_false r
    unfold inT at *
    rw [List.map_cons, List.any_cons, this, List.all_cons]
    cases b <;> rfl
theorem fls_bs (bs : List Bool) : fls (bs.map T.b) = true := by
  unfold fls
  rw [List.all_map, List.all_eq_true]
  exact fun _ _ => rfl
theorem isN_neg {ks : List Kd} {n : Nat} {k : Str} {t : T} (h : ∀ x ps, t ≠ .t [x, .t ps]) : isN ks n k t = false := by
  unfold isN
  split
  · rfl
  · exact absurd rfl (h _ _)
  · rfl
def psIsV : PSp := fun ts Q => ∃ (ks : List Kd) (k : Str) (n : Nat) (t : T), ts = [tKs ks, .s k, t] ∧ GoodK ks ∧ k ∈ ks.map (·.1) ∧ Ok n t ∧ wt n t ≤ 500 ∧ Q (.b (isN ks n k t))
abbrev Wt := Str × Nat × T
def wT (w : Wt) : T := .t [.s w.1, w.2.2]
def wW (ws : List Wt) : Nat := (ws.map fun w => wt w.2.1 w.2.2).sum
def wB (ks : List Kd) (ws : List Wt) : Bool := ws.all fun w => isN ks w.2.1 w.1 w.2.2
theorem wt_pos (n : Nat) (t : T) : 1 ≤ wt n t := by
  unfold wt
  split <;> omega
theorem wW_len : ∀ ws : List Wt, ws.length ≤ wW ws
  | [] => Nat.le_refl _
  | w :: r => by
    have := wW_len r
    have := wt_pos w.2.1 w.2.2
    unfold wW at *
    simp only [List.map_cons, List.sum_cons, List.length_cons]
    omega
theorem wW_app (a b : List Wt) : wW (a ++ b) = wW a + wW b := by simp [wW]
theorem wW_zip (n : Nat) : ∀ (fs : List Str) (ps : List T), wW ((fs.zip ps).map fun p => (p.1, n, p.2)) ≤ (ps.map (wt n)).sum
  | [], ps => by simp [wW]
  | f :: fs, [] => by simp [wW]
  | f :: fs, p :: ps => by
    have := wW_zip n fs ps
    unfold wW at *
    simp only [List.zip_cons_cons, List.map_cons, List.sum_cons]
    omega
theorem zip_wT (n : Nat) (fs : List Str) (ps : List T) : zipT (fs.map .s) ps = ((fs.zip ps).map fun p => (p.1, n, p.2)).map wT := by
  unfold zipT
  rw [List.map_map, List.zip_map_left, List.map_map]
  rfl
theorem wB_app (ks : List Kd) (a b : List Wt) : wB ks (a ++ b) = (wB ks a && wB ks b) := by simp [wB]
theorem wB_zip (ks : List Kd) (n : Nat) (fs : List Str) (ps : List T) : wB ks ((fs.zip ps).map fun p => (p.1, n, p.2)) = (fs.zip ps).all fun p => isN ks n p.1 p.2 := by
  unfold wB
  rw [List.all_map]
  rfl
theorem isN_dueT {ks : List Kd} {n : Nat} {k : Str} {t : T} (h : dueT ks k t = none) : isN ks n k t = false := by
  unfold dueT at h
  split at h
  · cases n with
    | zero => rfl
    | succ n => rw [isN_due, h]
  · rename_i hn
    exact isN_neg fun x ps e => hn x ps e
theorem dueT_some {ks : List Kd} {k : Str} {t : T} {fs : List Str} (h : dueT ks k t = some fs) : ∃ x ps, t = .t [x, .t ps] ∧ due ks k x ps.length = some fs := by
  unfold dueT at h
  split at h
  · exact ⟨_, _, rfl, h⟩
  · cases h
theorem due_mem {ks : List Kd} {k : Str} {x : T} {l : Nat} {fs : List Str} (h : due ks k x l = some fs) : ∃ m ∈ mkOf ks k, m.2 = fs ∧ fs.length = l ∧ V.str m.1 = x.v := by
  unfold due at h
  obtain ⟨m, hm, rfl⟩ := Option.map_eq_some_iff.mp h
  have h2 := List.find?_some hm
  rw [Bool.and_eq_true] at h2
  exact ⟨m, List.mem_of_find?_eq_some hm, rfl, of_decide_eq_true h2.2, of_decide_eq_true h2.1⟩
theorem Ok.mkp {n : Nat} {x : T} {ps : List T} (hx : x.fl = true) (hl : ps.length ≤ 1000) (h : ∀ p ∈ ps, Ok n p) : Ok (n + 1) (.t [x, .t ps]) := by
  refine ⟨?_, rfl, fun _ _ e => by cases e; rfl, fun _ _ e => by cases e; exact ⟨hx, hl, h⟩⟩
  have h1 : x.im = true := by cases x <;> first | rfl | cases hx
  simp [T.im, T.ims, h1, ims_all fun p hp => (h p hp).im]
theorem Ok.oth {n : Nat} {t : T} (h1 : t.im = true) (h2 : t.tyN.isSome = true) (h3 : ∀ x y, t = .t [x, y] → y.tyN.isSome = true) (h4 : ∀ x ps, t ≠ .t [x, .t ps]) : Ok n t := by
  cases n with
  | zero => exact ⟨h1, h2, h3, h4⟩
  | succ n => exact ⟨h1, h2, h3, fun x ps e => absurd e (h4 x ps)⟩
theorem Ok.up : ∀ {n : Nat} {t : T}, Ok n t → Ok (n + 1) t
  | 0, _, h => ⟨h.1, h.2.1, h.2.2.1, fun x ps e => absurd e (h.2.2.2 x ps)⟩
  | n + 1, _, h => ⟨h.1, h.2.1, h.2.2.1, fun x ps e => let z := h.2.2.2 x ps e; ⟨z.1, z.2.1, fun p hp => (z.2.2 p hp).up⟩⟩
theorem wt_oth {n : Nat} {t : T} (h4 : ∀ x ps, t ≠ .t [x, .t ps]) : wt n t = 1 := by
  unfold wt
  split
  · rfl
  · exact absurd rfl (h4 _ _)
  · rfl
theorem Ok.wt : ∀ {n : Nat} {t : T}, Ok n t → K13.wt (n + 1) t = K13.wt n t
  | 0, _, h => by rw [wt_oth h.2.2.2, wt_oth h.2.2.2]
  | n + 1, t, h => by
    by_cases e : ∃ x ps, t = .t [x, .t ps]
    · obtain ⟨x, ps, rfl⟩ := e
      have hp := (h.2.2.2 x ps rfl).2.2
      show 1 + (ps.map (K13.wt (n + 1))).sum = 1 + (ps.map (K13.wt n)).sum
      rw [List.map_congr_left fun p hp' => (hp p hp').wt]
    · have e : ∀ x ps, t ≠ .t [x, .t ps] := fun x ps z => e ⟨x, ps, z⟩
      rw [wt_oth e, wt_oth e]
theorem wt_pr {n : Nat} {x : T} {ps : List T} : wt (n + 1) (.t [x, .t ps]) = 1 + (ps.map (wt n)).sum := rfl
theorem isN_val {ks : List Kd} {n : Nat} {k : Str} {t : T} (h : isN ks n k t = true) : ∃ (n' : Nat) (m : Mk1) (ps : List T), n = n' + 1 ∧ t = .t [.s m.1, .t ps] ∧ m ∈ mkOf ks k ∧ m.2.length = ps.length ∧ ∀ (j : Nat) f p, m.2[j]? = some f → ps[j]? = some p → isN ks n' f p = true := by
  cases hd : dueT ks k t with
  | none => rw [isN_dueT hd] at h; cases h
  | some fs =>
    obtain ⟨x, ps, rfl, hdu⟩ := dueT_some hd
    obtain ⟨m, hm, rfl, hml, hx⟩ := due_mem hdu
    cases n with
    | zero => cases h
    | succ n =>
      rw [isN_due, hdu] at h
      refine ⟨n, m, ps, rfl, ?_, hm, hml, fun j f p hf hp => ?_⟩
      · cases x <;> first | (cases hx; rfl) | cases hx
      · exact List.all_eq_true.mp h (f, p) (List.mem_of_getElem? (i := j) (List.getElem?_zip_eq_some.mpr ⟨hf, hp⟩))
def psOther (n : Nat) : PSp := fun ts Q => ∃ (ks : List Kd) (k : Str) (t : T), ts = [.deal, tKs ks, t] ∧ GoodK ks ∧ (∀ m ∈ names ks, m.length ≤ 1000) ∧ isN ks n k t = true ∧ Ok n t ∧ ∀ t', Ok (n + 1) t' → wt (n + 1) t' ≤ 2 * wt n t + 2 → Q t'
theorem names_len : ∀ {ks : List Kd}, (∀ k ∈ ks, k.2.length ≤ 6) → (names ks).length ≤ 6 * ks.length
  | [], _ => by simp [names]
  | k :: r, h => by
    have h1 := h k (by simp)
    have h2 := names_len (ks := r) fun x hx => h x (by simp [hx])
    show (k.2.map (·.1) ++ names r).length ≤ _
    rw [List.length_append, List.length_map, List.length_cons]
    omega
theorem names_take {ks : List Kd} {i : Nat} {kd : Kd} (h : ks[i]? = some kd) : names (ks.take (i + 1)) = names (ks.take i) ++ kd.2.map (·.1) := by
  rw [take_one' h]
  unfold names
  rw [List.flatMap_append]
  simp
theorem mem_names {ks : List Kd} {k : Str} {m : Mk1} (h : m ∈ mkOf ks k) : m.1 ∈ names ks := by
  obtain ⟨kd, hk, _, e⟩ := mkOf_kd h
  rw [e] at h
  exact List.mem_flatMap.mpr ⟨kd, hk, List.mem_map.mpr ⟨m, h, rfl⟩⟩
theorem cut_mem {α : Type} {xs : List α} {lo hi : Option Int} {x : α} (h : x ∈ cutT xs lo hi) : x ∈ xs := List.mem_of_mem_drop (List.mem_of_mem_take h)
theorem im_pr {x : T} {ps : List T} (hx : x.im = true) (h : T.ims ps = true) : (T.t [x, .t ps]).im = true := by simp [T.im, T.ims, hx, h]
def oth1 (m o : Str) (ps : List T) : List T := [.q, .t [.s m, .q], .t [.s o, .t ps], .t [.s (m ++ ("q" : Str)), .t ps], .t [.s m, .t (ps ++ [.t [.s m, .t ps]])]]
def oth2 (m : Str) (ps : List T) : List T := [.t [.s m, .t (cutT ps none (some (-1)))], .t [.s m, .t ps, .t []], .t [.s m], .t [], .s m, .i 0, .t [.t ps, .s m], .t [.s m, .s m]]
def oth3 (m o : Str) (ps : List T) : List T := [.t [.s m, .t (ps ++ [.t [.s o, .t []]])], .t [.s o, .t []], .t [.s (""  : Str), .t []], .q, .t [.i 0, .t ps], .t [.s m, .t [.i 0]], .i 1]
def oth4 (m : Str) (ps : List T) : List T := [.n, .b true, .t [.s m, .n], .t [.s m, .t [.n]], .t [.b true, .t ps], .t [.n, .t ps], .t [.s m, .t [.b false]]]
theorem sum_cut {f : T → Nat} (xs : List T) (lo hi : Option Int) : ((cutT xs lo hi).map f).sum ≤ (xs.map f).sum := by
  unfold cutT
  have h1 : ∀ (ys : List T) (i : Nat), ((ys.take i).map f).sum ≤ (ys.map f).sum := fun ys i => by
    conv => rhs; rw [← List.take_append_drop i ys]
    rw [List.map_append, List.sum_append]
    omega
  have h2 : ∀ (ys : List T) (i : Nat), ((ys.drop i).map f).sum ≤ (ys.map f).sum := fun ys i => by
    conv => rhs; rw [← List.take_append_drop i ys]
    rw [List.map_append, List.sum_append]
    omega
  exact Nat.le_trans (h1 _ _) (h2 _ _)
theorem len_cut {α : Type} (xs : List α) (lo hi : Option Int) : (cutT xs lo hi).length ≤ xs.length := by
  unfold cutT
  rw [List.length_take, List.length_drop]
  omega
section
variable {n : Nat} {m o : Str} {ps : List T}
def OkW (n S : Nat) (z : T) : Prop := Ok (n + 2) z ∧ wt (n + 2) z ≤ 2 * (1 + S) + 2
theorem OkW.pr {S : Nat} {x : T} {qs : List T} (hx : x.fl = true) (hl : qs.length ≤ 1000) (hq : ∀ q ∈ qs, Ok (n + 1) q) (hs : (qs.map (wt (n + 1))).sum ≤ 2 * S + 3) : OkW n S (.t [x, .t qs]) :=
  ⟨.mkp hx hl hq, by rw [wt_pr]; omega⟩
theorem OkW.oth {S : Nat} {t : T} (h1 : t.im = true) (h2 : t.tyN.isSome = true) (h3 : ∀ x y, t = .t [x, y] → y.tyN.isSome = true) (h4 : ∀ x ps, t ≠ .t [x, .t ps]) : OkW n S t :=
  ⟨.oth h1 h2 h3 h4, by rw [wt_oth h4]; omega⟩
theorem sum_up (hO : ∀ p ∈ ps, Ok n p) : (ps.map (wt (n + 1))).sum = (ps.map (wt n)).sum := by rw [List.map_congr_left fun p hp => (hO p hp).wt]
theorem oth1_ok (hO : ∀ p ∈ ps, Ok n p) (hl : ps.length ≤ 100) : ∀ z ∈ oth1 m o ps, OkW n (ps.map (wt n)).sum z := by
  have hu : ∀ p ∈ ps, Ok (n + 1) p := fun p hp => (hO p hp).up
  have hs := sum_up hO
  intro z hz
  simp only [oth1, List.mem_cons, List.not_mem_nil, or_false] at hz
  rcases hz with rfl | rfl | rfl | rfl | rfl
  · exact .oth rfl rfl (fun _ _ e => by cases e) fun _ _ e => by cases e
  · exact .oth rfl rfl (fun _ _ e => by cases e; rfl) fun _ _ e => by cases e
  · exact .pr rfl (by omega) hu (by omega)
  · exact .pr rfl (by omega) hu (by omega)
  · refine .pr rfl (by simp; omega) (fun q hq => ?_) ?_
    · rcases List.mem_append.mp hq with z | z
      · exact hu q z
      · rw [List.mem_singleton.mp z]
        exact .mkp rfl (by omega) hO
    · rw [sum_snoc, wt_pr, hs]
      omega
theorem oth2_ok (hO : ∀ p ∈ ps, Ok n p) (hl : ps.length ≤ 100) : ∀ z ∈ oth2 m ps, OkW n (ps.map (wt n)).sum z := by
  have hu : ∀ p ∈ ps, Ok (n + 1) p := fun p hp => (hO p hp).up
  have hs := sum_up hO
  have him : T.ims ps = true := ims_all fun p hp => (hO p hp).im
  intro z hz
  simp only [oth2, List.mem_cons, List.not_mem_nil, or_false] at hz
  rcases hz with rfl | rfl | rfl | rfl | rfl | rfl | rfl | rfl
  · refine .pr rfl (Nat.le_trans (len_cut _ _ _) (by omega)) (fun q hq => hu q (cut_mem hq)) (Nat.le_trans (sum_cut _ _ _) (by omega))
  · exact .oth (by simp [T.im, T.ims, him]) rfl (fun _ _ e => by cases e) fun _ _ e => by cases e
  · exact .oth rfl rfl (fun _ _ e => by cases e) fun _ _ e => by cases e
  · exact .oth rfl rfl (fun _ _ e => by cases e) fun _ _ e => by cases e
  · exact .oth rfl rfl (fun _ _ e => by cases e) fun _ _ e => by cases e
  · exact .oth rfl rfl (fun _ _ e => by cases e) fun _ _ e => by cases e
  · exact .oth (by simp [T.im, T.ims, him]) rfl (fun _ _ e => by cases e; rfl) fun _ _ e => by cases e
  · exact .oth rfl rfl (fun _ _ e => by cases e; rfl) fun _ _ e => by cases e
theorem oth3_ok (hO : ∀ p ∈ ps, Ok n p) (hl : ps.length ≤ 100) : ∀ z ∈ oth3 m o ps, OkW n (ps.map (wt n)).sum z := by
  have hu : ∀ p ∈ ps, Ok (n + 1) p := fun p hp => (hO p hp).up
  have hs := sum_up hO
  intro z hz
  simp only [oth3, List.mem_cons, List.not_mem_nil, or_false] at hz
  rcases hz with rfl | rfl | rfl | rfl | rfl | rfl | rfl
  · refine .pr rfl (by simp; omega) (fun q hq => ?_) ?_
    · rcases List.mem_append.mp hq with z | z
      · exact hu q z
      · rw [List.mem_singleton.mp z]
        exact .mkp rfl (by simp) fun _ z => nomatch z
    · rw [sum_snoc, wt_pr, hs]
      simp
      omega
  · exact .pr rfl (by simp) (fun _ z => nomatch z) (by simp)
  · exact .pr rfl (by simp) (fun _ z => nomatch z) (by simp)
  · exact .oth rfl rfl (fun _ _ e => by cases e) fun _ _ e => by cases e
  · exact .pr rfl (by omega) hu (by omega)
  · refine .pr rfl (by simp) (fun q hq => ?_) (by simp [wt])
    rw [List.mem_singleton.mp hq]
    exact .oth rfl rfl (fun _ _ e => by cases e) fun _ _ e => by cases e
  · exact .oth rfl rfl (fun _ _ e => by cases e) fun _ _ e => by cases e
theorem oth4_ok (hO : ∀ p ∈ ps, Ok n p) (hl : ps.length ≤ 100) : ∀ z ∈ oth4 m ps, OkW n (ps.map (wt n)).sum z := by
  have hu : ∀ p ∈ ps, Ok (n + 1) p := fun p hp => (hO p hp).up
  have hs := sum_up hO
  intro z hz
  simp only [oth4, List.mem_cons, List.not_mem_nil, or_false] at hz
  rcases hz with rfl | rfl | rfl | rfl | rfl | rfl | rfl
  · exact .oth rfl rfl (fun _ _ e => by cases e) fun _ _ e => by cases e
  · exact .oth rfl rfl (fun _ _ e => by cases e) fun _ _ e => by cases e
  · exact .oth rfl rfl (fun _ _ e => by cases e; rfl) fun _ _ e => by cases e
  · refine .pr rfl (by simp) (fun q hq => ?_) (by simp [wt])
    rw [List.mem_singleton.mp hq]
    exact .oth rfl rfl (fun _ _ e => by cases e) fun _ _ e => by cases e
  · exact .pr rfl (by omega) hu (by omega)
  · exact .pr rfl (by omega) hu (by omega)
  · refine .pr rfl (by simp) (fun q hq => ?_) (by simp [wt])
    rw [List.mem_singleton.mp hq]
    exact .oth rfl rfl (fun _ _ e => by cases e) fun _ _ e => by cases e
theorem OkW.ims {S : Nat} {zs : List T} (h : ∀ z ∈ zs, OkW n S z) : T.ims zs = true := ims_all fun p hp => (h p hp).1.im
theorem OkW.app {S : Nat} {xs ys : List T} (h1 : ∀ z ∈ xs, OkW n S z) (h2 : ∀ z ∈ ys, OkW n S z) : ∀ z ∈ xs ++ ys, OkW n S z := fun z hz => (List.mem_append.mp hz).elim (h1 z) (h2 z)
end
theorem cut_take {α : Type} {xs : List α} {j : Nat} (h : j ≤ xs.length) : cutT xs none (some (j : Int)) = xs.take j := by
  unfold cutT
  rw [HT.sIx_nat, HT.sIx_none, Nat.sub_zero, List.drop_zero, Nat.min_eq_left h]
theorem cut_drop {α : Type} {xs : List α} {j : Nat} (h : j ≤ xs.length) : cutT xs (some (j : Int)) none = xs.drop j := by
  unfold cutT
  rw [HT.sIx_nat, HT.sIx_none, Nat.min_eq_left h, List.take_of_length_le (by rw [List.length_drop]; omega)]
theorem sum_mid {f : T → Nat} {ps : List T} {j : Nat} {p : T} (h : ps[j]? = some p) : (ps.map f).sum = ((ps.take j).map f).sum + f p + ((ps.drop (j + 1)).map f).sum := by
  have hj := (List.getElem?_eq_some_iff.mp h).1
  have e : ps = ps.take j ++ (p :: ps.drop (j + 1)) := by
    conv => lhs; rw [← List.take_append_drop j ps]
    congr 1
    rw [List.drop_eq_getElem_cons hj]
    congr 1
    exact (List.getElem?_eq_some_iff.mp h).2
  conv => lhs; rw [e]
  simp
  omega
theorem isN_one {ks : List Kd} (g : GoodK ks) {n n' : Nat} {k k' : Str} {t : T} (h : isN ks n k t = true) (h' : isN ks n' k' t = true) : k = k' := by
  obtain ⟨_, m, ps, _, rfl, hm, _⟩ := isN_val h
  obtain ⟨_, m', ps', _, e, hm', _⟩ := isN_val h'
  have e1 : m.1 = m'.1 := by injection e with e; injection e with e _; injection e
  obtain ⟨kd, hk, rfl, e2⟩ := mkOf_kd hm
  obtain ⟨kd', hk', rfl, e3⟩ := mkOf_kd hm'
  obtain ⟨i, hi⟩ := List.getElem?_of_mem hk
  obtain ⟨j, hj⟩ := List.getElem?_of_mem hk'
  rw [e2] at hm
  rw [e3] at hm'
  have := names_apart g.mn hi hj (List.mem_map.mpr ⟨m, hm, rfl⟩) (List.mem_map.mpr ⟨m', hm', e1.symm⟩)
  subst this
  rw [hi] at hj
  cases hj
  rfl
theorem filter_one {xs : List Str} {p : Str → Bool} {x : Str} (hn : xs.Nodup) (hx : x ∈ xs) (hp : ∀ y ∈ xs, p y = true ↔ y = x) : xs.filter p = [x] := by
  induction xs with
  | nil => cases hx
  | cons a r ih =>
    have h' := List.nodup_cons.mp hn
    by_cases e : a = x
    · subst e
      rw [List.filter_cons_of_pos ((hp a (by simp)).mpr rfl), List.filter_eq_nil_iff.mpr fun y hy z => ?_]
      exact h'.1 ((hp y (by simp [hy])).mp z ▸ hy)
    · rw [List.filter_cons_of_neg fun z => e ((hp a (by simp)).mp z)]
      exact ih h'.2 ((List.mem_cons.mp hx).resolve_left fun z => e z.symm) fun y hy => hp y (by simp [hy])
theorem filter_take {ks : List Kd} {i : Nat} {kd : Kd} (h : ks[i]? = some kd) (p : Str → Bool) : (((ks.take (i + 1)).map (·.1)).filter p) = ((ks.take i).map (·.1)).filter p ++ if p kd.1 = true then [kd.1] else [] := by
  rw [take_one' h, List.map_append, List.filter_append]
  congr 1
  by_cases e : p kd.1 = true
  · rw [if_pos e, List.map_singleton, List.filter_cons_of_pos e]; rfl
  · rw [if_neg e, List.map_singleton, List.filter_cons_of_neg e]; rfl
def fnd (ds : Ds) (k : Str) : Bool := (lk ds k).isSome
theorem isN_up {ks : List Kd} : ∀ {n : Nat} {k : Str} {t : T}, isN ks n k t = true → isN ks (n + 1) k t = true := by
  intro n
  induction n with
  | zero => intro k t h; cases h
  | succ n ih =>
    intro k t h
    cases hd : dueT ks k t with
    | none => rw [isN_dueT hd] at h; cases h
    | some fs =>
      obtain ⟨x, ps, rfl, hdu⟩ := dueT_some hd
      rw [isN_due, hdu] at h ⊢
      rw [List.all_eq_true] at h ⊢
      exact fun p hp => ih (h p hp)
theorem isN_le {ks : List Kd} {n n' : Nat} {k : Str} {t : T} (h : isN ks n k t = true) (hl : n ≤ n') : isN ks n' k t = true := by
  induction hl with
  | refl => exact h
  | step _ ih => exact isN_up ih
theorem Ok.le {n n' : Nat} {t : T} (h : Ok n t) (hl : n ≤ n') : Ok n' t := by
  induction hl with
  | refl => exact h
  | step _ ih => exact ih.up
theorem wt_le {n n' : Nat} {t : T} (h : Ok n t) (hl : n ≤ n') : wt n' t = wt n t := by
  induction hl with
  | refl => rfl
  | step hl ih => rw [(h.le hl).wt, ih]
theorem isN_mk {ks : List Kd} (g : GoodK ks) {n : Nat} {k : Str} {m : Mk1} {ps : List T} (hm : m ∈ mkOf ks k) (hl : m.2.length = ps.length) (hp : ∀ (j : Nat) f p, m.2[j]? = some f → ps[j]? = some p → isN ks n f p = true) : isN ks (n + 1) k (.t [.s m.1, .t ps]) = true := by
  rw [isN_due, ← hl, due_own g hm]
  show ((m.2.zip ps).all fun p => isN ks n p.1 p.2) = true
  rw [List.all_eq_true]
  intro p hz
  obtain ⟨j, hj⟩ := List.getElem?_of_mem hz
  rw [List.getElem?_zip_eq_some] at hj
  exact hp j _ _ hj.1 hj.2
def pre : Nat → T → List Str
  | n + 1, .t [.s m, .t ps] => m :: (ps.map (pre n)).flatten
  | _, _ => []
def lexc : List Int → List Int → Int
  | [], [] => 0
  | [], _ :: _ => -1
  | _ :: _, [] => 1
  | x :: xs, y :: ys => if x < y then -1 else if y < x then 1 else lexc xs ys
theorem lexc_same : ∀ {xs ys zs : List Int}, lexc (xs ++ ys) (xs ++ zs) = lexc ys zs
  | [], _, _ => rfl
  | x :: xs, ys, zs => by
    show (if x < x then -1 else if x < x then 1 else lexc (xs ++ ys) (xs ++ zs)) = _
    rw [if_neg (Int.lt_irrefl _), if_neg (Int.lt_irrefl _), lexc_same]
mutual
def ahd (num : Str → Int) : Nat → T → T → Int
  | n + 1, .t [.s m, .t ps], .t [.s m', .t ps'] => if m = m' then ahds num n ps ps' else if num m < num m' then -1 else 1
  | _, _, _ => 0
def ahds (num : Str → Int) : Nat → List T → List T → Int
  | n, p :: ps, p' :: ps' => if ahd num n p p' = 0 then ahds num n ps ps' else ahd num n p p'
  | _, _, _ => 0
end
theorem ahd_lex {ks : List Kd} {num : Str → Int} (hn : ∀ k m m', m ∈ mkOf ks k → m' ∈ mkOf ks k → num m.1 = num m'.1 → m = m') : ∀ {n : Nat} {k : Str} {a b : T}, isN ks n k a = true → isN ks n k b = true → ∀ r s : List Int, lexc ((pre n a).map num ++ r) ((pre n b).map num ++ s) = if ahd num n a b = 0 then lexc r s else ahd num n a b := by
  intro n
  induction n with
  | zero =>
    intro k a b ha _ r s
    obtain ⟨_, _, _, e, _⟩ := isN_val ha
    cases e
  | succ n ih =>
    intro k a b ha hb r s
    obtain ⟨n1, m, ps, e1, rfl, hm, hl, hp⟩ := isN_val ha
    obtain ⟨n2, m', ps', e2, rfl, hm', hl', hp'⟩ := isN_val hb
    cases e1
    cases e2
    have eq1 : pre (n + 1) (.t [.s m.1, .t ps]) = m.1 :: (ps.map (pre n)).flatten := by rw [pre]
    have eq2 : pre (n + 1) (.t [.s m'.1, .t ps']) = m'.1 :: (ps'.map (pre n)).flatten := by rw [pre]
    have eq3 : ahd num (n + 1) (.t [.s m.1, .t ps]) (.t [.s m'.1, .t ps']) = if m.1 = m'.1 then ahds num n ps ps' else if num m.1 < num m'.1 then -1 else 1 := by rw [ahd]
    rw [eq1, eq2, eq3]
    show (if num m.1 < num m'.1 then -1 else if num m'.1 < num m.1 then 1 else lexc ((ps.map (pre n)).flatten.map num ++ r) ((ps'.map (pre n)).flatten.map num ++ s)) = _
    by_cases e : m.1 = m'.1
    · have e' : m = m' := hn k m m' hm hm' (by rw [e])
      subst e'
      rw [if_neg (Int.lt_irrefl _), if_neg (Int.lt_irrefl _), if_pos rfl]
      clear eq1 eq2 eq3 ha hb hm hm' e
      generalize m.2 = fs at hl hl' hp hp'
      induction fs generalizing ps ps' with
      | nil =>
        cases ps with
        | cons => simp at hl
        | nil =>
          cases ps' with
          | cons => simp at hl'
          | nil => rfl
      | cons f fs ihf =>
        cases ps with
        | nil => simp at hl
        | cons p ps =>
          cases ps' with
          | nil => simp at hl'
          | cons p' ps' =>
            have z := ihf ps ps' (by simpa using hl) (by simpa using hl') (fun j f' q h1 h2 => hp (j + 1) f' q (by simpa using h1) (by simpa using h2)) (fun j f' q h1 h2 => hp' (j + 1) f' q (by simpa using h1) (by simpa using h2))
            rw [List.map_cons, List.map_cons, List.flatten_cons, List.flatten_cons, List.map_append, List.map_append, List.append_assoc, List.append_assoc]
            rw [ih (hp 0 f p rfl rfl) (hp' 0 f p' rfl rfl), z]
            rw [ahds]
            by_cases h0 : ahd num n p p' = 0
            · rw [if_pos h0, if_pos h0]
            · rw [if_neg h0, if_neg h0, if_neg h0]
    · rw [if_neg e]
      have ne : num m.1 ≠ num m'.1 := fun z => e (congrArg (·.1) (hn k m m' hm hm' z))
      by_cases g : num m.1 < num m'.1
      · rw [if_pos g, if_pos g]; rfl
      · rw [if_neg g, if_neg g, if_pos (by omega)]; rfl
theorem ahd_key {ks : List Kd} {num : Str → Int} (hn : ∀ k m m', m ∈ mkOf ks k → m' ∈ mkOf ks k → num m.1 = num m'.1 → m = m') {n : Nat} {k : Str} {a b : T} (ha : isN ks n k a = true) (hb : isN ks n k b = true) : ahd num n a b = lexc ((pre n a).map num) ((pre n b).map num) := by
  have := ahd_lex hn ha hb [] []
  rw [List.append_nil, List.append_nil] at this
  rw [this]
  split
  · rename_i h; rw [h]; rfl
  · rfl
def addU (ks : List Str) (x : Str) : List Str := if x ∈ ks then ks else ks ++ [x]
def tab (ks : List Str) (f : Str → Int) : Ds := ks.map fun k => (k, f k)
theorem tab_any {ks : List Str} {f : Str → Int} {x : Str} : ((tab ks f).any fun p => decide (p.1 = x)) = decide (x ∈ ks) := by
  unfold tab
  induction ks with
  | nil => simp
  | cons a r ih =>
    rw [List.map_cons, List.any_cons, ih]
    by_cases e : a = x
    · subst e; simp
    · have e' : ¬ x = a := fun z => e z.symm
      simp [e, e']
theorem tab_lk {ks : List Str} {f : Str → Int} {x : Str} : lk (tab ks f) x = if x ∈ ks then some (f x) else none := by
  unfold tab lk
  induction ks with
  | nil => simp
  | cons a r ih =>
    rw [List.map_cons, List.find?_cons]
    by_cases e : a = x
    · subst e; simp
    · have e' : ¬ x = a := fun z => e z.symm
      rw [decide_eq_false e]
      simp only [ih, List.mem_cons, e', false_or]
theorem tab_put {ks : List Str} {f : Str → Int} {x : Str} {v : Int} : putD (tab ks f) x v = tab (addU ks x) fun k => if k = x then v else f k := by
  unfold putD addU
  rw [tab_any]
  by_cases h : x ∈ ks
  · rw [if_pos (decide_eq_true h), if_pos h]
    unfold tab
    rw [List.map_map]
    apply List.map_congr_left
    intro k _
    show (if k = x then (k, v) else (k, f k)) = (k, if k = x then v else f k)
    split <;> rfl
  · rw [if_neg (by simpa using h), if_neg h]
    unfold tab
    rw [List.map_append]
    congr 1
    · apply List.map_congr_left
      intro k hk
      have ne : ¬ k = x := fun z => h (by rw [← z]; exact hk)
      show (k, f k) = (k, if k = x then v else f k)
      rw [if_neg ne]
    · simp
theorem tab_congr {ks : List Str} {f g : Str → Int} (h : ∀ k ∈ ks, f k = g k) : tab ks f = tab ks g := List.map_congr_left fun k hk => by rw [h k hk]
def uniq (xs : List Str) : List Str := xs.foldl addU []
theorem uniq_snoc {xs : List Str} {x : Str} : uniq (xs ++ [x]) = addU (uniq xs) x := by unfold uniq; rw [List.foldl_append]; rfl
theorem mem_addU {ks : List Str} {x y : Str} : y ∈ addU ks x ↔ y ∈ ks ∨ y = x := by
  unfold addU
  split
  · rename_i h
    exact ⟨.inl, fun z => z.elim id fun e => e ▸ h⟩
  · simp
theorem mem_uniq : ∀ {n : Nat} {xs : List Str} {y : Str}, xs.length = n → (y ∈ uniq xs ↔ y ∈ xs)
  | 0, xs, y, h => by rw [List.length_eq_zero_iff.mp h]; simp [uniq]
  | n + 1, xs, y, h => by
    rcases List.eq_nil_or_concat xs with rfl | ⟨r, x, rfl⟩
    · cases h
    · rw [List.concat_eq_append] at h ⊢
      rw [uniq_snoc, mem_addU, mem_uniq (n := n) (by simpa using h)]
      simp
def cntS (xs : List Str) (k : Str) : Int := (xs.countP fun y => decide (y = k) : Nat)
theorem cnt_step {xs : List Str} {x : Str} : putD (tab (uniq xs) (cntS xs)) x ((lk (tab (uniq xs) (cntS xs)) x).getD 0 + 1) = tab (uniq (xs ++ [x])) (cntS (xs ++ [x])) := by
  rw [tab_put, uniq_snoc]
  apply tab_congr
  intro k _
  unfold cntS
  rw [List.countP_append]
  by_cases e : k = x
  · subst e
    rw [if_pos rfl, tab_lk]
    by_cases h : k ∈ uniq xs
    · rw [if_pos h]; simp
    · have h0 : xs.countP (fun y => decide (y = k)) = 0 := by
        rw [List.countP_eq_zero]
        intro y hy z
        exact h ((mem_uniq rfl).mpr ((of_decide_eq_true z) ▸ hy))
      rw [if_neg h, h0]; simp
  · rw [if_neg e]
    have e' : ¬ x = k := fun z => e z.symm
    simp [e']
theorem due_step {all xs : List Str} {x : Str} : putD (tab (uniq xs) (cntS all)) x (cntS all x) = tab (uniq (xs ++ [x])) (cntS all) := by
  rw [tab_put, uniq_snoc]
  apply tab_congr
  intro k _
  split
  · rename_i e; rw [e]
  · rfl
theorem lexc_lt : ∀ xs ys : List Int, ltI xs ys = decide (lexc xs ys = -1) ∧ ltI ys xs = decide (lexc xs ys = 1)
  | [], [] => ⟨rfl, rfl⟩
  | [], _ :: _ => ⟨rfl, rfl⟩
  | _ :: _, [] => ⟨rfl, rfl⟩
  | x :: xs, y :: ys => by
    have ih := lexc_lt xs ys
    show (if x = y then ltI xs ys else decide (x < y)) = decide ((if x < y then (-1 : Int) else if y < x then 1 else lexc xs ys) = -1) ∧ (if y = x then ltI ys xs else decide (y < x)) = decide ((if x < y then (-1 : Int) else if y < x then 1 else lexc xs ys) = 1)
    by_cases e : x = y
    · subst e
      rw [if_pos rfl, if_pos rfl, if_neg (Int.lt_irrefl _), if_neg (Int.lt_irrefl _)]
      exact ih
    · rw [if_neg e, if_neg (fun z : y = x => e z.symm)]
      by_cases l : x < y
      · have l' : ¬ y < x := by omega
        rw [if_pos l, decide_eq_true l, decide_eq_false l']; exact ⟨rfl, rfl⟩
      · have l' : y < x := by omega
        rw [if_neg l, if_pos l', decide_eq_false l, decide_eq_true l']; exact ⟨rfl, rfl⟩
theorem ahd_01 (num : Str → Int) (ks : List Kd) (hn : ∀ k m m', m ∈ mkOf ks k → m' ∈ mkOf ks k → num m.1 = num m'.1 → m = m') {n : Nat} {k : Str} {a b : T} (ha : isN ks n k a = true) (hb : isN ks n k b = true) :
    ahd num n a b = (if ltI ((pre n a).map num) ((pre n b).map num) = true then -1 else 0) + (if ltI ((pre n b).map num) ((pre n a).map num) = true then 1 else 0) := by
  rw [ahd_key hn ha hb, (lexc_lt _ _).1, (lexc_lt _ _).2]
  have key : ∀ xs ys : List Int, lexc xs ys = -1 ∨ lexc xs ys = 0 ∨ lexc xs ys = 1 := by
    intro xs
    induction xs with
    | nil => intro ys; cases ys with | nil => exact .inr (.inl rfl) | cons => exact .inl rfl
    | cons x xs ih =>
      intro ys
      cases ys with
      | nil => exact .inr (.inr rfl)
      | cons y ys =>
        show (if x < y then (-1 : Int) else if y < x then 1 else lexc xs ys) = -1 ∨ (if x < y then (-1 : Int) else if y < x then 1 else lexc xs ys) = 0 ∨ (if x < y then (-1 : Int) else if y < x then 1 else lexc xs ys) = 1
        split
        · exact .inl rfl
        · split
          · exact .inr (.inr rfl)
          · exact ih ys
  rcases key ((pre n a).map num) ((pre n b).map num) with e | e | e <;> rw [e] <;> decide
theorem pre_up {ks : List Kd} : ∀ {n : Nat} {k : Str} {t : T}, isN ks n k t = true → pre (n + 1) t = pre n t := by
  intro n
  induction n with
  | zero => intro k t h; obtain ⟨_, _, _, e, _⟩ := isN_val h; cases e
  | succ n ih =>
    intro k t h
    obtain ⟨n1, m, ps, e1, rfl, hm, hl, hp⟩ := isN_val h
    cases e1
    rw [pre, pre]
    congr 2
    apply List.map_congr_left
    intro p hpm
    obtain ⟨j, hj⟩ := List.getElem?_of_mem hpm
    have hlt : j < m.2.length := by rw [hl]; exact (List.getElem?_eq_some_iff.mp hj).1
    exact ih (hp j m.2[j] p (by simp [hlt]) hj)
theorem pre_le {ks : List Kd} {n n' : Nat} {k : Str} {t : T} (h : isN ks n k t = true) (hl : n ≤ n') : pre n' t = pre n t := by
  induction hl with
  | refl => rfl
  | step hl ih => rw [pre_up (isN_le h hl), ih]
theorem pre_len {ks : List Kd} : ∀ {n : Nat} {k : Str} {t : T}, isN ks n k t = true → (pre n t).length = wt n t := by
  intro n
  induction n with
  | zero => intro k t h; obtain ⟨_, _, _, e, _⟩ := isN_val h; cases e
  | succ n ih =>
    intro k t h
    obtain ⟨n1, m, ps, e1, rfl, hm, hl, hp⟩ := isN_val h
    cases e1
    rw [pre, wt_pr, List.length_cons, List.length_flatten, List.map_map, Nat.add_comm]
    congr 2
    apply List.map_congr_left
    intro p hpm
    obtain ⟨j, hj⟩ := List.getElem?_of_mem hpm
    have hlt : j < m.2.length := by rw [hl]; exact (List.getElem?_eq_some_iff.mp hj).1
    exact ih (hp j m.2[j] p (by simp [hlt]) hj)
def numK (ms : List Mk1) : Ds := ms.zipIdx.map fun p => (p.1.1, (p.2 : Int))
def numD (ks : List Kd) : Ds := ks.flatMap fun k => numK k.2
def num (ks : List Kd) (m : Str) : Int := (lk (numD ks) m).getD 0
theorem numK_keys (ms : List Mk1) : (numK ms).map (·.1) = ms.map (·.1) := by
  unfold numK
  rw [List.map_map]
  have : ∀ (ms : List Mk1) (i : Nat), (ms.zipIdx i).map ((fun x => x.1) ∘ fun p : Mk1 × Nat => (p.1.1, (p.2 : Int))) = ms.map (·.1) := by
    intro ms
    induction ms with
    | nil => intro i; rfl
    | cons m r ih => intro i; rw [List.zipIdx_cons, List.map_cons, ih]; rfl
  exact this ms 0
theorem numD_keys : ∀ ks : List Kd, (numD ks).map (·.1) = names ks
  | [] => rfl
  | k :: r => by
    show (numK k.2 ++ numD r).map (·.1) = k.2.map (·.1) ++ names r
    rw [List.map_append, numK_keys, numD_keys r]
theorem lk_of_mem {ds : Ds} {k : Str} {v : Int} (hn : (ds.map (·.1)).Nodup) (h : (k, v) ∈ ds) : lk ds k = some v := by
  unfold lk
  induction ds with
  | nil => cases h
  | cons p r ih =>
    have hn' := List.nodup_cons.mp hn
    rw [List.find?_cons]
    rcases List.mem_cons.mp h with e | h
    · subst e; simp
    · have ne : ¬ p.1 = k := fun z => hn'.1 (List.mem_map.mpr ⟨(k, v), h, z.symm⟩)
      rw [decide_eq_false ne]
      exact ih hn'.2 h
theorem numK_mem {ms : List Mk1} {i : Nat} {m : Mk1} (h : ms[i]? = some m) : (m.1, (i : Int)) ∈ numK ms := by
  unfold numK
  refine List.mem_map.mpr ⟨(m, i), ?_, rfl⟩
  exact List.mem_iff_getElem?.mpr ⟨i, by rw [List.getElem?_zipIdx, h]; simp⟩
theorem num_at {ks : List Kd} (g : GoodK ks) {kd : Kd} (hk : kd ∈ ks) {i : Nat} {m : Mk1} (h : kd.2[i]? = some m) : lk (numD ks) m.1 = some (i : Int) := by
  refine lk_of_mem (by rw [numD_keys]; exact g.mn) ?_
  exact List.mem_flatMap.mpr ⟨kd, hk, numK_mem h⟩
theorem num_inj {ks : List Kd} (g : GoodK ks) (k : Str) (m m' : Mk1) (h : m ∈ mkOf ks k) (h' : m' ∈ mkOf ks k) (e : num ks m.1 = num ks m'.1) : m = m' := by
  obtain ⟨kd, hk, _, ek⟩ := mkOf_kd h
  rw [ek] at h h'
  obtain ⟨i, hi⟩ := List.getElem?_of_mem h
  obtain ⟨j, hj⟩ := List.getElem?_of_mem h'
  unfold num at e
  rw [num_at g hk hi, num_at g hk hj] at e
  have e : (i : Int) = j := e
  have : i = j := by omega
  subst this
  rw [hi] at hj
  exact Option.some.inj hj
theorem pre_mem {ks : List Kd} : ∀ {n : Nat} {k : Str} {t : T}, isN ks n k t = true → ∀ x ∈ pre n t, ∃ kd ∈ ks, ∃ m ∈ kd.2, m.1 = x := by
  intro n
  induction n with
  | zero => intro k t h; obtain ⟨_, _, _, e, _⟩ := isN_val h; cases e
  | succ n ih =>
    intro k t h x hx
    obtain ⟨n1, m, ps, e1, rfl, hm, hl, hp⟩ := isN_val h
    cases e1
    rw [pre] at hx
    rcases List.mem_cons.mp hx with e | hx
    · obtain ⟨kd, hk, _, ek⟩ := mkOf_kd hm
      rw [ek] at hm
      exact ⟨kd, hk, m, hm, e.symm⟩
    · obtain ⟨l, hl', hx⟩ := List.mem_flatten.mp hx
      obtain ⟨p, hpm, rfl⟩ := List.mem_map.mp hl'
      obtain ⟨j, hj⟩ := List.getElem?_of_mem hpm
      have hlt : j < m.2.length := by rw [hl]; exact (List.getElem?_eq_some_iff.mp hj).1
      exact ih (hp j m.2[j] p (by simp [hlt]) hj) x hx
theorem num_some {ks : List Kd} (g : GoodK ks) {n : Nat} {k : Str} {t : T} (h : isN ks n k t = true) {x : Str} (hx : x ∈ pre n t) : lk (numD ks) x = some (num ks x) := by
  obtain ⟨kd, hk, m, hm, rfl⟩ := pre_mem h x hx
  obtain ⟨i, hi⟩ := List.getElem?_of_mem hm
  unfold num
  rw [num_at g hk hi]
  rfl
theorem idx_num {ks : List Kd} (g : GoodK ks) {k : Str} {m : Mk1} (h : m ∈ mkOf ks k) : ∃ i : Nat, (((mkOf ks k).map fun x => T.s x.1).findIdx? fun z => eqV z.v (T.s m.1).v) = some i ∧ num ks m.1 = i := by
  obtain ⟨kd, hk, _, ek⟩ := mkOf_kd h
  rw [ek] at h ⊢
  obtain ⟨i, hi⟩ := List.getElem?_of_mem h
  have hnd := names_in hk g.mn
  refine ⟨i, ?_, by unfold num; rw [num_at g hk hi]; rfl⟩
  rw [List.findIdx?_map, List.findIdx?_eq_some_iff_getElem]
  obtain ⟨hlt, e⟩ := List.getElem?_eq_some_iff.mp hi
  refine ⟨hlt, ?_, fun j hj => ?_⟩
  · show eqV (V.str kd.2[i].1) (V.str m.1) = true
    rw [e]; simp [eqV]
  · show ¬ eqV (V.str (kd.2[j]'(by omega)).1) (V.str m.1) = true
    intro z
    have z : (kd.2[j]'(by omega)).1 = m.1 := by simpa [eqV] using z
    have hj' : (kd.2.map (·.1))[j]? = some m.1 := by rw [List.getElem?_map, List.getElem?_eq_getElem (by omega)]; simp [z]
    have hi' : (kd.2.map (·.1))[i]? = some m.1 := by rw [List.getElem?_map, hi]; rfl
    have := nodup_ix hnd hj' hi'
    omega
def numT (ms : List Mk1) : List T := ms.zipIdx.map fun p => .t [.s p.1.1, .i (p.2 : Nat)]
theorem pairs_num (ms : List Mk1) : pairsT (numT ms) = some ((numK ms).map dEn) := by
  unfold numT numK
  have : ∀ (ms : List Mk1) (i : Nat), pairsT ((ms.zipIdx i).map fun p => T.t [.s p.1.1, .i (p.2 : Nat)]) = some (((ms.zipIdx i).map fun p => (p.1.1, (p.2 : Int))).map dEn) := by
    intro ms
    induction ms with
    | nil => intro i; rfl
    | cons m r ih =>
      intro i
      rw [List.zipIdx_cons, List.map_cons, List.map_cons, List.map_cons]
      show (match (some (.inr m.1) : Option Key), pairsT ((r.zipIdx (i + 1)).map fun p => T.t [.s p.1.1, .i (p.2 : Nat)]) with | some k', some r => some ((k', T.i (i : Nat)) :: r) | _, _ => none) = _
      rw [ih (i + 1)]
      rfl
  exact this ms 0
theorem numT_len (ms : List Mk1) : (numT ms).length = ms.length := by simp [numT]
theorem merge_num {ks : List Kd} (hn : (names ks).Nodup) {i : Nat} {kd : Kd} (h : ks[i]? = some kd) : mergeT ((numD (ks.take i)).map dEn) ((numK kd.2).map dEn) = (numD (ks.take (i + 1))).map dEn := by
  have e : numD (ks.take (i + 1)) = numD (ks.take i) ++ numK kd.2 := by
    rw [take_one' h]
    unfold numD
    rw [List.flatMap_append]
    simp
  have hk : (numD (ks.take (i + 1))).map (·.1) = names (ks.take (i + 1)) := numD_keys _
  have hn' : (names (ks.take (i + 1))).Nodup := by
    have : names ks = names (ks.take (i + 1)) ++ names (ks.drop (i + 1)) := by
      conv => lhs; rw [← List.take_append_drop (i + 1) ks]
      unfold names
      rw [List.flatMap_append]
    rw [this] at hn
    exact (List.nodup_append.mp hn).1
  rw [← hk, e, List.map_append] at hn'
  have hd := List.nodup_append.mp hn'
  rw [merge_nd, e, List.map_append]
  · rw [List.map_map]
    have : (numK kd.2).map ((fun x : Key × T => x.1) ∘ dEn) = ((numK kd.2).map (·.1)).map Sum.inr := by rw [List.map_map]; rfl
    rw [this]
    exact List.pairwise_map.mpr (hd.2.1.imp fun hne z => hne (Sum.inr.inj z))
  · intro p hp q hq ez
    obtain ⟨x, hx, rfl⟩ := List.mem_map.mp hp
    obtain ⟨y, hy, rfl⟩ := List.mem_map.mp hq
    exact hd.2.2 y.1 (List.mem_map.mpr ⟨y, hy, rfl⟩) x.1 (List.mem_map.mpr ⟨x, hx, rfl⟩) (Sum.inr.inj ez)
def psMkIn : PSp := fun ts Q => ∃ (ks : List Kd) (n : Nat) (k : Str) (t : T), ts = [t] ∧ isN ks n k t = true ∧ Ok n t ∧ wt n t ≤ 500 ∧ Q (.l ((pre n t).map .s))
def psSize : PSp := fun ts Q => ∃ (ks : List Kd) (n : Nat) (k : Str) (t : T), ts = [t] ∧ isN ks n k t = true ∧ Ok n t ∧ wt n t ≤ 500 ∧ Q (.i ((pre n t).length : Nat))
def psCounts : PSp := fun ts Q => ∃ (ks : List Kd) (n : Nat) (k : Str) (t : T), ts = [t] ∧ isN ks n k t = true ∧ Ok n t ∧ wt n t ≤ 500 ∧ Q (dT (tab (uniq (pre n t)) (cntS (pre n t))))
def psKey : PSp := fun ts Q => ∃ (ks : List Kd) (n : Nat) (k : Str) (t : T), ts = [tKs ks, t] ∧ GoodK ks ∧ isN ks n k t = true ∧ Ok n t ∧ wt n t ≤ 500 ∧ Q (.l (((pre n t).map (num ks)).map .i))
def psMks (n : Nat) : PSp := fun ts Q => ∃ (ks : List Kd) (k : Str) (t : T), ts = [t] ∧ isN ks n k t = true ∧ Ok n t ∧ wt n t ≤ 500 ∧ Q (.l ((pre n t).map .s))
def psAhead (n : Nat) : PSp := fun ts Q => ∃ (ks : List Kd) (k : Str) (a b : T), ts = [tKs ks, .s k, a, b] ∧ GoodK ks ∧ isN ks n k a = true ∧ isN ks n k b = true ∧ Ok n a ∧ Ok n b ∧ Q (.i (ahd (num ks) n a b))
def psChanged (n : Nat) : PSp := fun ts Q => ∃ (ks : List Kd) (ds : Ds) (k : Str) (t : T) (room v : Int), ts = [.deal, tKs ks, dT ds, .s k, t, .i room] ∧ GoodK ks ∧ LInv ks ds ∧ lk ds k = some v ∧ isN ks n k t = true ∧ FdV ks ds n k t ∧ Ok n t ∧ 1 ≤ room ∧ room ≤ 4 ∧
  ∀ t', isN ks (n + 30) k t' = true → Ok (n + 30) t' → wt (n + 30) t' ≤ wt n t + 30 → Q t'
def psWhole : PSp := fun ts Q => ∃ i : Int, ts = [.i i] ∧ Q (.b true)
def psRight (n : Nat) : PSp := fun ts Q => ∃ (ks : List Kd) (k : Str) (t : T), ts = [tKs ks, t] ∧ GoodK ks ∧ isN ks n k t = true ∧ Ok n t ∧ wt n t ≤ 500 ∧ Q (.b true)
theorem rd_putinc {D : EndsQ} {q : Sq} {ds : Ds} {k : Str} (h1 : q[1]? = some (.o (dT ds))) (h2 : q[2]? = some (.r (.s k))) (hl : ds.length < sizeLine) (hq : D.nx (q.set 1 (.o (dT (putD ds k ((lk ds k).getD 0 + 1)))))) :
    qPut 1 (qVar 2) (qOp qAdd (qGet2 (qVar 1) (qVar 2) (qC (.i 0))) (qC (.i 1))) D q := by
  unfold dT at h1
  simp only [qPut, qOp, qGet2, qVar, qC, h1, h2]
  have e : (lookT (ds.map dEn) (.inr k)).getD (.i 0) = .i ((lk ds k).getD 0) := by rw [look_dT]; cases lk ds k <;> rfl
  show qAdd ((lookT (ds.map dEn) (.inr k)).getD (.i 0)) (.i 1) _
  rw [e]
  refine ⟨by rw [List.length_map]; exact hl, imk_dT ds, rfl, ?_⟩
  rw [put_dT]
  exact hq
theorem ims_ints (ns : List Int) : T.ims (ns.map T.i) = true := ims_map (fun _ => rfl) ns
theorem uniq_len {xs : List Str} : (uniq xs).length ≤ xs.length := by
  have : ∀ n (xs : List Str), xs.length = n → (uniq xs).length ≤ n := by
    intro n
    induction n with
    | zero => intro xs h; rw [List.length_eq_zero_iff.mp h]; simp [uniq]
    | succ n ih =>
      intro xs h
      rcases List.eq_nil_or_concat xs with rfl | ⟨r, x, rfl⟩
      · cases h
      · rw [List.concat_eq_append] at h ⊢
        rw [uniq_snoc]
        have h1 := ih r (by simpa using h)
        unfold addU
        split
        · omega
        · rw [List.length_append, List.length_singleton]; omega
  exact this _ xs rfl
theorem tab_len {ks : List Str} {f : Str → Int} : (tab ks f).length = ks.length := by simp [tab]
theorem cnt_T (xs : List Str) (m : Str) : ((xs.map T.s).countP fun z => eqV z.v (T.s m).v : Nat) = xs.countP fun y => decide (y = m) := by
  rw [List.countP_map]
  congr 1
def mEn (m : Mk1) : Key × T := (.inr m.1, .t (m.2.map .s))
theorem pairs_tM : ∀ ms : List Mk1, pairsT (ms.map tM) = some (ms.map mEn)
  | [] => rfl
  | m :: r => by
    show (match (some (.inr m.1) : Option Key), pairsT (r.map tM) with | some k', some r => some ((k', T.t (m.2.map .s)) :: r) | _, _ => none) = _
    rw [pairs_tM r]
    rfl
theorem look_tM {ms : List Mk1} (hn : (ms.map (·.1)).Nodup) {m : Mk1} (h : m ∈ ms) : lookT (mergeT [] (ms.map mEn)) (.inr m.1) = some (.t (m.2.map .s)) := by
  rw [merge_nd]
  · unfold lookT
    rw [List.nil_append]
    induction ms with
    | nil => cases h
    | cons x r ih =>
      have hn' := List.nodup_cons.mp hn
      rw [List.map_cons, List.find?_cons, show (mEn x).1 = .inr x.1 from rfl, inr_eq]
      rcases List.mem_cons.mp h with e | h
      · subst e; rw [decide_eq_true rfl]; rfl
      · have ne : ¬ x.1 = m.1 := fun z => hn'.1 (List.mem_map.mpr ⟨m, h, z.symm⟩)
        rw [decide_eq_false ne]
        exact ih hn'.2 h
  · rw [List.map_map]
    have : (ms.map ((fun x : Key × T => x.1) ∘ mEn)) = (ms.map (·.1)).map Sum.inr := by rw [List.map_map]; rfl
    rw [this]
    exact List.pairwise_map.mpr (hn.imp fun hne z => hne (Sum.inr.inj z))
  · intro p _ q hq
    cases hq
theorem FdV_val {ks : List Kd} (g : GoodK ks) {ds : Ds} {n : Nat} {k : Str} {m : Mk1} {ps : List T} (hm : m ∈ mkOf ks k) (h : FdV ks ds (n + 1) k (.t [.s m.1, .t ps])) : ∀ (j : Nat) f p, m.2[j]? = some f → ps[j]? = some p → (lk ds f).isSome = true ∧ FdV ks ds n f p := by
  rw [FdV] at h
  obtain ⟨m', hm', e, _, h2⟩ := h
  obtain ⟨kd, hk, _, ek⟩ := mkOf_kd hm
  have : m' = m := map_inj (names_in hk g.mn) (ek ▸ hm') (ek ▸ hm) e
  subst this
  exact h2
theorem sum_le_up {n d : Nat} : ∀ {ps : List T}, (∀ p ∈ ps, Ok n p) → (ps.map (wt (n + d))).sum = (ps.map (wt n)).sum
  | [], _ => rfl
  | p :: r, h => by
    rw [List.map_cons, List.map_cons, List.sum_cons, List.sum_cons, wt_le (h p (by simp)) (Nat.le_add_right _ _), sum_le_up fun q hq => h q (by simp [hq])]
theorem len_wt (n : Nat) : ∀ ps : List T, ps.length ≤ (ps.map (wt n)).sum
  | [] => Nat.le_refl _
  | p :: r => by
    have h1 := len_wt n r
    have h2 := wt_pos n p
    rw [List.map_cons, List.sum_cons, List.length_cons]
    omega
theorem ahds_nil (num : Str → Int) (n : Nat) (ps : List T) : ahds num n [] ps = 0 := by unfold ahds; rfl
section
variable {P : Program} {w : World} {K : PySem.W.Frag} {mg : Str → Option Value} {base : Heap} {a : Adr}
theorem ok_draw (T : Txt K mg a) : FnOk P w K mg base CX0 1 a.f_draw a.d_draw ["_law_deal_here", "_law_many"] spDraw := by
  refine T.F_draw.ok sc_draw (fun vs H Q E h => ?_) (fun cdv A outer s H vs Q E hr h => ?_)
  · obtain ⟨d, l, m, rfl, _⟩ := h
    rfl
  · obtain ⟨d, l, m, rfl, ⟨s0, n0, ls0, D0⟩, m0, m1, k⟩ := h
    have hu := hu_of hr
    refine ⟨_, ((pss_cons (ps_while PassesOwn.never (PW.pt (pw_and (pt_cmpR op_eq (pe_dget hu (pv 0) pe_str (fun _ _ => rfl)) pe_int (nomark _)) (pw_and1 (pt_cmpR op_gt (pe_callB call_len_seq (by rfl) T.b_len PySem.boot_len (pa_cons (pe_dget hu (pv 0) pe_str (fun _ _ => rfl)) pa_nil)) pe_int (nomark _)))))
  (pss_one (ps_dput hu (pv 0) pe_str (pe_bm0 PySem.F.plainAttrs_list PySem.F.slot_list_pop PySem.F.type_list_pop mt_pop (pe_dget hu (pv 0) pe_str (fun _ _ => rfl))) rfl)))
  (pss_cons (ps_set (i := 2) sc_draw.nd rfl (Or.inl rfl) (pe_dget hu (pv 0) pe_str (fun _ _ => rfl)))
  (pss_cons (ps_if (pt_cmpR op_gt (pv 2) pe_int (nomark _))
  (pss_cons (ps_dput hu (pv 0) pe_str (pe_op op_fdivB (pv 2) (pv 1)) rfl)
  (pss_one (ps_ret (pe_op op_mod (pv 2) (pv 1)))))
  pss_nil)
  (pss_cons (ps_set (i := 3) sc_draw.nd rfl (Or.inl rfl) (pe_op op_mod (pe_op op_add (pe_op op_mul (pe_dget hu (pv 0) pe_str (fun _ _ => rfl)) pe_int) pe_int) pe_int))
  (pss_cons (ps_dput hu (pv 0) pe_str (pe_op op_mod (pe_op op_add (pe_op op_mul (pv 3) pe_int) pe_int) pe_int) rfl)
  (pss_cons (ps_set (i := 4) sc_draw.nd rfl (Or.inl rfl) (pe_op op_mod (pe_op op_mul (pe_dget hu (pv 0) pe_str (fun _ _ => rfl)) (pe_dget hu (pv 0) pe_str (fun _ _ => rfl))) pe_int))
  (pss_one (ps_ret (pe_op op_mod (pe_op op_add (pe_op op_mul (pe_op op_mod (pe_op op_mul (pv 3) (pv 3)) pe_int) pe_int) (pv 4)) (pv 1))))))))))), ?_⟩
    refine while_inv (fun c σ H1 => ∃ s n ls, σ = [some (.ref d), some (.int m), none, none, none] ∧ DealS H1 d l s n ls ∧ Kp d l H H1 ∧ c = ls.length) ⟨s0, n0, ls0, rfl, D0, Kp.refl, rfl⟩ ?_ ?_
    · rintro c σ H1 ⟨s1, n1, ls, rfl, D, K1, rfl⟩
      refine ⟨_, rfl, d, _, rfl, D.gnum, ?_⟩
      refine ⟨_, rfl, _, _, rfl, rfl, _, rfl, ?_⟩
      refine ite2 (fun h1 => ?_) (fun h1 => ?_)
      · have h1 : 0 < n1 := of_decide_eq_true h1
        have q0 : 0 ≤ n1 / m := Int.ediv_nonneg (by omega) (by omega)
        refine ⟨_, rfl, _, rfl, _, _, rfl, rfl, ⟨m0, m1⟩, _, rfl, d, _, rfl, D.pnum, ?_⟩
        refine ⟨_, rfl, _, rfl, _, _, rfl, rfl, m0, ?_⟩
        exact k _ _ (mod_lt m0).1 (mod_lt m0).2 ⟨_, _, _, D.num q0⟩ K1.updd
      · have b1 := mod_lt (x := s1 * 48271 + 7919) (m := 2147483647) (by decide)
        refine ⟨_, rfl, d, _, rfl, D.gseed, _, _, rfl, rfl, .inr ⟨by decide, by decide⟩, _, _, rfl, rfl, _, _, rfl, rfl, (by show (0 : Int) < 2147483647; decide), ?_⟩
        have b2 := mod_lt (x := (s1 * 48271 + 7919) % 2147483647 * 40692 + 104729) (m := 2147483399) (by decide)
        refine ⟨_, rfl, _, _, rfl, rfl, .inr ⟨by decide, by decide⟩, _, _, rfl, rfl, _, _, rfl, rfl, (by show (0 : Int) < 2147483399; decide), _, rfl, d, _, rfl, D.pseed, ?_⟩
        have D2 := D.seed (m := ((s1 * 48271 + 7919) % 2147483647 * 40692 + 104729) % 2147483399) b2.1 (by omega)
        refine ⟨_, rfl, d, _, rfl, D2.gseed, _, rfl, d, _, rfl, D2.gseed, _, _, rfl, rfl, .inl ⟨by omega, by omega⟩, _, _, rfl, rfl, (by show (0 : Int) < 2147483563; decide), ?_⟩
        have b4 := mod_lt (x := (s1 * 48271 + 7919) % 2147483647 * ((s1 * 48271 + 7919) % 2147483647)) (m := 2147483629) (by decide)
        refine ⟨_, rfl, _, rfl, _, _, rfl, rfl, .inl ⟨by omega, by omega⟩, _, _, rfl, rfl, (by show (0 : Int) < 2147483629; decide), _, _, rfl, rfl, .inr ⟨by decide, by decide⟩, _, rfl, _, _, rfl, rfl, _, rfl, _, _, rfl, rfl, m0, ?_⟩
        exact k _ _ (mod_lt m0).1 (mod_lt m0).2 ⟨_, _, _, D2⟩ K1.updd
    · rintro c σ H1 ⟨s1, n1, ls, rfl, D, K1, rfl⟩ hx
      refine ⟨_, rfl, d, _, rfl, D.gnum, rfl, _, rfl, ?_⟩
      refine ite2 (fun h1 => ?_) (fun h1 => hx)
      refine ⟨_, rfl, d, _, rfl, D.gleft, l, _, rfl, .inl (SqL.of D.hl), _, _, rfl, rfl, _, rfl, ?_⟩
      refine ite2 (fun h2 => ?_) (fun h2 => hx)
      have h2 : (0 : Int) < ((ls.map V.int).length : Int) := of_decide_eq_true h2
      rcases List.eq_nil_or_concat ls with rfl | ⟨ls', x, rfl⟩
      · simp at h2
      · have hl' : H1 l = some (.lst (ls'.map V.int ++ [.int x])) := by simpa using D.hl
        refine ⟨fun σ' H' => ∃ s n ls2, σ' = [some (.ref d), some (.int m), none, none, none] ∧ DealS H' d l s n ls2 ∧ Kp d l H H' ∧ ls2.length < (ls' ++ [x]).length, fun σ' H' ⟨s2, n2, ls2, e, D2, K2, h⟩ => ⟨ls2.length, by simpa using h, s2, n2, ls2, e, D2, K2, rfl⟩, ?_⟩
        have x0 : 0 ≤ x := D.l0 x (by simp)
        have D2 := D.list (ls' := ls') fun y hy => D.l0 y (by simp [hy])
        refine ⟨_, rfl, d, _, rfl, D.gleft, .inl ⟨rfl, _, SqL.of hl'⟩, l, _, .int x, rfl, rfl, hl', (by simp), ?_⟩
        rw [List.dropLast_concat]
        refine ⟨_, rfl, d, _, rfl, D2.pnum, ?_⟩
        exact ⟨_, _, ls', rfl, D2.num x0, (K1.updl).updd, by simp⟩
theorem ok_deal (T : Txt K mg a) : FnOk P w K mg base CX0 1 a.f_deal a.d_deal ["_law_script", "_law_base"] (spDeal K) := by
  refine T.F_deal.ok sc_deal (fun vs H Q E h => ?_) (fun cdv A outer s H vs Q E hr h => ?_)
  · obtain ⟨a, ns, b, rfl, _⟩ := h
    rfl
  · obtain ⟨p0, ns, b, rfl, hS, hlen, b0, b1, k⟩ := h
    have hu := hu_of hr
    refine ⟨_, ((pss_cons (ps_comp (i := 2) sc_deal.nd rfl (Or.inl rfl) rfl (pi_list (pe_slice sl_list (pv 0) (po_some (pv 1)) (po_some pe_int))) (N' := ["_law_cell"]) (.own rfl .nil) (fun _ _ _ _ _ => ⟨(pg_name (i := 0) (show (["_law_cell"] : List Str).Nodup from by decide +kernel) rfl (Or.inl rfl)), pts_nil, (pe_callB (call_max2 rfl) (by rfl) T.b_max (by kernel_rfl) (pa_cons (pv 0) (pa_cons (pe_op op_sub pe_int (pv 0)) pa_nil)))⟩))
  (pss_cons (ps_set (i := 3) sc_deal.nd rfl (Or.inl rfl) (pe_op op_add pe_int (pv 1)))
  (pss_cons (ps_for PassesOwn.never rfl (pi_list (pv 2)) (pg_name (i := 4) sc_deal.nd rfl (Or.inl rfl))
  (pss_one (ps_set (i := 3) sc_deal.nd rfl (Or.inl rfl) (pe_op op_mod (pe_op op_add (pe_op op_mul (pv 3) pe_int) (pe_op op_mod (pv 4) pe_int)) pe_int))))
  (pss_one (ps_ret (pe_disp (pps_cons pe_str (pv 3) (pps_cons pe_str pe_int (pps_cons pe_str (pe_listrev rfl rfl T.b_list rfl T.b_reversed (pe_comp rfl (pi_list (pv 2)) (N' := ["_law_cell"]) (.own rfl .nil) (fun _ _ _ _ _ => ⟨(pg_name (i := 0) (show (["_law_cell"] : List Str).Nodup from by decide +kernel) rfl (Or.inl rfl)), (pts_one (pt_cmpR op_ge (pv 0) (pe_op op_pow pe_int pe_int) (nomark _))), (pv 0)⟩))) pps_nil))) rfl rfl (by intro z; cases z) (by decide)))))))), ?_⟩
    obtain ⟨cs, ecs, lcs⟩ := cut_ints ns (some b) (some 63)
    refine ⟨_, rfl, _, rfl, _, rfl, _, rfl, p0, _, rfl, hS, fun p hp => ⟨p, rfl, ⟨_, SqL.of upd_same⟩, ?_⟩⟩
    rw [ecs]
    have s1 : Same H (upd H p (.lst (cs.map V.int))) := (Same.refl H).new hp
    refine comp_list (K := K) (a := p) (xs := cs.map V.int) (fun i ys σ' H' => ∃ zs : List Int, ys = zs.map V.int ∧ (∀ z ∈ zs, 0 ≤ z) ∧ zs.length = i ∧ (∃ o, σ' = [o]) ∧ H' = upd H p (.lst (cs.map V.int))) ⟨[], rfl, by simp, rfl, ⟨_, rfl⟩, rfl⟩ ?_ ?_ ?_
    · rintro i ys σ' H' hi ⟨zs, rfl, _, hz, _, rfl⟩
      refine ⟨SqL.of upd_same, ?_⟩
      rw [List.length_map] at hi ⊢
      exact small1000 (by omega)
    · rintro i x ys σ' H' hi ⟨zs, rfl, z0, hz, ⟨o, rfl⟩, rfl⟩
      obtain ⟨c, rfl⟩ := int_at hi
      refine gn_tst0 ?_
      refine ⟨_, rfl, _, rfl, _, _, rfl, rfl, _, _, rfl, ?_⟩
      refine ⟨zs ++ [if 0 - c > c then 0 - c else c], by simp, ?_, by simp [hz], ⟨_, rfl⟩, rfl⟩
      intro z hz'
      rcases List.mem_append.mp hz' with h | h
      · exact z0 z h
      · rw [List.mem_singleton.mp h]
        split <;> omega
    · rintro ys σ' H' ⟨zs, rfl, z0, hz, _, rfl⟩ D hD
      have s2 : Same H (upd (upd H p (.lst (cs.map V.int))) D (.lst (zs.map V.int))) := s1.new hD
      have hcD : (upd (upd H p (.lst (cs.map V.int))) D (.lst (zs.map V.int))) D = some (.lst (zs.map V.int)) := upd_same
      generalize upd (upd H p (.lst (cs.map V.int))) D (.lst (zs.map V.int)) = H2 at s2 hcD ⊢
      refine ⟨_, rfl, _, _, rfl, rfl, ?_⟩
      refine ⟨_, rfl, D, rfl, ⟨_, SqL.of hcD⟩, for_list (K := K) (a := D) (xs := zs.map V.int) (fun i σ' H' => ∃ (n : Int) (o : Option V), σ' = [some (.ref p0), some (.int b), some (.ref D), some (.int n), o] ∧ 0 ≤ n ∧ n < 2147483647 ∧ H2 = H')
        ⟨_, _, rfl, by omega, by omega, rfl⟩ (fun i σ' H' _ ⟨_, _, _, _, _, e⟩ => by rw [← e]; exact SqL.of hcD) ?_ ?_⟩
      · rintro i y σ' H' hi ⟨n, o, rfl, n0, n1, rfl⟩
        obtain ⟨z, rfl⟩ := int_at hi
        refine ⟨_, rfl, _, _, rfl, rfl, .inr ⟨by decide, by decide⟩, _, rfl, _, _, rfl, rfl, (by show (0 : Int) < 2147483629; decide), _, _, rfl, rfl, _, _, rfl, rfl, (by show (0 : Int) < 2147483647; decide), ?_⟩
        exact ⟨_, _, rfl, (mod_lt (by decide)).1, (mod_lt (by decide)).2, rfl⟩
      · rintro σ' H' ⟨n, o, rfl, n0, n1', rfl⟩
        intro pd hpd
        have hcD' : (upd H2 pd (.dK [])) D = some (.lst (zs.map V.int)) := by rw [upd_ne (ne_of_none hcD hpd)]; exact hcD
        have s3 : Same H (upd H2 pd (.dK [])) := s2.new hpd
        have hpd' : (upd H2 pd (.dK [])) pd = some (.dK []) := upd_same
        have fpd : H pd = none := s2.free hpd
        generalize upd H2 pd (.dK []) = H3 at hcD' s3 hpd' ⊢
        refine ⟨_, rfl, _, rfl, D, rfl, ⟨_, SqL.of hcD'⟩, comp_list (K := K) (a := D) (xs := zs.map V.int) (fun i ys σ' H' => ∃ ws : List Int, ys = ws.map V.int ∧ (∀ z ∈ ws, 0 ≤ z) ∧ ws.length ≤ i ∧ (∃ o, σ' = [o]) ∧ H3 = H') ⟨[], rfl, by simp, Nat.le_refl _, ⟨_, rfl⟩, rfl⟩ ?_ ?_ ?_⟩
        · rintro i ys σ' H' hi ⟨ws, rfl, _, hz', _, rfl⟩
          refine ⟨SqL.of hcD', ?_⟩
          rw [List.length_map] at hi ⊢
          rw [List.length_map] at hz
          exact small1000 (by omega)
        · rintro i x ys σ' H' hi ⟨ws, rfl, w0, hz', ⟨o, rfl⟩, rfl⟩
          obtain ⟨c, rfl, hc⟩ := int_mem hi
          refine ⟨_, rfl, _, _, rfl, rfl, ⟨by decide, by decide, by decide⟩, _, _, rfl, rfl, _, rfl, ?_⟩
          refine ite2 (fun h1 => ?_) (fun h1 => ?_)
          · refine ⟨_, rfl, ws ++ [c], by simp, ?_, by simp; omega, ⟨_, rfl⟩, rfl⟩
            intro z hz'
            rcases List.mem_append.mp hz' with h | h
            · exact w0 z h
            · rw [List.mem_singleton.mp h]
              exact z0 c hc
          · exact ⟨ws, rfl, w0, by omega, ⟨_, rfl⟩, rfl⟩
        · rintro ys σ' H' ⟨ws, rfl, w0, hz', _, rfl⟩ D2 hD2
          refine ⟨D2, _, rfl, SqL.of upd_same, fun q hq => ?_⟩
          have n1 : pd ≠ D2 := ne_of_none hpd' hD2
          have e1 : (upd H3 D2 (.lst (ws.map V.int))) pd = some (.dK []) := by rw [upd_ne n1]; exact hpd'
          have n2 : pd ≠ q := ne_of_none e1 hq
          have s4 : Same H (upd (upd H3 D2 (.lst (ws.map V.int))) q (.lst ((ws.map V.int).reverse))) := (s3.new hD2).new hq
          refine ⟨by rw [upd_ne n2]; exact e1, [(.inr "seed", .int n), (.inr "number", .int 0), (.inr "left", .ref q)], rfl, (by show 3 ≤ 15; decide), ?_⟩
          rw [show mergeK [] [((.inr "seed" : Key), V.int n), (.inr "number", .int 0), (.inr "left", .ref q)] = dk n 0 q from by kernel_rfl]
          refine k pd q _ fpd ((s3.new hD2).free hq) ⟨n, 0, ws.reverse, upd_same, ?_, n0, n1', Int.le_refl _, ?_⟩ ?_
          · rw [upd_ne n2.symm, upd_same, List.map_reverse]
          · intro x hx
            exact w0 x (by simpa using hx)
          · intro c o hc
            have : c ≠ pd := ne_of_none hc fpd
            rw [upd_ne this]
            exact s4 c o hc
theorem ok_words (T : Txt K mg a) : FnOk P w K mg base CX0 2 a.f_words a.d_words ["_law_deal_here", "_law_many"] (spQ K psWords) := by
  have G_draw : FnOk P w K mg base CX0 1 a.f_draw a.d_draw ["_law_deal_here", "_law_many"] (spQ K psDraw) := draw_q (ok_draw T)
  refine T.F_words.okQ sc_words (fun ts Q h => ?_) (fun cdv A outer s H E hr => ?_)
  · obtain ⟨m, rfl, _⟩ := h; rfl
  · have hu := hu_of hr
    refine ⟨_, _, ((qss_cons (qs_set (i := 2) sc_words.nd rfl (Or.inr rfl) qe_str)
  (qss_cons (qs_set (i := 3) sc_words.nd rfl (Or.inl rfl) (qe_join (QPF.w qe_str) (QPF.w (qe_comp rfl (qi_range1 rfl T.b_range (qa_cons (QPF.w (qe_call G_draw (hr.mono (by omega)) rfl T.m_draw T.F_draw.kp T.b_draw (qa_cons (qv 0) (qa_cons (QPF.w qe_int) (QPAF.w qa_nil))))) (QPAF.w qa_nil))) (N' := ["_law_k", "_law_letters", "_law_deal_here"]) (.own rfl (.got (i := 2) rfl rfl (.inl rfl) (.got (i := 0) rfl rfl (.inl rfl) .nil))) (qb_mk0 (g := (Tg.nm 0)) (fun _ _ _ _ _ => ⟨(pg_name (i := 0) (show (["_law_k", "_law_letters", "_law_deal_here"] : List Str).Nodup from by decide +kernel) rfl (Or.inl rfl)), (QPE.f (qe_ix (qv 1) (QPF.w (qe_call G_draw (hr.mono (by omega)) rfl T.m_draw T.F_draw.kp T.b_draw (qa_cons (qv 2) (qa_cons (QPF.w qe_int) (QPAF.w qa_nil)))))))⟩))))))
  (qss_cons (qs_set (i := 4) sc_words.nd rfl (Or.inl rfl) (qe_call G_draw (hr.mono (by omega)) rfl T.m_draw T.F_draw.kp T.b_draw (qa_cons (qv 0) (qa_cons (QPF.w (qe_add (QPF.w (qe_callB (call_len3 rfl) sim_len (by rfl) T.b_len (by kernel_rfl) (qa_cons (qv 3) (QPAF.w qa_nil)))) (QPF.w qe_int))) (QPAF.w qa_nil)))))
  (qss_cons (qs_set (i := 5) sc_words.nd rfl (Or.inl rfl) (qe_call G_draw (hr.mono (by omega)) rfl T.m_draw T.F_draw.kp T.b_draw (qa_cons (qv 0) (qa_cons (QPF.w qe_int) (QPAF.w qa_nil)))))
  (qss_cons (qs_set (i := 6) sc_words.nd rfl (Or.inl rfl) (qe_lst qa_nil))
  (qss_cons (qs_for (g := (Tg.nm 7)) PassesOwn.never rfl (qj_range1 rfl T.b_range (qa_cons (qv 1) (QPAF.w qa_nil))) (pg_name (i := 7) sc_words.nd rfl (Or.inl rfl))
  (qss_cons (qs_set (i := 8) sc_words.nd rfl (Or.inl rfl) (QPE.f (qe_ix (qv 2) (QPF.w (qe_mod (QPF.w (qe_add (qv 5) (QPF.w (qe_mul (QPF.w qe_int) (qv 7))))) (QPF.w qe_int))))))
  (qss_cons (qs_set (i := 9) sc_words.nd rfl (Or.inl rfl) (qe_add (QPF.w (qe_add (QPF.w (qe_add (QPF.w (qe_add (QPF.w (qe_slice (qv 3) qo_none (qo_some (qv 4)))) (qv 8))) (QPF.w (qe_slice (qv 3) (qo_some (qv 4)) qo_none)))) (QPF.w (qe_mul (QPF.w qe_str) (QPF.w (qe_mod (qv 7) (QPF.w qe_int))))))) (QPF.w (qe_mul (QPF.w qe_str) (QPF.w (qe_fdiv (qv 7) (QPF.w qe_int)))))))
  (qss_cons (qs_if (qt_cmp (op_in2 rfl) sim_in rfl (qv 9) (QPF.w (qe_tup (qa_strs (by rfl)))))
  (qss_one (qs_set (i := 9) sc_words.nd rfl (Or.inl rfl) (qe_add (qv 9) (QPF.w qe_str))))
  qss_nil)
  (qss_cons (qs_if (qt_cmp (op_in2 rfl) sim_in rfl (qv 9) (QPF.w (qe_tup (qa_strs (by rfl)))))
  (qss_one (qs_set (i := 9) sc_words.nd rfl (Or.inl rfl) (qe_add (qv 9) (QPF.w qe_str))))
  qss_nil)
  (qss_one (qs_append (i := 6) (pv 6) (QPE.f (qv 9)))))))))
  (qss_cons (qs_set (i := 10) sc_words.nd rfl (Or.inl rfl) (qe_lst (qa_strs (by rfl))))
  (qss_cons (qs_set (i := 10) sc_words.nd rfl (Or.inl rfl) (qe_add (qv 10) (QPF.w (qe_lst (qa_strs (by rfl))))))
  (qss_cons (qs_set (i := 9) sc_words.nd rfl (Or.inl rfl) (QPE.f (qe_ix (qv 10) (QPF.w (qe_call G_draw (hr.mono (by omega)) rfl T.m_draw T.F_draw.kp T.b_draw (qa_cons (qv 0) (qa_cons (QPF.w qe_int) (QPAF.w qa_nil))))))))
  (qss_cons (qs_if (QPW.pt (qw_and (qt_cmp (op_eq3 hu rfl) sim_eq3 (nomark _) (QPF.w (qe_call G_draw (hr.mono (by omega)) rfl T.m_draw T.F_draw.kp T.b_draw (qa_cons (qv 0) (qa_cons (QPF.w qe_int) (QPAF.w qa_nil))))) (QPF.w qe_int)) (qw_and1 (qt_cmp (op_notIn2 rfl) sim_in rfl (qv 9) (qv 6)))))
  (qss_one (qs_setL (i := 6) (pv 6) (QPF.w (qe_call G_draw (hr.mono (by omega)) rfl T.m_draw T.F_draw.kp T.b_draw (qa_cons (qv 0) (qa_cons (qv 1) (QPAF.w qa_nil))))) (qv 9)))
  qss_nil)
  (qss_one (qs_retO (i := 6) (pv 6)))))))))))))), fun ts Q h => ?_⟩
    obtain ⟨m, rfl, m0, m1, hq⟩ := h
    refine ⟨by decide, by decide, fun n n0 n1 => ⟨by omega, by omega, small1000 (by rw [rng_len]; omega), fun i ys => ∃ cs : List Nat, ys = cs.map (fun c => .s ⟨#[c]⟩) ∧ cs.length = i, ⟨[], rfl, rfl⟩, ?_, ?_⟩⟩
    · rintro i x ys hx ⟨cs, rfl, hc⟩
      obtain ⟨rfl, hi⟩ := rng_at hx
      refine ⟨_, rfl, by decide, by decide, fun r r0 r1 => ⟨by decide +kernel, _, lett_at r0 r1, rfl, ?_⟩⟩
      exact ⟨cs ++ [lett r.toNat], by simp, by simp [hc]⟩
    · rintro ys ⟨cs, rfl, hc⟩
      rw [rng_len] at hc
      have e2 : ((cs.map (fun c => (⟨#[c]⟩ : Str))).map (·.length)).sum = cs.length := by
        clear hc
        induction cs with
        | nil => rfl
        | cons c cs ih => simp only [List.map_cons, List.sum_cons, List.length_cons, ih, show (⟨#[c]⟩ : Str).length = 1 from rfl]; omega
      refine ⟨cs.map (fun c => (⟨#[c]⟩ : Str)), ?_, ?_, ?_⟩
      · rw [← txs_map, List.map_map]; rfl
      · rw [e2, show (Str.ofString "").length = 0 from by decide +kernel]; omega
      have z := PySem.size_glued (Str.ofString "") (cs.map (fun c => (⟨#[c]⟩ : Str)))
      rw [e2, show (Str.ofString "").length = 0 from by decide +kernel] at z
      have lz : (Txt.join (Str.ofString "") (cs.map (fun c => (⟨#[c]⟩ : Str)))).length ≤ 5 := by
        show (Builtin.Str.glued _ _).length ≤ 5
        omega
      generalize Txt.join (Str.ofString "") (cs.map (fun c => (⟨#[c]⟩ : Str))) = core at lz ⊢
      refine ⟨small_of (by omega), by omega, by omega, fun at_ a0 a1 => ⟨by decide, by decide, fun tn t0 t1 => ?_⟩⟩
      have lc1 : (Txt.slice core none (some at_)).length ≤ 5 := Nat.le_trans (Txt.slice_le _ _ _) lz
      have lc2 : (Txt.slice core (some at_) none).length ≤ 5 := Nat.le_trans (Txt.slice_le _ _ _) lz
      have lx : (Str.ofString "x").length = 1 := by decide +kernel
      have ly : (Str.ofString "y").length = 1 := by decide +kernel
      have lq : (Str.ofString "q").length = 1 := by decide +kernel
      refine ⟨by omega, by omega, fun i q => (∃ o7 o8 o9 L, q = [.r .deal, .r (.i m), .o (.s letters), .o (.s core), .o (.i at_), .o (.i tn), .o (.l L), o7, o8, o9, .no] ∧ L = ((List.range i).map (wordOf kept (Txt.slice core none (some at_)) (Txt.slice core (some at_) none) tn.toNat)).map .s), ⟨_, _, _, _, rfl, rfl⟩, ?_, ?_⟩
      · rintro i x q hx ⟨o7, o8, o9, L, rfl, rfl⟩
        obtain ⟨rfl, hi⟩ := rng_at hx
        have hi : i < 52 := by omega
        have e1 : ∀ c : Nat, (⟨#[c]⟩ : Str).length = 1 := fun _ => rfl
        have eL : lett (((tn + 7 * (0 + (i : Int))) % 26).toNat) = lett (tn.toNat + 7 * i) := by unfold lett; omega
        have r1 := len_repS "x" ((0 + (i : Int)) % 2).toNat
        have r2 := len_repS "y" ((0 + (i : Int)) / 26).toNat
        rw [lx] at r1
        rw [ly] at r2
        refine ⟨_, rfl, .inl ⟨by omega, by omega⟩, (by show (0 : Int) < 26; decide), (by decide +kernel), _, lett_at (mod_lt (by decide)).1 (mod_lt (by decide)).2, rfl, ?_⟩
        refine ⟨small_of (by omega), small_of (by rw [e1]; omega), small_of (by omega), small_of (by rw [Str.length_append, e1]; omega), (by show (0 : Int) < 2; decide), by omega, by omega, by omega, small_of (by rw [Str.length_append, Str.length_append, e1]; omega), ⟨by decide, by decide⟩, by omega, by omega, by omega, small_of (by rw [Str.length_append, Str.length_append, Str.length_append, e1]; omega), ?_⟩
        have eW : Txt.slice core none (some at_) ++ ⟨#[lett (((tn + 7 * (0 + (i : Int))) % 26).toNat)]⟩ ++ Txt.slice core (some at_) none ++ repS "x" ((0 + (i : Int)) % 2).toNat ++ repS "y" ((0 + (i : Int)) / 26).toNat = baseW (Txt.slice core none (some at_)) (Txt.slice core (some at_) none) tn.toNat i := by
          unfold baseW
          rw [eL, show ((0 + (i : Int)) % 2).toNat = i % 2 from by omega, show ((0 + (i : Int)) / 26).toNat = i / 26 from by omega]
        have lW := baseW_len (Txt.slice core none (some at_)) (Txt.slice core (some at_) none) tn.toNat i
        rw [eW]
        have snoc : ∀ z : Str, z = wordOf kept (Txt.slice core none (some at_)) (Txt.slice core (some at_) none) tn.toNat i →
            ((List.range i).map (wordOf kept (Txt.slice core none (some at_)) (Txt.slice core (some at_) none) tn.toNat)).map L2.T.s ++ [L2.T.s z] = ((List.range (i + 1)).map (wordOf kept (Txt.slice core none (some at_)) (Txt.slice core (some at_) none) tn.toNat)).map L2.T.s := fun z hz => by
          subst hz
          rw [List.range_succ]
          simp
        have ln : (((List.range i).map (wordOf kept (Txt.slice core none (some at_)) (Txt.slice core (some at_) none) tn.toNat)).map L2.T.s).length < sizeLine := small1000 (by simp; omega)
        refine ⟨by rfl, ite2 (fun g1 => ?_) (fun g1 => ?_)⟩
        · have g1 : inV (.str (baseW (Txt.slice core none (some at_)) (Txt.slice core (some at_) none) tn.toNat i)) (kept1.map V.str) = true := by rw [← inT_strs]; exact g1
          refine ⟨small_of (by rw [lq]; omega), by rfl, ite2 (fun g2 => ?_) (fun _ => ?_)⟩
          · have g2 : inT (.s (baseW (Txt.slice core none (some at_)) (Txt.slice core (some at_) none) tn.toNat i ++ ("q" : Str))) (kept2.map L2.T.s) = true := g2
            rw [inT_strs, notin2] at g2
            cases g2
          exact ⟨ln, rfl, _, _, _, _, rfl, snoc (baseW (Txt.slice core none (some at_)) (Txt.slice core (some at_) none) tn.toNat i ++ ("q" : Str)) (by unfold wordOf; rw [inV_append, g1, Bool.true_or, if_pos rfl])⟩
        · have g1 : inV (.str (baseW (Txt.slice core none (some at_)) (Txt.slice core (some at_) none) tn.toNat i)) (kept1.map V.str) = false := by
            cases e : inV (.str (baseW (Txt.slice core none (some at_)) (Txt.slice core (some at_) none) tn.toNat i)) (kept1.map V.str) with
            | false => rfl
            | true => rw [← inT_strs] at e; exact absurd e g1
          refine ⟨by rfl, ite2 (fun g2 => ?_) (fun g2 => ?_)⟩
          · have g2 : inV (.str (baseW (Txt.slice core none (some at_)) (Txt.slice core (some at_) none) tn.toNat i)) (kept2.map V.str) = true := by rw [← inT_strs]; exact g2
            exact ⟨small_of (by rw [lq]; omega), ln, rfl, _, _, _, _, rfl, snoc (baseW (Txt.slice core none (some at_)) (Txt.slice core (some at_) none) tn.toNat i ++ ("q" : Str)) (by unfold wordOf; rw [inV_append, g1, g2, Bool.false_or, if_pos rfl])⟩
          · have g2 : inV (.str (baseW (Txt.slice core none (some at_)) (Txt.slice core (some at_) none) tn.toNat i)) (kept2.map V.str) = false := by
              cases e : inV (.str (baseW (Txt.slice core none (some at_)) (Txt.slice core (some at_) none) tn.toNat i)) (kept2.map V.str) with
              | false => rfl
              | true => rw [← inT_strs] at e; exact absurd e g2
            exact ⟨ln, rfl, _, _, _, _, rfl, snoc (baseW (Txt.slice core none (some at_)) (Txt.slice core (some at_) none) tn.toNat i) (by unfold wordOf; rw [inV_append, g1, g2, Bool.false_or, if_neg (by decide), Str.append_empty])⟩
      · rintro q ⟨o7, o8, o9, L, rfl, rfl⟩
        rw [rng_len]
        have nd : ((List.range m.toNat).map (wordOf kept (Txt.slice core none (some at_)) (Txt.slice core (some at_) none) tn.toNat)).Nodup := nodup_range fun i j hi hj hne => wordOf_ne (by omega) (by omega) hne
        have wl : ∀ w ∈ (List.range m.toNat).map (wordOf kept (Txt.slice core none (some at_)) (Txt.slice core (some at_) none) tn.toNat), 1 ≤ w.length ∧ w.length ≤ 20 := fun w hw => by
          obtain ⟨i, hi, rfl⟩ := List.mem_map.mp hw
          exact wordOf_len lc1 lc2 (by have := List.mem_range.mp hi; omega)
        have ll : ((List.range m.toNat).map (wordOf kept (Txt.slice core none (some at_)) (Txt.slice core (some at_) none) tn.toNat)).length = m.toNat := by simp
        generalize (List.range m.toNat).map (wordOf kept (Txt.slice core none (some at_)) (Txt.slice core (some at_) none) tn.toNat) = ws at nd wl ll
        refine ⟨small_of (by decide), by rfl, by rfl, by decide, by decide, fun r r0 r1 => ?_⟩
        obtain ⟨wd, ew, hm⟩ := atT_str (ws := near) r0 r1
        refine ⟨_, ew, rfl, by decide, by decide, fun r3 _ _ => ⟨rfl, ?_⟩⟩
        have done : Q (.l (ws.map .s)) := hq ws (by omega) nd wl
        refine ite2 (fun _ => ?_) (fun _ => iteF done)
        refine ⟨by rw [fls_strs]; rfl, ite2 (fun h2 => ?_) (fun _ => done)⟩
        have hni : wd ∉ ws := inV_not (by rw [← inT_strs]; simpa using h2)
        refine ⟨m0, by omega, fun r4 r40 r41 => ⟨r4.toNat, ?_, ims_strs ws, rfl, ?_⟩⟩
        · unfold ixN
          rw [if_pos r40, if_pos (by rw [List.length_map]; omega)]
        · have z := hq (ws.set r4.toNat wd) (by rw [List.length_set]; omega) (nodup_set nd hni) fun w hw => by
            rcases List.mem_or_eq_of_mem_set hw with z | z
            · exact wl w z
            · rw [z]; exact near_len wd hm
          rw [List.map_set] at z
          exact z
theorem ok_kinds (T : Txt K mg a) : FnOk P w K mg base CX0 2 a.f_kinds a.d_kinds ["_law_deal_here", "_law_words_here"] (spQ K psKinds) := by
  have G_draw : FnOk P w K mg base CX0 1 a.f_draw a.d_draw ["_law_deal_here", "_law_many"] (spQ K psDraw) := draw_q (ok_draw T)
  refine T.F_kinds.okQ sc_kinds (fun ts Q h => ?_) (fun cdv A outer s H E hr => ?_)
  · obtain ⟨ws, rfl, _⟩ := h; rfl
  · have hu := hu_of hr
    refine ⟨_, _, ((qss_cons (qs_set (i := 2) sc_kinds.nd rfl (Or.inl rfl) (qe_call G_draw (hr.mono (by omega)) rfl T.m_draw T.F_draw.kp T.b_draw (qa_cons (qv 0) (qa_cons (QPF.w qe_int) (QPAF.w qa_nil)))))
  (qss_cons (qs_par (i := 3) (j := 4) rfl sc_kinds.nd rfl rfl (by decide) rfl rfl (qe_ix (qv 1) (QPF.w qe_int)) (qe_ix (qv 1) (QPF.w qe_int)) rfl)
  (qss_cons (qs_set (i := 5) sc_kinds.nd rfl (Or.inl rfl) (qe_add (QPF.w (qe_slice (qv 1) (qo_some (QPF.w qe_int)) qo_none)) (QPF.w (qe_slice (qv 1) qo_none (qo_some (QPF.w qe_int))))))
  (qss_cons (qs_if (qt_cmp (op_eq3 hu rfl) sim_eq3 (nomark _) (qv 2) (QPF.w qe_int))
  (qss_one (qs_ret (qe_tup (qa_consF (qe_tup (qa_consF (QPE.f (qv 3)) (qa_consF (qe_tup (qa_consF (qe_tup (qa_consF (QPE.f (qe_ix (qv 5) (QPF.w qe_int))) (qa_consF (qe_tup qa_nil) qa_nil))) (qa_consF (qe_tup (qa_consF (QPE.f (qe_ix (qv 5) (QPF.w qe_int))) (qa_consF (qe_tup (qa_consF (QPE.f (qv 3)) qa_nil)) qa_nil))) qa_nil))) qa_nil))) qa_nil))))
  qss_nil)
  (qss_cons (qs_if (qt_cmp (op_eq3 hu rfl) sim_eq3 (nomark _) (qv 2) (QPF.w qe_int))
  (qss_one (qs_ret (qe_tup (qa_consF (qe_tup (qa_consF (QPE.f (qv 3)) (qa_consF (qe_tup (qa_consF (qe_tup (qa_consF (QPE.f (qe_ix (qv 5) (QPF.w qe_int))) (qa_consF (qe_tup qa_nil) qa_nil))) (qa_consF (qe_tup (qa_consF (QPE.f (qe_ix (qv 5) (QPF.w qe_int))) (qa_consF (qe_tup (qa_consF (QPE.f (qv 3)) qa_nil)) qa_nil))) (qa_consF (qe_tup (qa_consF (QPE.f (qe_ix (qv 5) (QPF.w qe_int))) (qa_consF (qe_tup (qa_consF (QPE.f (qv 3)) qa_nil)) qa_nil))) qa_nil)))) qa_nil))) qa_nil))))
  qss_nil)
  (qss_cons (qs_if (qt_cmp (op_eq3 hu rfl) sim_eq3 (nomark _) (qv 2) (QPF.w qe_int))
  (qss_one (qs_ret (qe_tup (qa_consF (qe_tup (qa_consF (QPE.f (qv 3)) (qa_consF (qe_tup (qa_consF (qe_tup (qa_consF (QPE.f (qe_ix (qv 5) (QPF.w qe_int))) (qa_consF (qe_tup qa_nil) qa_nil))) (qa_consF (qe_tup (qa_consF (QPE.f (qe_ix (qv 5) (QPF.w qe_int))) (qa_consF (qe_tup qa_nil) qa_nil))) qa_nil))) qa_nil))) (qa_consF (qe_tup (qa_consF (QPE.f (qv 4)) (qa_consF (qe_tup (qa_consF (qe_tup (qa_consF (QPE.f (qe_ix (qv 5) (QPF.w qe_int))) (qa_consF (qe_tup qa_nil) qa_nil))) (qa_consF (qe_tup (qa_consF (QPE.f (qe_ix (qv 5) (QPF.w qe_int))) (qa_consF (qe_tup (qa_consF (QPE.f (qv 3)) (qa_consF (QPE.f (qv 4)) qa_nil))) qa_nil))) qa_nil))) qa_nil))) qa_nil)))))
  qss_nil)
  (qss_cons (qs_if (qt_cmp (op_eq3 hu rfl) sim_eq3 (nomark _) (qv 2) (QPF.w qe_int))
  (qss_one (qs_ret (qe_tup (qa_consF (qe_tup (qa_consF (QPE.f (qv 3)) (qa_consF (qe_tup (qa_consF (qe_tup (qa_consF (QPE.f (qe_ix (qv 5) (QPF.w qe_int))) (qa_consF (qe_tup qa_nil) qa_nil))) (qa_consF (qe_tup (qa_consF (QPE.f (qe_ix (qv 5) (QPF.w qe_int))) (qa_consF (qe_tup (qa_consF (QPE.f (qv 3)) (qa_consF (QPE.f (qv 3)) qa_nil))) qa_nil))) qa_nil))) qa_nil))) qa_nil))))
  qss_nil)
  (qss_cons (qs_if (qt_cmp (op_eq3 hu rfl) sim_eq3 (nomark _) (qv 2) (QPF.w qe_int))
  (qss_one (qs_ret (qe_tup (qa_consF (qe_tup (qa_consF (QPE.f (qv 3)) (qa_consF (qe_tup (qa_consF (qe_tup (qa_consF (QPE.f (qe_ix (qv 5) (QPF.w qe_int))) (qa_consF (qe_tup qa_nil) qa_nil))) (qa_consF (qe_tup (qa_consF (QPE.f (qe_ix (qv 5) (QPF.w qe_int))) (qa_consF (qe_tup (qa_consF (QPE.f (qv 4)) qa_nil)) qa_nil))) qa_nil))) qa_nil))) (qa_consF (qe_tup (qa_consF (QPE.f (qv 4)) (qa_consF (qe_tup (qa_consF (qe_tup (qa_consF (QPE.f (qe_ix (qv 5) (QPF.w qe_int))) (qa_consF (qe_tup (qa_consF (QPE.f (qv 3)) qa_nil)) qa_nil))) qa_nil)) qa_nil))) qa_nil)))))
  qss_nil)
  (qss_cons (qs_set (i := 6) sc_kinds.nd rfl (Or.inl rfl) (qe_lst qa_nil))
  (qss_cons (qs_set (i := 7) sc_kinds.nd rfl (Or.inr rfl) (qe_add (QPF.w qe_int) (QPF.w (qe_call G_draw (hr.mono (by omega)) rfl T.m_draw T.F_draw.kp T.b_draw (qa_cons (qv 0) (qa_cons (QPF.w qe_int) (QPAF.w qa_nil)))))))
  (qss_cons (qs_set (i := 8) sc_kinds.nd rfl (Or.inl rfl) qe_int)
  (qss_cons (qs_for (g := (Tg.nm 9)) PassesOwn.never rfl (qj_range1 rfl T.b_range (qa_cons (qv 7) (QPAF.w qa_nil))) (pg_name (i := 9) sc_kinds.nd rfl (Or.inl rfl))
  (qss_cons (qs_set (i := 10) sc_kinds.nd rfl (Or.inl rfl) (qe_lst qa_nil))
  (qss_cons (qs_for (g := (Tg.nm 11)) PassesOwn.never rfl (qj_range1 rfl T.b_range (qa_cons (QPF.w (qe_add (QPF.w qe_int) (QPF.w (qe_call G_draw (hr.mono (by omega)) rfl T.m_draw T.F_draw.kp T.b_draw (qa_cons (qv 0) (qa_cons (qe_ix (QPF.w (qe_lst (qa_consF qe_int (qa_consF qe_int qa_nil)))) (QPF.w (qe_callTy call_int1 sim_int (by rfl) T.b_int (by kernel_rfl) (qa_cons (QPF.w (qe_cmp (op_eq3 hu rfl) sim_eq3 (nomark _) (qv 7) (QPF.w qe_int))) (QPAF.w qa_nil))))) (QPAF.w qa_nil))))))) (QPAF.w qa_nil))) (pg_name (i := 11) sc_kinds.nd rfl (Or.inl rfl))
  (qss_cons (qs_set (i := 12) sc_kinds.nd rfl (Or.inl rfl) (qe_mul (QPF.w (qe_call G_draw (hr.mono (by omega)) rfl T.m_draw T.F_draw.kp T.b_draw (qa_cons (qv 0) (qa_cons (qe_ix (QPF.w (qe_lst (qa_consF qe_int (qa_consF qe_int (qa_consF qe_int qa_nil))))) (QPF.w (qe_call G_draw (hr.mono (by omega)) rfl T.m_draw T.F_draw.kp T.b_draw (qa_cons (qv 0) (qa_cons (QPF.w qe_int) (QPAF.w qa_nil)))))) (QPAF.w qa_nil))))) (QPF.w (qe_callTy call_int1 sim_int (by rfl) T.b_int (by kernel_rfl) (qa_cons (QPF.w (qe_cmp op_gt (sim_I0 (g' := fun i j => .b (decide (j < i))) fun _ _ _ _ => .b _) (nomark _) (QPF.w (qe_add (qv 9) (qv 11))) (QPF.w qe_int))) (QPAF.w qa_nil))))))
  (qss_cons (qs_comp (i := 13) sc_kinds.nd rfl (Or.inl rfl) rfl (qi_range1 rfl T.b_range (qa_cons (qv 12) (QPAF.w qa_nil))) (N' := ["_law_i", "_law_words_here", "_law_deal_here", "_law_many"]) (.own rfl (.got (i := 1) rfl rfl (.inl rfl) (.got (i := 0) rfl rfl (.inl rfl) (.got (i := 7) rfl rfl (.inl rfl) .nil)))) (qb_mk0 (g := (Tg.nm 0)) (fun _ _ _ _ _ => ⟨(pg_name (i := 0) (show (["_law_i", "_law_words_here", "_law_deal_here", "_law_many"] : List Str).Nodup from by decide +kernel) rfl (Or.inl rfl)), (QPE.f (qe_ix (qv 1) (QPF.w (qe_call G_draw (hr.mono (by omega)) rfl T.m_draw T.F_draw.kp T.b_draw (qa_cons (qv 2) (qa_cons (qv 3) (QPAF.w qa_nil)))))))⟩)))
  (qss_cons (qs_append (i := 10) (pv 10) (qe_tup (qa_consF (QPE.f (qe_ix (qv 5) (qv 8))) (qa_consF (qe_callTy (call_tupK rfl) sim_totup (by rfl) T.b_tuple (by kernel_rfl) (qa_cons (qv 13) (QPAF.w qa_nil))) qa_nil))))
  (qss_one (qs_set (i := 8) sc_kinds.nd rfl (Or.inl rfl) (qe_add (qv 8) (QPF.w qe_int))))))))
  (qss_one (qs_append (i := 6) (pv 6) (qe_tup (qa_consF (QPE.f (qe_ix (qv 1) (qv 9))) (qa_consF (qe_callTy (call_tupK rfl) sim_totup (by rfl) T.b_tuple (by kernel_rfl) (qa_cons (qv 10) (QPAF.w qa_nil))) qa_nil))))))))
  (qss_one (qs_ret (qe_callTy (call_tupK rfl) sim_totup (by rfl) T.b_tuple (by kernel_rfl) (qa_cons (qv 6) (QPAF.w qa_nil)))))))))))))))))), fun ts Q h => ?_⟩
    obtain ⟨ws, rfl, hl, hnd, hq⟩ := h
    obtain ⟨x0, x1, wr, rfl⟩ : ∃ x0 x1 wr, ws = x0 :: x1 :: wr := by
      match ws, hl with
      | x0 :: x1 :: wr, _ => exact ⟨x0, x1, wr, rfl⟩
    have at0 : atI ((x0 :: x1 :: wr).map L2.T.s) 0 = some (.s x0) := ix_of (j := 0) rfl
    have at1 : atI ((x0 :: x1 :: wr).map L2.T.s) 1 = some (.s x1) := ix_of (j := 1) rfl
    refine ⟨by decide, by decide, fun fm f0 f1 => ⟨_, at0, rfl, _, at1, rfl, ims_strs _, ims_strs _, ?_⟩⟩
    have hM : ((x0 :: x1 :: wr).drop 4 ++ (x0 :: x1 :: wr).take 4).Nodup := rot_nodup hnd
    have lM : ((x0 :: x1 :: wr).drop 4 ++ (x0 :: x1 :: wr).take 4).length = 30 := by rw [List.length_append, List.length_drop, List.length_take]; omega
    refine ⟨small_of (by have := congrArg List.length (cut4 hl); rw [List.length_append, List.length_map] at this; omega), ims_cut _ _ _, ims_cut _ _ _, ?_⟩
    rw [cut4 hl]
    have hMw : ∀ x ∈ (x0 :: x1 :: wr).drop 4 ++ (x0 :: x1 :: wr).take 4, x ∈ x0 :: x1 :: wr := fun x hx => (List.mem_append.mp hx).elim List.mem_of_mem_drop List.mem_of_mem_take
    generalize (x0 :: x1 :: wr).drop 4 ++ (x0 :: x1 :: wr).take 4 = M at hM lM hMw
    obtain ⟨m0, m1, m2, m3, mr, rfl⟩ : ∃ m0 m1 m2 m3 mr, M = m0 :: m1 :: m2 :: m3 :: mr := by
      match M, lM with
      | m0 :: m1 :: m2 :: m3 :: mr, _ => exact ⟨m0, m1, m2, m3, mr, rfl⟩
    have t0 : atI ((m0 :: m1 :: m2 :: m3 :: mr).map L2.T.s) 0 = some (.s m0) := ix_of (j := 0) rfl
    have t1 : atI ((m0 :: m1 :: m2 :: m3 :: mr).map L2.T.s) 1 = some (.s m1) := ix_of (j := 1) rfl
    have t2 : atI ((m0 :: m1 :: m2 :: m3 :: mr).map L2.T.s) 2 = some (.s m2) := ix_of (j := 2) rfl
    have t3 : atI ((m0 :: m1 :: m2 :: m3 :: mr).map L2.T.s) 3 = some (.s m3) := ix_of (j := 3) rfl
    have n01 : x0 ≠ x1 := fun z => by simp [z] at hnd
    have hmn : m0 ≠ m1 ∧ m0 ≠ m2 ∧ m0 ≠ m3 ∧ m1 ≠ m2 ∧ m1 ≠ m3 ∧ m2 ≠ m3 := by
      simp only [List.nodup_cons, List.mem_cons, not_or] at hM
      exact ⟨hM.1.1, hM.1.2.1, hM.1.2.2.1, hM.2.1.1, hM.2.1.2.1, hM.2.2.1.1⟩
    obtain ⟨u1, u2, u3, u4, u5, u6⟩ := hmn
    refine ⟨rfl, ite2 (fun _ => ?_) (fun _ => ?_)⟩
    · refine ⟨rfl, _, t0, rfl, _, t1, rfl, rfl, ?_⟩
      exact hq [(x0, [(m0, []), (m1, [x0])])] (by refine ⟨by simp, by simp, by simp [u1], by simp [names, u1], by simp, ?_⟩; simp only [List.mem_cons, List.not_mem_nil, or_false, forall_eq_or_imp, forall_eq]; simp) fun x hx => hMw x (List.mem_append_left (m2 :: m3 :: mr) (show x ∈ [m0, m1] from hx))
    refine ⟨rfl, ite2 (fun _ => ?_) (fun _ => ?_)⟩
    · refine ⟨rfl, _, t0, rfl, _, t1, rfl, rfl, _, t2, rfl, rfl, ?_⟩
      exact hq [(x0, [(m0, []), (m1, [x0]), (m2, [x0])])] (by refine ⟨by simp, by simp, by simp [u1, u2, u4], by simp [names, u1, u2, u4], by simp, ?_⟩; simp only [List.mem_cons, List.not_mem_nil, or_false, forall_eq_or_imp, forall_eq]; simp) fun x hx => hMw x (List.mem_append_left (m3 :: mr) (show x ∈ [m0, m1, m2] from hx))
    refine ⟨rfl, ite2 (fun _ => ?_) (fun _ => ?_)⟩
    · refine ⟨rfl, _, t0, rfl, _, t1, rfl, rfl, _, t2, rfl, _, t3, rfl, rfl, rfl, ?_⟩
      exact hq [(x0, [(m0, []), (m1, [])]), (x1, [(m2, []), (m3, [x0, x1])])] (by refine ⟨by simp, by simp, by simp [n01, u1, u2, u3, u4, u5, u6], by simp [names, n01, u1, u2, u3, u4, u5, u6], by simp, ?_⟩; simp only [List.mem_cons, List.not_mem_nil, or_false, forall_eq_or_imp, forall_eq]; simp) fun x hx => hMw x (List.mem_append_left (mr) (show x ∈ [m0, m1, m2, m3] from hx))
    refine ⟨rfl, ite2 (fun _ => ?_) (fun _ => ?_)⟩
    · refine ⟨rfl, _, t0, rfl, _, t1, rfl, rfl, rfl, ?_⟩
      exact hq [(x0, [(m0, []), (m1, [x0, x0])])] (by refine ⟨by simp, by simp, by simp [u1], by simp [names, u1], by simp, ?_⟩; simp only [List.mem_cons, List.not_mem_nil, or_false, forall_eq_or_imp, forall_eq]; simp) fun x hx => hMw x (List.mem_append_left (m2 :: m3 :: mr) (show x ∈ [m0, m1] from hx))
    refine ⟨rfl, ite2 (fun _ => ?_) (fun _ => ?_)⟩
    · refine ⟨rfl, _, t0, rfl, _, t1, rfl, rfl, rfl, _, t2, rfl, rfl, ?_⟩
      exact hq [(x0, [(m0, []), (m1, [x1])]), (x1, [(m2, [x0])])] (by refine ⟨by simp, by simp, by simp [n01, u1, u2, u4], by simp [names, n01, u1, u2, u4], by simp, ?_⟩; simp only [List.mem_cons, List.not_mem_nil, or_false, forall_eq_or_imp, forall_eq]; simp) fun x hx => hMw x (List.mem_append_left (m3 :: mr) (show x ∈ [m0, m1, m2] from hx))
    clear t0 t1 t2 t3 n01 u1 u2 u3 u4 u5 u6 at0 at1
    generalize hMM : m0 :: m1 :: m2 :: m3 :: mr = M at hM lM hMw ⊢
    generalize hWW : x0 :: x1 :: wr = ws at hnd hl hMw hq ⊢
    refine ⟨by decide, by decide, fun r2 r20 r21 => ?_⟩
    refine ⟨by omega, by omega, fun i q => ∃ ks made L o9 o10 o11 o12 o13, q = [.r .deal, .r (.l (ws.map .s)), .o (.i fm), .o (.s x0), .o (.s x1), .o (.l (M.map .s)), .o (.l L), .o (.i (1 + r2)), .o (.i (made : Nat)), o9, o10, o11, o12, o13] ∧ L = ks.map tK ∧ MadeK ws M (1 + r2).toNat ks i made,
      ⟨[], 0, _, _, _, _, _, _, rfl, rfl, ⟨rfl, rfl, Nat.le_refl _, (fun _ z => nomatch z), (fun _ z => nomatch z)⟩⟩, ?_, ?_⟩
    · rintro i x q hx ⟨ks, made, L, o9, o10, o11, o12, o13, rfl, rfl, D⟩
      obtain ⟨rfl, hi⟩ := rng_at hx
      have hb1 := D.b1
      have lks : ks.length = i := by
        have := congrArg List.length D.nm
        rw [List.length_map, List.length_take] at this
        omega
      have hwi : i < ws.length := by omega
      refine ⟨_, rfl, rfl, _, pick2 3 6 _, ?_, ?_, fun r5 r50 r51 => ?_⟩
      · split <;> decide
      · split <;> decide
      have r5b : r5 < 6 := by split at r51 <;> omega
      refine ⟨by omega, by omega, fun j q => ∃ ms made' L' o11 o12 o13, q = [.r .deal, .r (.l (ws.map .s)), .o (.i fm), .o (.s x0), .o (.s x1), .o (.l (M.map .s)), .o (.l (ks.map tK)), .o (.i (1 + r2)), .o (.i (made' : Nat)), .r (.i (0 + (i : Nat))), .o (.l L'), o11, o12, o13] ∧ L' = ms.map tM ∧ ms.length = j ∧ made' = made + j ∧ M.take made ++ ms.map (·.1) = M.take made' ∧ (∀ m ∈ ms, m.2.length ≤ 4 ∧ ∀ f ∈ m.2, f ∈ ws.take (1 + r2).toNat),
        ⟨[], made, _, _, _, _, rfl, rfl, rfl, rfl, by simp, fun _ z => nomatch z⟩, ?_, ?_⟩
      · rintro j x q hx ⟨ms, made', L', o11, o12, o13, rfl, rfl, lms, emd, hmd, hfl⟩
        obtain ⟨rfl, hj⟩ := rng_at hx
        refine ⟨_, rfl, by decide, by decide, fun r6 r60 r61 => ?_⟩
        obtain ⟨v, ev, hv⟩ := pick3 (x := 3) (y := 3) (z := 5) r60 r61
        refine ⟨_, ev, by omega, by omega, fun r7 r70 r71 => ?_⟩
        refine ⟨.inl ⟨by omega, by omega⟩, ?_⟩
        have hwd : ∀ b : Bool, 0 ≤ r7 * (if b = true then 1 else 0) ∧ r7 * (if b = true then 1 else 0) ≤ 4 := fun b => by cases b <;> simp <;> omega
        obtain ⟨w0, w4⟩ := hwd (decide (0 < 0 + (i : Int) + (0 + (j : Int))))
        generalize hwv : r7 * (if decide (0 < 0 + (i : Int) + (0 + (j : Int))) = true then 1 else 0) = wide at w0 w4 ⊢
        refine ⟨by omega, by omega, small1000 (by rw [rng_len]; omega), fun p ys => ∃ fs : List Str, ys = fs.map .s ∧ fs.length = p ∧ ∀ f ∈ fs, f ∈ ws.take (1 + r2).toNat, ⟨[], rfl, rfl, fun _ z => nomatch z⟩, ?_, ?_⟩
        · rintro p x ys hx ⟨fs, rfl, lf, hf⟩
          obtain ⟨rfl, hp⟩ := rng_at hx
          refine ⟨_, rfl, by omega, by omega, fun r8 r80 r81 => ?_⟩
          have h8 : r8.toNat < ws.length := by omega
          have e8 : atI (ws.map L2.T.s) r8 = some (.s ws[r8.toNat]) := by
            have := ix_of (ws := ws) (j := r8.toNat) (w := ws[r8.toNat]) (by simp [h8])
            rwa [Int.toNat_of_nonneg r80] at this
          refine ⟨_, e8, rfl, fs ++ [ws[r8.toNat]], by simp, by simp [lf], fun f hff => ?_⟩
          rcases List.mem_append.mp hff with h | h
          · exact hf f h
          · rw [List.mem_singleton.mp h]
            exact List.mem_take_iff_getElem.mpr ⟨r8.toNat, by omega, rfl⟩
        · rintro ys ⟨fs, rfl, lf, hf⟩
          rw [rng_len] at lf
          have hmd30 : made' < M.length := by omega
          have em : atI (M.map L2.T.s) ((made' : Nat) : Int) = some (.s M[made']) := ix_of (by simp [hmd30])
          refine ⟨small1000 (by rw [List.length_map]; omega), _, em, rfl, ims_strs _, ?_⟩
          refine ⟨ms ++ [(M[made'], fs)], made' + 1, _, _, _, _, rfl, by simp [tM], by simp [lms], by omega, ?_, fun m hm => ?_⟩
          · rw [List.map_append, ← List.append_assoc, hmd]
            exact take_one (by simp [hmd30])
          · rcases List.mem_append.mp hm with h | h
            · exact hfl m h
            · rw [List.mem_singleton.mp h]
              exact ⟨by show fs.length ≤ 4; omega, hf⟩
      · rintro q ⟨ms, made', L', o11, o12, o13, rfl, rfl, lms, emd, hmd, hfl⟩
        rw [rng_len] at lms emd
        have ei : atI (ws.map L2.T.s) (0 + ((i : Nat) : Int)) = some (.s ws[i]) := by rw [Int.zero_add]; exact ix_of (by simp [hwi])
        refine ⟨small1000 (by rw [List.length_map]; omega), _, ei, rfl, ims_map im_tM _, ?_⟩
        refine ⟨ks ++ [(ws[i], ms)], made', _, _, _, _, _, _, rfl, by simp [tK, tMs], D.next (by simp [hwi]) hmd (fun z => ?_) (by omega) (by omega) hfl⟩
        rw [z] at lms
        simp at lms
        omega
    · rintro q ⟨ks, made, L, o9, o10, o11, o12, o13, rfl, rfl, D⟩
      rw [rng_len] at D
      refine ⟨ims_map im_tK _, ?_⟩
      exact hq ks (D.good hnd hM (by omega) (by omega) (by omega)) fun x hx => hMw x (List.mem_of_mem_take (D.mn ▸ hx))
theorem ok_leasts (T : Txt K mg a) : FnOk P w K mg base CX0 1 a.f_leasts a.d_leasts ["_law_kinds_here"] (spQ K psLeasts) := by
  refine T.F_leasts.okQ sc_leasts (fun ts Q h => ?_) (fun cdv A outer s H E hr => ?_)
  · obtain ⟨ks, rfl, _⟩ := h; rfl
  · have hu := hu_of hr
    refine ⟨_, _, ((qss_cons (qs_set (i := 1) sc_leasts.nd rfl (Or.inr rfl) qe_dnew)
  (qss_cons (qs_for (g := (Tg.nm 2)) PassesOwn.never rfl (qj_range1 rfl T.b_range (qa_cons (QPF.w (qe_add (QPF.w (qe_callB (call_len3 rfl) sim_len (by rfl) T.b_len (by kernel_rfl) (qa_cons (qv 0) (QPAF.w qa_nil)))) (QPF.w qe_int))) (QPAF.w qa_nil))) (pg_name (i := 2) sc_leasts.nd rfl (Or.inl rfl))
  (qss_one (qs_for (g := (Tg.tp [3, 4])) PassesOwn.never rfl (qj_tup (QPE.f (qv 0))) (pg_tupK (K := K) (n := 2) rfl rfl (pgs_cons (pg_name (i := 3) sc_leasts.nd rfl (Or.inl rfl)) (pgs_cons (pg_name (i := 4) sc_leasts.nd rfl (Or.inl rfl)) pgs_nil)))
  (qss_one (qs_for (g := (Tg.tp [5, 6])) PassesOwn.never rfl (qj_tup (QPE.f (qv 4))) (pg_tupK (K := K) (n := 2) rfl rfl (pgs_cons (pg_name (i := 5) sc_leasts.nd rfl (Or.inl rfl)) (pgs_cons (pg_name (i := 6) sc_leasts.nd rfl (Or.inl rfl)) pgs_nil)))
  (qss_one (qs_if (qt_truth (QPF.w (qe_callB (call_allK rfl rfl) sim_all (by rfl) T.b_all (by kernel_rfl) (qa_cons (QPF.w (qe_comp rfl (qi_tup (qv 6)) (N' := ["_law_field", "_law_found"]) (.own rfl (.got (i := 1) rfl rfl (.inl rfl) .nil)) (qb_mk0 (g := (Tg.nm 0)) (fun _ _ _ _ _ => ⟨(pg_name (i := 0) (show (["_law_field", "_law_found"] : List Str).Nodup from by decide +kernel) rfl (Or.inl rfl)), (qe_cmp (op_din hu) sim_din rfl (qv 0) (qv 1))⟩)))) (QPAF.w qa_nil)))))
  (qss_cons (qs_set (i := 7) sc_leasts.nd rfl (Or.inl rfl) (qe_add (QPF.w qe_int) (QPF.w (qe_callB (call_sumK rfl rfl) sim_sum (by rfl) T.b_sum (by kernel_rfl) (qa_cons (QPF.w (qe_comp rfl (qi_tup (qv 6)) (N' := ["_law_field", "_law_found"]) (.own rfl (.got (i := 1) rfl rfl (.inl rfl) .nil)) (qb_mk0 (g := (Tg.nm 0)) (fun _ _ _ _ _ => ⟨(pg_name (i := 0) (show (["_law_field", "_law_found"] : List Str).Nodup from by decide +kernel) rfl (Or.inl rfl)), (QPE.f (qe_ixd (qv 1) (qv 0)))⟩)))) (QPAF.w qa_nil))))))
  (qss_one (qs_put (i := 1) hu (pv 1) (qv 3) (QPF.w (qe_callB (call_min2 rfl) sim_i2 (by rfl) T.b_min (by kernel_rfl) (qa_cons (qe_get2 hu (qv 1) (qv 3) (qv 7)) (qa_cons (qv 7) (QPAF.w qa_nil))))))))
  qss_nil)))))))
  (qss_one (qs_retO (i := 1) (pv 1)))))), fun ts Q h => ?_⟩
    obtain ⟨ks, rfl, gk, hq⟩ := h
    have := gk.k1
    have := gk.k2
    refine ⟨?_, ?_, fun i q => (∃ ds o2 o3 o4 o5 o6 o7, q = [.r (tKs ks), .o (dT ds), o2, o3, o4, o5, o6, o7] ∧ LInv ks ds ∧ (1 ≤ i → ∀ kd ∈ ks, ∀ m ∈ kd.2, Zd ds kd.1 m)), ⟨[], _, _, _, _, _, _, rfl, LInv.nil ks, fun z => absurd z (by omega)⟩, ?_, ?_⟩
    · rw [List.length_map]; omega
    · rw [List.length_map]; omega
    · rintro i x q hx ⟨ds, o2, o3, o4, o5, o6, o7, rfl, hI, hZ⟩
      obtain ⟨rfl, hi⟩ := rng_at hx
      refine ⟨_, rfl, ?_⟩
      refine ⟨im_tKs ks, fun j q => (∃ ds o2 o3 o4 o5 o6 o7, q = [.r (tKs ks), .o (dT ds), o2, o3, o4, o5, o6, o7] ∧ LInv ks ds ∧ ∀ j' kd, j' < j → ks[j']? = some kd → ∀ m ∈ kd.2, Zd ds kd.1 m), ⟨ds, _, _, _, _, _, _, rfl, hI, fun _ _ z => absurd z (by omega)⟩, ?_, ?_⟩
      · rintro j x q hx ⟨ds, o2, o3, o4, o5, o6, o7, rfl, hI, hZ⟩
        rw [List.getElem?_map] at hx
        obtain ⟨kd, hk, rfl⟩ := Option.map_eq_some_iff.mp hx
        refine ⟨_, rfl, ?_⟩
        refine ⟨im_tMs _, fun l q => (∃ ds o2 o5 o6 o7, q = [.r (tKs ks), .o (dT ds), o2, .r (.s kd.1), .r (tMs kd.2), o5, o6, o7] ∧ LInv ks ds ∧ (∀ j' kd, j' < j → ks[j']? = some kd → ∀ m ∈ kd.2, Zd ds kd.1 m) ∧ ∀ l' m, l' < l → kd.2[l']? = some m → Zd ds kd.1 m), ⟨ds, _, _, _, _, rfl, hI, hZ, fun _ _ z => absurd z (by omega)⟩, ?_, ?_⟩
        · rintro l x q hx ⟨ds, o2, o5, o6, o7, rfl, hI, hZ, hL⟩
          rw [List.getElem?_map] at hx
          obtain ⟨m, hm, rfl⟩ := Option.map_eq_some_iff.mp hx
          refine ⟨_, rfl, ?_⟩
          have f4 := gk.fl kd (List.mem_of_getElem? hk) m (List.mem_of_getElem? hm)
          refine ⟨small1000 (by rw [List.length_map]; omega), fun i ys => ys = (m.2.take i).map fun f => .b (lk ds f).isSome, rfl, ?_, ?_⟩
          · rintro i x ys hx rfl
            rw [List.getElem?_map] at hx
            obtain ⟨f, hf, rfl⟩ := Option.map_eq_some_iff.mp hx
            refine ⟨_, rfl, ?_⟩
            show _ ++ [L2.T.b (lookT (ds.map dEn) (.inr f)).isSome] = _
            rw [look_dT, ← take_one hf, List.map_append, Option.isSome_map]
            rfl
          · rintro ys rfl
            rw [List.length_map, List.take_length]
            refine ⟨_, bls_map _ _, ?_⟩
            refine ite2 (fun g1 => ?_) (fun g1 => ?_)
            · have g1 : ∀ f ∈ m.2, (lk ds f).isSome = true := by simpa using g1
              refine ⟨small1000 (by rw [List.length_map]; omega), fun i ys => ys = (m.2.take i).map fun f => .i ((lk ds f).getD 0), rfl, ?_, ?_⟩
              · rintro i x ys hx rfl
                rw [List.getElem?_map] at hx
                obtain ⟨f, hf, rfl⟩ := Option.map_eq_some_iff.mp hx
                obtain ⟨u, hu'⟩ := Option.isSome_iff_exists.mp (g1 f (List.mem_of_getElem? hf))
                refine ⟨_, rfl, .i u, by rw [look_dT, hu']; rfl, rfl, ?_⟩
                show _ ++ [L2.T.i u] = _
                rw [← take_one hf, List.map_append, List.map_singleton, hu']
                rfl
              · rintro ys rfl
                rw [List.length_map, List.take_length]
                refine ⟨_, ins_map _ _, ?_⟩
                have lI := hI.len gk
                refine rd_add ?_
                dsimp only
                refine rd_putmin (ds := ds) (k := kd.1) (n := 1 + sumL ds m.2) (v := min ((lk ds kd.1).getD (1 + sumL ds m.2)) (1 + sumL ds m.2)) rfl rfl rfl (small1000 (by omega)) ?_ ?_
                · exact min_if _ _
                refine ⟨_, _, _, _, _, rfl, hI.put (List.mem_map.mpr ⟨kd, List.mem_of_getElem? hk, rfl⟩) (by rw [mkOf_mem gk.nd hk]; exact List.mem_of_getElem? hm) f4.1 g1 rfl, fun j' kd' hj hk' m' hm' => (hZ j' kd' hj hk' m' hm').put _ _, fun l' m' hl' hm' => ?_⟩
                · by_cases e : l' = l
                  · intro _
                    rw [lk_put, if_pos rfl]
                    rfl
                  · exact (hL l' m' (by omega) hm').put _ _
            · refine ⟨ds, _, _, _, _, rfl, hI, hZ, fun l' m' hl' hm' => ?_⟩
              by_cases e : l' = l
              · subst e
                rw [hm] at hm'
                cases hm'
                intro e0
                rw [e0] at g1
                exact absurd rfl g1
              · exact hL l' m' (by omega) hm'
        · rintro q ⟨ds, o2, o5, o6, o7, rfl, hI, hZ, hL⟩
          refine ⟨ds, _, _, _, _, _, _, rfl, hI, fun j' kd' hj hk' m hm => ?_⟩
          by_cases e : j' = j
          · subst e
            rw [hk] at hk'
            cases hk'
            obtain ⟨l, hl⟩ := List.getElem?_of_mem hm
            exact hL l m (by have := (List.getElem?_eq_some_iff.mp hl).1; rw [List.length_map]; omega) hl
          · exact hZ j' kd' (by omega) hk' m hm
      · rintro q ⟨ds, o2, o3, o4, o5, o6, o7, rfl, hI, hZ⟩
        refine ⟨ds, _, _, _, _, _, _, rfl, hI, fun _ kd hk m hm => ?_⟩
        obtain ⟨l, hl⟩ := List.getElem?_of_mem hk
        exact hZ l kd (by have := (List.getElem?_eq_some_iff.mp hl).1; rw [List.length_map]; omega) hl m hm
    · rintro q ⟨ds, o2, o3, o4, o5, o6, o7, rfl, hI, hZ⟩
      rw [rng_len] at hZ
      exact hq ds hI (hZ (by omega))
theorem ok_value (T : Txt K mg a) (n : Nat) : FnOk P w K mg base CX0 (n + 2) a.f_value a.d_value ["_law_deal_here", "_law_kinds_here", "_law_leasts_here", "_law_kind", "_law_room"] (spQ K (psValue n)) := by
  induction n with
  | zero =>
    refine never fun ts Q ⟨ks, ds, k, room, v, _, _, hI, hv, h1, h2, _⟩ => ?_
    have := (hI.bd _ (lk_mem hv)).1
    simp only at this
    omega
  | succ n G_value =>
    have G_draw : FnOk P w K mg base CX0 1 a.f_draw a.d_draw ["_law_deal_here", "_law_many"] (spQ K psDraw) := draw_q (ok_draw T)
    refine T.F_value.okQ sc_value (fun ts Q h => ?_) (fun cdv A outer s H E hr => ?_)
    · obtain ⟨ks, ds, k, room, v, rfl, _⟩ := h; rfl
    · have hu := hu_of hr
      refine ⟨_, _, ((qss_cons (qs_set (i := 5) sc_value.nd rfl (Or.inl rfl) (qe_lst qa_nil))
  (qss_cons (qs_for (g := (Tg.tp [6, 7])) PassesOwn.never rfl (qj_tup (QPE.f (qe_ixd (QPF.w (qe_callTy (call_dict_of rfl) sim_dictof (by rfl) T.b_dict (by kernel_rfl) (qa_cons (qv 1) (QPAF.w qa_nil)))) (qv 3)))) (pg_tupK (K := K) (n := 2) rfl rfl (pgs_cons (pg_name (i := 6) sc_value.nd rfl (Or.inl rfl)) (pgs_cons (pg_name (i := 7) sc_value.nd rfl (Or.inl rfl)) pgs_nil)))
  (qss_one (qs_if (qt_truth (QPF.w (qe_callB (call_allK rfl rfl) sim_all (by rfl) T.b_all (by kernel_rfl) (qa_cons (QPF.w (qe_comp rfl (qi_tup (qv 7)) (N' := ["_law_field", "_law_leasts_here"]) (.own rfl (.got (i := 2) rfl rfl (.inl rfl) .nil)) (qb_mk0 (g := (Tg.nm 0)) (fun _ _ _ _ _ => ⟨(pg_name (i := 0) (show (["_law_field", "_law_leasts_here"] : List Str).Nodup from by decide +kernel) rfl (Or.inl rfl)), (qe_cmp (op_din hu) sim_din rfl (qv 0) (qv 1))⟩)))) (QPAF.w qa_nil)))))
  (qss_one (qs_if (qt_cmp op_le (sim_I0 (g' := fun i j => .b (decide (i ≤ j))) fun _ _ _ _ => .b _) (nomark _) (QPF.w (qe_add (QPF.w qe_int) (QPF.w (qe_callB (call_sumK rfl rfl) sim_sum (by rfl) T.b_sum (by kernel_rfl) (qa_cons (QPF.w (qe_comp rfl (qi_tup (qv 7)) (N' := ["_law_field", "_law_leasts_here"]) (.own rfl (.got (i := 2) rfl rfl (.inl rfl) .nil)) (qb_mk0 (g := (Tg.nm 0)) (fun _ _ _ _ _ => ⟨(pg_name (i := 0) (show (["_law_field", "_law_leasts_here"] : List Str).Nodup from by decide +kernel) rfl (Or.inl rfl)), (QPE.f (qe_ixd (qv 1) (qv 0)))⟩)))) (QPAF.w qa_nil)))))) (qv 4))
  (qss_one (qs_append (i := 5) (pv 5) (qe_tup (qa_consF (QPE.f (qv 6)) (qa_consF (QPE.f (qv 7)) qa_nil)))))
  qss_nil))
  qss_nil)))
  (qss_cons (qs_unp (g := (Tg.tp [6, 7])) (qe_ix (qv 5) (QPF.w (qe_callB (call_max2 rfl) sim_i2 (by rfl) T.b_max (by kernel_rfl) (qa_cons (QPF.w (qe_call G_draw (hr.mono (by omega)) rfl T.m_draw T.F_draw.kp T.b_draw (qa_cons (qv 0) (qa_cons (QPF.w (qe_callB (call_len3 rfl) sim_len (by rfl) T.b_len (by kernel_rfl) (qa_cons (qv 5) (QPAF.w qa_nil)))) (QPAF.w qa_nil))))) (qa_cons (QPF.w (qe_call G_draw (hr.mono (by omega)) rfl T.m_draw T.F_draw.kp T.b_draw (qa_cons (qv 0) (qa_cons (QPF.w (qe_callB (call_len3 rfl) sim_len (by rfl) T.b_len (by kernel_rfl) (qa_cons (qv 5) (QPAF.w qa_nil)))) (QPAF.w qa_nil))))) (QPAF.w qa_nil)))))) (pg_tupK (K := K) (n := 2) rfl rfl (pgs_cons (pg_name (i := 6) sc_value.nd rfl (Or.inl rfl)) (pgs_cons (pg_name (i := 7) sc_value.nd rfl (Or.inl rfl)) pgs_nil))))
  (qss_cons (qs_set (i := 8) sc_value.nd rfl (Or.inl rfl) (qe_sub (QPF.w (qe_sub (qv 4) (QPF.w qe_int))) (QPF.w (qe_callB (call_sumK rfl rfl) sim_sum (by rfl) T.b_sum (by kernel_rfl) (qa_cons (QPF.w (qe_comp rfl (qi_tup (qv 7)) (N' := ["_law_field", "_law_leasts_here"]) (.own rfl (.got (i := 2) rfl rfl (.inl rfl) .nil)) (qb_mk0 (g := (Tg.nm 0)) (fun _ _ _ _ _ => ⟨(pg_name (i := 0) (show (["_law_field", "_law_leasts_here"] : List Str).Nodup from by decide +kernel) rfl (Or.inl rfl)), (QPE.f (qe_ixd (qv 1) (qv 0)))⟩)))) (QPAF.w qa_nil))))))
  (qss_cons (qs_set (i := 9) sc_value.nd rfl (Or.inl rfl) (qe_lst qa_nil))
  (qss_cons (qs_for (g := (Tg.nm 10)) PassesOwn.never rfl (qj_tup (QPE.f (qv 7))) (pg_name (i := 10) sc_value.nd rfl (Or.inl rfl))
  (qss_cons (qs_set (i := 11) sc_value.nd rfl (Or.inl rfl) (qe_call G_draw (hr.mono (by omega)) rfl T.m_draw T.F_draw.kp T.b_draw (qa_cons (qv 0) (qa_cons (QPF.w (qe_add (qv 8) (QPF.w qe_int))) (QPAF.w qa_nil)))))
  (qss_cons (qs_set (i := 8) sc_value.nd rfl (Or.inl rfl) (qe_sub (qv 8) (qv 11)))
  (qss_one (qs_append (i := 9) (pv 9) (qe_call G_value (hr.mono (by omega)) rfl T.m_value T.F_value.kp T.b_value (qa_cons (qv 0) (qa_cons (qv 1) (qa_cons (qv 2) (qa_cons (qv 10) (qa_cons (QPF.w (qe_add (qe_ixd (qv 2) (qv 10)) (qv 11))) (QPAF.w qa_nil))))))))))))
  (qss_one (qs_ret (qe_tup (qa_consF (QPE.f (qv 6)) (qa_consF (qe_callTy (call_tupK rfl) sim_totup (by rfl) T.b_tuple (by kernel_rfl) (qa_cons (qv 9) (QPAF.w qa_nil))) qa_nil)))))))))))), fun ts Q h => ?_⟩
      obtain ⟨ks, ds, k, room, v, rfl, gk, hI, hv, hvr, hrn, hr1, hq⟩ := h
      have hk : k ∈ ks.map (·.1) := hI.sub _ (lk_mem hv)
      refine ⟨ims_map im_tK ks, _, pairs_tK ks, _, look_dict gk.nd hk, im_tMs _, fun i q => ∃ o6 o7 L, q = [.r .deal, .r (tKs ks), .r (dT ds), .r (.s k), .r (.i room), .o (.l L), o6, o7, .no, .no, .no, .no] ∧ L = (((mkOf ks k).take i).filter (pickB ds room)).map tM, ⟨_, _, _, rfl, rfl⟩, ?_, ?_⟩
      · rintro i x q hx ⟨o6, o7, L, rfl, rfl⟩
        rw [List.getElem?_map] at hx
        obtain ⟨m, hm, rfl⟩ := Option.map_eq_some_iff.mp hx
        refine ⟨_, rfl, ?_⟩
        have mm := List.mem_of_getElem? hm
        obtain ⟨f4, ff, m6⟩ := gk.ma mm
        have sn : ((mkOf ks k).take (i + 1)).filter (pickB ds room) = ((mkOf ks k).take i).filter (pickB ds room) ++ if pickB ds room m = true then [m] else [] := by
          rw [take_one' hm, List.filter_append]
          congr 1
          by_cases e : pickB ds room m = true
          · rw [if_pos e, List.filter_cons_of_pos e]; rfl
          · rw [if_neg e, List.filter_cons_of_neg e]; rfl
        refine ⟨small1000 (by rw [List.length_map]; omega), fun i ys => ys = (m.2.take i).map fun f => .b (lk ds f).isSome, rfl, ?_, ?_⟩
        · rintro i x ys hx rfl
          rw [List.getElem?_map] at hx
          obtain ⟨f, hf, rfl⟩ := Option.map_eq_some_iff.mp hx
          refine ⟨_, rfl, ?_⟩
          show _ ++ [L2.T.b (lookT (ds.map dEn) (.inr f)).isSome] = _
          rw [look_dT, ← take_one hf, List.map_append, Option.isSome_map]
          rfl
        · rintro ys rfl
          rw [List.length_map, List.take_length]
          refine ⟨_, bls_map _ _, ?_⟩
          refine ite2 (fun g1 => ?_) (fun g1 => ?_)
          · have g0 : ∀ f ∈ m.2, (lk ds f).isSome = true := by simpa using g1
            refine ⟨small1000 (by rw [List.length_map]; omega), fun i ys => ys = (m.2.take i).map fun f => .i ((lk ds f).getD 0), rfl, ?_, ?_⟩
            · rintro i x ys hx rfl
              rw [List.getElem?_map] at hx
              obtain ⟨f, hf, rfl⟩ := Option.map_eq_some_iff.mp hx
              obtain ⟨u, hu'⟩ := Option.isSome_iff_exists.mp (g0 f (List.mem_of_getElem? hf))
              refine ⟨_, rfl, .i u, by rw [look_dT, hu']; rfl, rfl, ?_⟩
              show _ ++ [L2.T.i u] = _
              rw [← take_one hf, List.map_append, List.map_singleton, hu']
              rfl
            · rintro ys rfl
              rw [List.length_map, List.take_length]
              refine ⟨_, ins_map _ _, ?_⟩
              refine ite2 (fun g2 => ?_) (fun g2 => ?_)
              · have g2 : 1 + sumL ds m.2 ≤ room := of_decide_eq_true g2
                refine ⟨?_, rfl, ?_, _, _, _, rfl, ?_⟩
                · exact small1000 (by rw [List.length_map]; exact Nat.le_trans (List.length_filter_le _ _) (by rw [List.length_take]; omega))
                · exact ims_map (fun _ => rfl) m.2
                · rw [sn, if_pos (by unfold pickB; rw [g1, decide_eq_true g2]; rfl), List.map_append]
                  rfl
              · have g2 : ¬ 1 + sumL ds m.2 ≤ room := fun z => g2 (decide_eq_true z)
                refine ⟨_, _, _, rfl, ?_⟩
                rw [sn, if_neg (by unfold pickB; rw [decide_eq_false g2, Bool.and_false]; exact Bool.false_ne_true), List.append_nil]
          · refine ⟨_, _, _, rfl, ?_⟩
            rw [sn, if_neg (by unfold pickB; intro z; rw [Bool.and_eq_true] at z; exact g1 z.1), List.append_nil]
      · rintro q ⟨o6, o7, L, rfl, rfl⟩
        rw [List.length_map, List.take_length]
        obtain ⟨m0, hm0, hf0, hs0⟩ := hI.wt k v hv
        have lm := (gk.ma hm0).2.2
        have p0 : m0 ∈ (mkOf ks k).filter (pickB ds room) := List.mem_filter.mpr ⟨hm0, by unfold pickB; rw [decide_eq_true (by omega), Bool.and_true]; simpa using hf0⟩
        have l0 := List.length_pos_of_mem p0
        have l1 : ((mkOf ks k).filter (pickB ds room)).length ≤ 6 := Nat.le_trans (List.length_filter_le _ _) lm
        have l2 : (((mkOf ks k).filter (pickB ds room)).map tM).length = ((mkOf ks k).filter (pickB ds room)).length := List.length_map _
        refine ⟨by omega, by omega, fun r1 r10 r11 => ⟨by omega, by omega, fun r2 r20 r21 => ?_⟩⟩
        obtain ⟨x, ex, hx⟩ := atI_lt (xs := ((mkOf ks k).filter (pickB ds room)).map tM) (i := if r2 > r1 then r2 else r1) (by split <;> omega) (by split <;> omega)
        obtain ⟨m, hm, rfl⟩ := List.mem_map.mp hx
        obtain ⟨mm, hp⟩ := List.mem_filter.mp hm
        obtain ⟨f4, ff, _⟩ := gk.ma mm
        unfold pickB at hp
        rw [Bool.and_eq_true] at hp
        have g0 : ∀ f ∈ m.2, (lk ds f).isSome = true := by simpa using hp.1
        have g2 : 1 + sumL ds m.2 ≤ room := of_decide_eq_true hp.2
        refine ⟨_, ex, im_tM m, _, rfl, ?_⟩
        refine ⟨small1000 (by rw [List.length_map]; omega), fun i ys => ys = (m.2.take i).map fun f => .i ((lk ds f).getD 0), rfl, ?_, ?_⟩
        · rintro i x ys hx rfl
          rw [List.getElem?_map] at hx
          obtain ⟨f, hf, rfl⟩ := Option.map_eq_some_iff.mp hx
          obtain ⟨u, hu'⟩ := Option.isSome_iff_exists.mp (g0 f (List.mem_of_getElem? hf))
          refine ⟨_, rfl, .i u, by rw [look_dT, hu']; rfl, rfl, ?_⟩
          show _ ++ [L2.T.i u] = _
          rw [← take_one hf, List.map_append, List.map_singleton, hu']
          rfl
        · rintro ys rfl
          rw [List.length_map, List.take_length]
          refine ⟨_, ins_map _ _, ?_⟩
          have sp0 := hI.sum m.2
          refine ⟨ims_map (fun _ => rfl) m.2, fun i q => ∃ sp ps o5 o10 o11 L, q = [.r .deal, .r (tKs ks), .r (dT ds), .r (.s k), .r (.i room), o5, .r (.s m.1), .r (.t (m.2.map .s)), .o (.i sp), .o (.l L), o10, o11] ∧ L = ps ∧ ps.length = i ∧ 0 ≤ sp ∧ (∀ (j : Nat) f p, m.2[j]? = some f → ps[j]? = some p → isN ks n f p = true) ∧ (∀ p ∈ ps, Ok n p) ∧ (∀ (j : Nat) f p, m.2[j]? = some f → ps[j]? = some p → FdV ks ds n f p) ∧ ((ps.map (wt n)).sum : Int) + sp ≤ sumL ds (m.2.take i) + (room - 1 - sumL ds m.2), ⟨room - 1 - sumL ds m.2, [], _, _, _, _, rfl, rfl, rfl, by omega, fun j f p _ h => by simp at h, by simp, fun j f p _ h => by simp at h, by simp [sumL]⟩, ?_, ?_⟩
          · rintro i x q hx ⟨sp, ps, o5, o10, o11, L, rfl, rfl, hl, s0, hN, hO, hF, hS⟩
            rw [List.getElem?_map] at hx
            obtain ⟨f, hf, rfl⟩ := Option.map_eq_some_iff.mp hx
            obtain ⟨u, hu'⟩ := Option.isSome_iff_exists.mp (g0 f (List.mem_of_getElem? hf))
            have hi := (List.getElem?_eq_some_iff.mp hf).1
            have st := sumL_take (ds := ds) hf
            rw [hu'] at st
            have st2 := sumL_takeLe hI m.2 (i + 1)
            have st3 := hI.sum (m.2.take i)
            simp only [Option.getD_some] at st
            have u1 := (hI.bd _ (lk_mem hu')).1
            simp only at u1
            refine ⟨_, rfl, by omega, by omega, fun more h0 h1 => ⟨small1000 (by omega), .i u, by rw [look_dT, hu']; rfl, ?_⟩⟩
            refine ⟨ks, ds, f, u + more, u, rfl, gk, hI, hu', by omega, by omega, by omega, fun t t1 t2 t3 t4 => ?_⟩
            refine ⟨sp - more, L ++ [t], _, _, _, _, rfl, rfl, by simp [hl], by omega, fun j f' p hj hp => ?_, fun p hp => ?_, fun j f' p hj hp => ?_, ?_⟩
            · by_cases e : j = i
              · subst e
                rw [hf] at hj
                cases hj
                rw [List.getElem?_append_right (by omega), hl, Nat.sub_self] at hp
                cases hp
                exact t1
              · by_cases lt : j < i
                · rw [List.getElem?_append_left (by omega)] at hp
                  exact hN j f' p hj hp
                · rw [List.getElem?_eq_none (by simp; omega)] at hp
                  cases hp
            · rcases List.mem_append.mp hp with z | z
              · exact hO p z
              · rw [List.mem_singleton.mp z]; exact t2
            · by_cases e : j = i
              · subst e
                rw [hf] at hj
                cases hj
                rw [List.getElem?_append_right (by omega), hl, Nat.sub_self] at hp
                cases hp
                exact t4
              · by_cases lt : j < i
                · rw [List.getElem?_append_left (by omega)] at hp
                  exact hF j f' p hj hp
                · rw [List.getElem?_eq_none (by simp; omega)] at hp
                  cases hp
            · rw [sum_snoc]
              omega
          · rintro q ⟨sp, ps, o5, o10, o11, L, rfl, rfl, hl, s0, hN, hO, hF, hS⟩
            rw [List.length_map] at hl
            rw [List.length_map, List.take_length] at hS
            refine ⟨rfl, ims_all fun p hp => (hO p hp).im, ?_⟩
            refine hq _ ?_ ?_ ?_ ⟨m, mm, rfl, hl.symm, fun j f p hj hp => ⟨g0 f (List.mem_of_getElem? hj), hF j f p hj hp⟩⟩
            · show (match due ks k (.s m.1) L.length with | some fs => (fs.zip L).all fun p => isN ks n p.1 p.2 | none => false) = true
              rw [hl, due_own gk mm]
              rw [List.all_eq_true]
              intro p hp
              obtain ⟨j, hj⟩ := List.getElem?_of_mem hp
              rw [List.getElem?_zip_eq_some] at hj
              exact hN j _ _ hj.1 hj.2
            · refine ⟨?_, rfl, fun x y e => ?_, fun x ps' e => ?_⟩
              · simp [L2.T.im, L2.T.ims, ims_all fun p hp => (hO p hp).im]
              · cases e
                rfl
              · cases e
                exact ⟨rfl, by omega, hO⟩
            · show ((1 + (L.map (wt n)).sum : Nat) : Int) ≤ room
              omega
theorem ok_makers_in (T : Txt K mg a) : FnOk P w K mg base CX0 1 a.f_makers_in a.d_makers_in ["value"] (spQ K psMkIn) := by
  refine T.F_makers_in.okQ sc_makers_in (fun ts Q h => ?_) (fun cdv A outer s H E hr => ?_)
  · obtain ⟨ks, n, k, t, rfl, _⟩ := h; rfl
  · have hu := hu_of hr
    refine ⟨_, _, ((qss_cons (qs_set (i := 1) sc_makers_in.nd rfl (Or.inl rfl) (qe_lst qa_nil))
  (qss_cons (qs_set (i := 2) sc_makers_in.nd rfl (Or.inl rfl) (qe_lst (qa_consF (QPE.f (qv 0)) qa_nil)))
  (qss_cons (qs_while PassesOwn.never (qt_truth (qv 2))
  (qss_cons (qs_pop (j := 3) sc_makers_in.nd rfl (Or.inl rfl) (pv 2))
  (qss_cons (qs_append (i := 1) (pv 1) (QPE.f (qe_ix (qv 3) (QPF.w qe_int))))
  (qss_one (qs_extend (i := 2) (pv 2) (qe_listrevT rfl rfl T.b_list rfl T.b_reversed (qe_ix (qv 3) (QPF.w qe_int))))))))
  (qss_one (qs_retO (i := 1) (pv 1))))))), fun ts Q h => ?_⟩
    obtain ⟨ks, n, k, t, rfl, hN, hO, hw, hq⟩ := h
    refine ⟨hO.im, fun c q => ∃ (M : List Str) (ws : List Wt) (o3 : Sl) (A1 A2 : List L2.T), q = [.r t, .o (.l A1), .o (.l A2), o3] ∧ A1 = M.map .s ∧ A2 = ws.map (·.2.2) ∧ wW ws + M.length ≤ 500 ∧ (∀ w ∈ ws, isN ks w.2.1 w.1 w.2.2 = true ∧ Ok w.2.1 w.2.2) ∧ M ++ (ws.reverse.map fun w => pre w.2.1 w.2.2).flatten = pre n t ∧ c = wW ws, ⟨_, [], [(k, n, t)], _, _, _, rfl, rfl, rfl, ?_, ?_, ?_, rfl⟩, ?_⟩
    · simpa [wW] using hw
    · intro w hw
      rw [List.mem_singleton.mp hw]
      exact ⟨hN, hO⟩
    · simp
    · rintro c q ⟨M, ws, o3, A1, A2, rfl, rfl, rfl, h1, h2, h3, rfl⟩
      rcases List.eq_nil_or_concat ws with rfl | ⟨ws', ⟨f, d, u⟩, rfl⟩
      · have h3 : M = pre n t := by simpa using h3
        rw [← h3] at hq
        exact hq
      · rw [List.concat_eq_append] at *
        have hN' := (h2 (f, d, u) (by simp)).1
        have hO' := (h2 (f, d, u) (by simp)).2
        simp only at hO' hN'
        obtain ⟨d', m, ps, rfl, rfl, hm, hml, hps⟩ := isN_val hN'
        obtain ⟨d2, e2, _, hpl, hOp⟩ := hO'.pr
        cases e2
        have hW : wW (ws' ++ [(f, d' + 1, .t [.s m.1, .t ps])]) = wW ws' + (1 + (ps.map (wt d')).sum) := by rw [wW_app]; simp [wW, wt_pr]
        have hl := wW_len ws'
        have him : L2.T.ims ps = true := ims_all fun p hp => (hOp p hp).im
        have hz := wW_zip d' m.2 ps
        have rev : ∀ l : List Wt, wW l.reverse = wW l := fun l => by unfold wW; rw [List.map_reverse, List.sum_reverse]
        refine ite2 (fun _ => ?_) (fun z => absurd (by simp) z)
        refine ⟨fun q' => ∃ (M2 : List Str) (ws2 : List Wt) (o3 : Sl) (A1 A2 : List L2.T), q' = [.r t, .o (.l A1), .o (.l A2), o3] ∧ A1 = M2.map .s ∧ A2 = ws2.map (·.2.2) ∧ wW ws2 + M2.length ≤ 500 ∧ wW ws2 < wW (ws' ++ [(f, d' + 1, .t [.s m.1, .t ps])]) ∧ (∀ w ∈ ws2, isN ks w.2.1 w.1 w.2.2 = true ∧ Ok w.2.1 w.2.2) ∧ M2 ++ (ws2.reverse.map fun w => pre w.2.1 w.2.2).flatten = pre n t, ?_, ?_⟩
        · rintro q' ⟨M2, ws2, o3, A1, A2, rfl, rfl, rfl, g0, g1, g2, g3⟩
          exact ⟨wW ws2, g1, M2, ws2, _, _, _, rfl, rfl, rfl, g0, g2, g3, rfl⟩
        · refine ⟨ws'.map (·.2.2), .t [.s m.1, .t ps], by simp, ?_, by decide, ?_⟩
          · refine ims_all fun p hp => ?_
            obtain ⟨w, hw, rfl⟩ := List.mem_map.mp hp
            exact (h2 w (by simp [hw])).2.im
          · have hMl : M.length ≤ 500 := by omega
            refine ⟨small1000 (by rw [List.length_map]; omega), _, rfl, rfl, _, rfl, him, ?_, M ++ [m.1], ws' ++ ((m.2.zip ps).map fun p => (p.1, d', p.2)).reverse, _, _, _, rfl, ?_, ?_, ?_, ?_, ?_, ?_⟩
            · rw [List.length_reverse, List.length_map]
              have := len_wt d' ps
              exact small_of (by omega)
            · simp
            · rw [List.map_append]
              congr 1
              rw [List.map_reverse, List.map_map]
              congr 1
              have : (fun w : Wt => w.2.2) ∘ (fun p : Str × L2.T => (p.1, d', p.2)) = fun p => p.2 := rfl
              rw [this, List.map_snd_zip (by omega)]
            · rw [wW_app, rev, List.length_append, List.length_singleton]
              omega
            · rw [wW_app, rev, hW]
              omega
            · intro w hw
              rcases List.mem_append.mp hw with z | z
              · exact h2 w (by simp [z])
              · obtain ⟨p, hp, rfl⟩ := List.mem_map.mp (List.mem_reverse.mp z)
                obtain ⟨j, hj⟩ := List.getElem?_of_mem hp
                rw [List.getElem?_zip_eq_some] at hj
                exact ⟨hps j _ _ hj.1 hj.2, hOp _ (List.of_mem_zip hp).2⟩
            · rw [← h3]
              have e : ((m.2.zip ps).map fun p => pre d' p.2) = ps.map (pre d') := by
                have : (fun p : Str × L2.T => pre d' p.2) = pre d' ∘ (fun p => p.2) := rfl
                rw [this, ← List.map_map, List.map_snd_zip (by omega)]
              have e' : pre (d' + 1) (.t [.s m.1, .t ps]) = m.1 :: (ps.map (pre d')).flatten := by rw [pre]
              simp only [List.reverse_append, List.reverse_reverse, List.map_append, List.flatten_append, List.map_map, List.reverse_singleton, List.map_singleton, List.flatten_singleton, e', List.append_assoc, List.cons_append, List.nil_append]
              congr 2
              congr 1
              exact congrArg List.flatten e
theorem ok_size (T : Txt K mg a) : FnOk P w K mg base CX0 2 a.f_size a.d_size ["value"] (spQ K psSize) := by
  have G_makers_in := ok_makers_in (P := P) (w := w) (base := base) T
  refine T.F_size.okQ sc_size (fun ts Q h => ?_) (fun cdv A outer s H E hr => ?_)
  · obtain ⟨ks, n, k, t, rfl, _⟩ := h; rfl
  · have hu := hu_of hr
    refine ⟨_, _, ((qss_one (qs_ret (qe_callB (call_len3 rfl) sim_len (by rfl) T.b_len (by kernel_rfl) (qa_cons (QPF.w (qe_call G_makers_in (hr.mono (by omega)) rfl T.m_makers_in T.F_makers_in.kp T.b_makers_in (qa_cons (qv 0) (QPAF.w qa_nil)))) (QPAF.w qa_nil)))))), fun ts Q h => ?_⟩
    obtain ⟨ks, n, k, t, rfl, hN, hO, hw, hq⟩ := h
    refine ⟨ks, n, k, t, rfl, hN, hO, hw, ?_⟩
    show Q (.i (((pre n t).map L2.T.s).length : Nat))
    rw [List.length_map]
    exact hq
theorem ok_counts (T : Txt K mg a) : FnOk P w K mg base CX0 2 a.f_counts a.d_counts ["value"] (spQ K psCounts) := by
  have G_makers_in := ok_makers_in (P := P) (w := w) (base := base) T
  refine T.F_counts.okQ sc_counts (fun ts Q h => ?_) (fun cdv A outer s H E hr => ?_)
  · obtain ⟨ks, n, k, t, rfl, _⟩ := h; rfl
  · have hu := hu_of hr
    refine ⟨_, _, ((qss_cons (qs_set (i := 1) sc_counts.nd rfl (Or.inl rfl) qe_dnew)
  (qss_cons (qs_for (g := (Tg.nm 2)) PassesOwn.never rfl (qj_list (qe_call G_makers_in (hr.mono (by omega)) rfl T.m_makers_in T.F_makers_in.kp T.b_makers_in (qa_cons (qv 0) (QPAF.w qa_nil)))) (pg_name (i := 2) sc_counts.nd rfl (Or.inl rfl))
  (qss_one (qs_put (i := 1) hu (pv 1) (qv 2) (QPF.w (qe_add (qe_get2 hu (qv 1) (qv 2) (QPF.w qe_int)) (QPF.w qe_int))))))
  (qss_one (qs_retO (i := 1) (pv 1)))))), fun ts Q h => ?_⟩
    obtain ⟨ks, n, k, t, rfl, hN, hO, hw, hq⟩ := h
    have hl := pre_len hN
    refine ⟨ks, n, k, t, rfl, hN, hO, hw, ?_⟩
    generalize pre n t = xs at hl hq ⊢
    refine ⟨fun i q => ∃ (o2 : Sl) (ds : Ds), q = [.r t, .o (dT ds), o2] ∧ ds = tab (uniq (xs.take i)) (cntS (xs.take i)), ⟨_, _, rfl, rfl⟩, ?_, ?_⟩
    · rintro i x q hx ⟨o2, ds, rfl, rfl⟩
      rw [List.getElem?_map] at hx
      obtain ⟨m, hm, rfl⟩ := Option.map_eq_some_iff.mp hx
      have hi := (List.getElem?_eq_some_iff.mp hm).1
      refine ⟨_, rfl, ?_⟩
      refine rd_putinc (ds := tab (uniq (xs.take i)) (cntS (xs.take i))) (k := m) rfl rfl ?_ ?_
      · rw [tab_len]
        exact small1000 (by have := uniq_len (xs := xs.take i); rw [List.length_take] at this; omega)
      · refine ⟨_, _, rfl, ?_⟩
        rw [cnt_step, ← take_one' hm]
    · rintro q ⟨o2, ds, rfl, rfl⟩
      rw [List.length_map, List.take_length]
      exact hq
theorem ok_key (T : Txt K mg a) : FnOk P w K mg base CX0 2 a.f_key a.d_key ["kinds", "value"] (spQ K psKey) := by
  have G_makers_in := ok_makers_in (P := P) (w := w) (base := base) T
  refine T.F_key.okQ sc_key (fun ts Q h => ?_) (fun cdv A outer s H E hr => ?_)
  · obtain ⟨ks, n, k, t, rfl, _⟩ := h; rfl
  · have hu := hu_of hr
    refine ⟨_, _, ((qss_cons (qs_set (i := 2) sc_key.nd rfl (Or.inr rfl) qe_dnew)
  (qss_cons (qs_for (g := (Tg.tp [3, 4])) PassesOwn.never rfl (qj_tup (QPE.f (qv 0))) (pg_tupK (K := K) (n := 2) rfl rfl (pgs_cons (pg_name (i := 3) sc_key.nd rfl (Or.inl rfl)) (pgs_cons (pg_name (i := 4) sc_key.nd rfl (Or.inl rfl)) pgs_nil)))
  (qss_one (qs_upd (i := 2) rfl (pv 2) (qe_comp rfl (qi_enum rfl T.b_enumerate (by kernel_rfl) (qa_cons (qv 4) (QPAF.w qa_nil))) (N' := ["number", "maker"]) (.own rfl (.own rfl .nil)) (qb_mk0 (g := (Tg.tp [0, 1])) (fun _ _ _ _ _ => ⟨(pg_tupK (K := K) (n := 2) rfl rfl (pgs_cons (pg_name (i := 0) (show (["number", "maker"] : List Str).Nodup from by decide +kernel) rfl (Or.inl rfl) (Or.inr rfl)) (pgs_cons (pg_name (i := 1) (show (["number", "maker"] : List Str).Nodup from by decide +kernel) rfl (Or.inl rfl) (Or.inr rfl)) pgs_nil))), (qe_tup (qa_consF (QPE.f (qe_ix (qv 1) (QPF.w qe_int))) (qa_consF (QPE.f (qv 0)) qa_nil)))⟩))))))
  (qss_one (qs_ret (qe_comp rfl (qi_list (QPF.w (qe_call G_makers_in (hr.mono (by omega)) rfl T.m_makers_in T.F_makers_in.kp T.b_makers_in (qa_cons (qv 1) (QPAF.w qa_nil))))) (N' := ["maker", "numbers"]) (.own rfl (.got (i := 2) rfl rfl (.inl rfl) .nil)) (qb_mk0 (g := (Tg.nm 0)) (fun _ _ _ _ _ => ⟨(pg_name (i := 0) (show (["maker", "numbers"] : List Str).Nodup from by decide +kernel) rfl (Or.inl rfl)), (QPE.f (qe_ixd (qv 1) (qv 0)))⟩)))))))), fun ts Q h => ?_⟩
    obtain ⟨ks, n, k, t, rfl, gk, hN, hO, hw, hq⟩ := h
    have k2 := gk.k2
    refine ⟨im_tKs ks, fun i q => ∃ (o3 o4 : Sl) (A : List (Key × L2.T)), q = [.r (tKs ks), .r t, .o (.d A), o3, o4] ∧ A = (numD (ks.take i)).map dEn, ⟨_, _, _, rfl, rfl⟩, ?_, ?_⟩
    · rintro i x q hx ⟨o3, o4, A, rfl, rfl⟩
      rw [List.getElem?_map] at hx
      obtain ⟨kd, hk, rfl⟩ := Option.map_eq_some_iff.mp hx
      have hm6 := (gk.ne kd (List.mem_of_getElem? hk)).2
      have hnl : (numD (ks.take i)).length ≤ 18 := by
        have h1 : (numD (ks.take i)).length = (names (ks.take i)).length := by rw [← numD_keys, List.length_map]
        have h2 := names_len (ks := ks.take i) fun k hk => (gk.ne k (List.mem_of_mem_take hk)).2
        rw [List.length_take] at h2
        omega
      refine ⟨_, rfl, ?_⟩
      refine ⟨small1000 (by rw [enumT_len, List.length_map]; omega), fun j ys => ys = numT (kd.2.take j), rfl, ?_, ?_⟩
      · rintro j x ys hx rfl
        obtain ⟨y, hy, rfl⟩ := enumT_at hx
        rw [List.getElem?_map] at hy
        obtain ⟨m, hm, rfl⟩ := Option.map_eq_some_iff.mp hy
        refine ⟨_, rfl, _, rfl, rfl, rfl, ?_⟩
        show numT (kd.2.take j) ++ [L2.T.t [.s m.1, .i (j : Nat)]] = numT (kd.2.take (j + 1))
        unfold numT
        rw [take_one' hm, List.zipIdx_append, List.map_append]
        have : min j kd.2.length = j := Nat.min_eq_left (Nat.le_of_lt (List.getElem?_eq_some_iff.mp hm).1)
        simp [this]
      · rintro ys rfl
        rw [enumT_len, List.length_map, List.take_length]
        refine ⟨imk_dT _, ?_, _, pairs_num kd.2, ?_, _, _, _, rfl, ?_⟩
        · exact ims_all fun p hp => by obtain ⟨x, _, rfl⟩ := List.mem_map.mp hp; rfl
        · rw [List.length_map, List.length_map]
          have : (numK kd.2).length = kd.2.length := by simp [numK]
          exact small_of (by omega)
        · exact merge_num gk.mn hk
    · rintro q ⟨o3, o4, A, rfl, rfl⟩
      rw [List.length_map, List.take_length]
      refine ⟨ks, n, k, t, rfl, hN, hO, hw, ?_⟩
      have hl := pre_len hN
      have hs : ∀ x ∈ pre n t, lk (numD ks) x = some (num ks x) := fun x hx => num_some gk hN hx
      generalize pre n t = xs at hl hq hs ⊢
      refine ⟨small1000 (by rw [List.length_map]; omega), fun j ys => ys = ((xs.take j).map (num ks)).map .i, rfl, ?_, ?_⟩
      · rintro j x ys hx rfl
        rw [List.getElem?_map] at hx
        obtain ⟨m, hm, rfl⟩ := Option.map_eq_some_iff.mp hx
        refine ⟨_, rfl, .i (num ks m), by rw [look_dT, hs m (List.mem_of_getElem? hm)]; rfl, rfl, ?_⟩
        show _ ++ [L2.T.i (num ks m)] = _
        rw [take_one' hm, List.map_append, List.map_append]
        rfl
      · rintro ys rfl
        rw [List.length_map, List.take_length]
        exact hq
theorem ok_makers (T : Txt K mg a) (n : Nat) : FnOk P w K mg base CX0 (n + 1) a.f_makers a.d_makers ["_law_value_here"] (spQ K (psMks n)) := by
  induction n with
  | zero =>
    refine never fun ts Q ⟨ks, k, t, _, h, _⟩ => ?_
    obtain ⟨_, _, _, e, _⟩ := isN_val h
    cases e
  | succ n G_makers =>
    refine T.F_makers.okQ sc_makers (fun ts Q h => ?_) (fun cdv A outer s H E hr => ?_)
    · obtain ⟨ks, k, t, rfl, _⟩ := h; rfl
    · have hu := hu_of hr
      refine ⟨_, _, ((qss_cons (qs_set (i := 1) sc_makers.nd rfl (Or.inl rfl) (qe_lst (qa_consF (QPE.f (qe_ix (qv 0) (QPF.w qe_int))) qa_nil)))
  (qss_cons (qs_for (g := (Tg.nm 2)) PassesOwn.never rfl (qj_tup (QPE.f (qe_ix (qv 0) (QPF.w qe_int)))) (pg_name (i := 2) sc_makers.nd rfl (Or.inl rfl))
  (qss_one (qs_set (i := 1) sc_makers.nd rfl (Or.inl rfl) (qe_add (qv 1) (QPF.w (qe_call G_makers (hr.mono (by omega)) rfl T.m_makers T.F_makers.kp T.b_makers (qa_cons (qv 2) (QPAF.w qa_nil))))))))
  (qss_one (qs_retO (i := 1) (pv 1)))))), fun ts Q h => ?_⟩
      obtain ⟨ks, k, t, rfl, hN, hO, hw, hq⟩ := h
      have hl := pre_len hN
      obtain ⟨n1, m, ps, e1, rfl, hm, hml, hps⟩ := isN_val hN
      cases e1
      obtain ⟨d2, e2, _, hpl, hOp⟩ := hO.pr
      cases e2
      have eP : pre (n + 1) (.t [.s m.1, .t ps]) = m.1 :: (ps.map (pre n)).flatten := by rw [pre]
      rw [eP] at hq hl
      have him : L2.T.ims ps = true := ims_all fun p hp => (hOp p hp).im
      rw [wt_pr] at hw hl
      refine ⟨_, rfl, rfl, _, rfl, him, fun i q => ∃ (o2 : Sl) (A : List L2.T), q = [.r (.t [.s m.1, .t ps]), .o (.l A), o2] ∧ A = (m.1 :: ((ps.take i).map (pre n)).flatten).map .s, ⟨_, _, rfl, rfl⟩, ?_, ?_⟩
      · rintro i x q hx ⟨o2, A, rfl, rfl⟩
        have hi := (List.getElem?_eq_some_iff.mp hx).1
        have hlt : i < m.2.length := by omega
        have hNp := hps i m.2[i] x (by simp [hlt]) hx
        have hOx := hOp x (List.mem_of_getElem? hx)
        have hs1 := sum_mid (f := wt n) hx
        have hsum : ∀ l : List L2.T, (∀ p ∈ l, ∃ k, isN ks n k p = true) → ((l.map (pre n)).flatten).length = (l.map (wt n)).sum := fun l hl' => by
          rw [List.length_flatten, List.map_map]
          congr 1
          apply List.map_congr_left
          intro p hp
          obtain ⟨k, hk⟩ := hl' p hp
          exact pre_len hk
        have htk : (((ps.take i).map (pre n)).flatten).length = ((ps.take i).map (wt n)).sum := hsum _ fun p hp => by
          obtain ⟨j, hj⟩ := List.getElem?_of_mem (List.mem_of_mem_take hp)
          have hj' : j < m.2.length := by rw [hml]; exact (List.getElem?_eq_some_iff.mp hj).1
          exact ⟨_, hps j m.2[j] p (by simp [hj']) hj⟩
        refine ⟨_, rfl, ks, m.2[i], x, rfl, hNp, hOx, by omega, ?_⟩
        refine ⟨?_, ims_strs _, ims_strs _, _, _, rfl, ?_⟩
        · rw [List.length_map, List.length_map, pre_len hNp, List.length_cons, htk]
          exact small_of (by omega)
        · rw [take_one' hx]
          simp
      · rintro q ⟨o2, A, rfl, rfl⟩
        rw [List.take_length]
        exact hq
theorem ok_ahead (T : Txt K mg a) (n : Nat) : FnOk P w K mg base CX0 (n + 1) a.f_ahead a.d_ahead ["_law_kinds_here", "_law_kind", "_law_one", "_law_other"] (spQ K (psAhead n)) := by
  induction n with
  | zero =>
    refine never fun ts Q ⟨ks, k, x, y, _, _, h, _⟩ => ?_
    obtain ⟨_, _, _, e, _⟩ := isN_val h
    cases e
  | succ n G_ahead =>
    refine T.F_ahead.okQ sc_ahead (fun ts Q h => ?_) (fun cdv A outer s H E hr => ?_)
    · obtain ⟨ks, k, x, y, rfl, _⟩ := h; rfl
    · have hu := hu_of hr
      refine ⟨_, _, ((qss_cons (qs_comp (i := 4) sc_ahead.nd rfl (Or.inl rfl) rfl (qi_tup (qe_ixd (QPF.w (qe_callTy (call_dict_of rfl) sim_dictof (by rfl) T.b_dict (by kernel_rfl) (qa_cons (qv 0) (QPAF.w qa_nil)))) (qv 1))) (N' := ["_law_maker", "_law_fields"]) (.own rfl (.own rfl .nil)) (qb_mk0 (g := (Tg.tp [0, 1])) (fun _ _ _ _ _ => ⟨(pg_tupK (K := K) (n := 2) rfl rfl (pgs_cons (pg_name (i := 0) (show (["_law_maker", "_law_fields"] : List Str).Nodup from by decide +kernel) rfl (Or.inl rfl) (Or.inr rfl)) (pgs_cons (pg_name (i := 1) (show (["_law_maker", "_law_fields"] : List Str).Nodup from by decide +kernel) rfl (Or.inl rfl) (Or.inr rfl)) pgs_nil))), (QPE.f (qv 0))⟩)))
  (qss_cons (qs_if (qt_cmp op_ne sim_ne (nomark _) (qe_ix (qv 2) (QPF.w qe_int)) (qe_ix (qv 3) (QPF.w qe_int)))
  (qss_one (qs_ret (QPE.f (qe_ix (QPF.w (qe_lst (qa_consF qe_int (qa_consF (qe_neg (QPF.w qe_int)) qa_nil)))) (QPF.w (qe_callTy call_int1 sim_int (by rfl) T.b_int (by kernel_rfl) (qa_cons (QPF.w (qe_cmp op_lt (sim_I0 (g' := fun i j => .b (decide (i < j))) fun _ _ _ _ => .b _) (nomark _) (QPF.w (qe_index (qv 4) (qe_ix (qv 2) (QPF.w qe_int)))) (QPF.w (qe_index (qv 4) (qe_ix (qv 3) (QPF.w qe_int)))))) (QPAF.w qa_nil))))))))
  qss_nil)
  (qss_cons (qs_set (i := 5) sc_ahead.nd rfl (Or.inl rfl) (QPE.f (qe_ixd (QPF.w (qe_callTy (call_dict_of rfl) sim_dictof (by rfl) T.b_dict (by kernel_rfl) (qa_cons (qe_ixd (QPF.w (qe_callTy (call_dict_of rfl) sim_dictof (by rfl) T.b_dict (by kernel_rfl) (qa_cons (qv 0) (QPAF.w qa_nil)))) (qv 1)) (QPAF.w qa_nil)))) (qe_ix (qv 2) (QPF.w qe_int)))))
  (qss_cons (qs_for (g := (Tg.tp [6, 7, 8])) PassesOwn.never rfl (qj_zip3 rfl T.b_zip (by kernel_rfl) (qa_cons (qv 5) (qa_cons (qe_ix (qv 2) (QPF.w qe_int)) (qa_cons (qe_ix (qv 3) (QPF.w qe_int)) (QPAF.w qa_nil))))) (pg_tupK (K := K) (n := 3) rfl rfl (pgs_cons (pg_name (i := 6) sc_ahead.nd rfl (Or.inl rfl)) (pgs_cons (pg_name (i := 7) sc_ahead.nd rfl (Or.inl rfl)) (pgs_cons (pg_name (i := 8) sc_ahead.nd rfl (Or.inl rfl)) pgs_nil))))
  (qss_cons (qs_set (i := 9) sc_ahead.nd rfl (Or.inl rfl) (qe_call G_ahead (hr.mono (by omega)) rfl T.m_ahead T.F_ahead.kp T.b_ahead (qa_cons (qv 0) (qa_cons (qv 6) (qa_cons (qv 7) (qa_cons (qv 8) (QPAF.w qa_nil)))))))
  (qss_one (qs_if (qt_cmp op_ne sim_ne (nomark _) (qv 9) (QPF.w qe_int))
  (qss_one (qs_ret (QPE.f (qv 9))))
  qss_nil))))
  (qss_one (qs_ret qe_int))))))), fun ts Q h => ?_⟩
      obtain ⟨ks, k, x, y, rfl, gk, hNx, hNy, hOx, hOy, hq⟩ := h
      obtain ⟨n1, m, ps, e1, rfl, hm, hml, hps⟩ := isN_val hNx
      obtain ⟨n2, m', ps', e2, rfl, hm', hml', hps'⟩ := isN_val hNy
      cases e1
      cases e2
      obtain ⟨d2, e2, _, hpl, hOp⟩ := hOx.pr
      cases e2
      obtain ⟨d2, e2, _, hpl', hOp'⟩ := hOy.pr
      cases e2
      have eA : ahd (num ks) (n + 1) (.t [.s m.1, .t ps]) (.t [.s m'.1, .t ps']) = if m.1 = m'.1 then ahds (num ks) n ps ps' else if num ks m.1 < num ks m'.1 then -1 else 1 := by rw [ahd]
      rw [eA] at hq
      obtain ⟨kd, hk, rfl, ek⟩ := mkOf_kd hm
      have hkn : kd.1 ∈ ks.map (·.1) := List.mem_map.mpr ⟨kd, hk, rfl⟩
      have lm := (gk.ma hm).2.2
      obtain ⟨i1, hi1, hn1⟩ := idx_num gk hm
      obtain ⟨i2, hi2, hn2⟩ := idx_num gk hm'
      refine ⟨ims_map im_tK ks, _, pairs_tK ks, _, look_dict gk.nd hkn, ?_⟩
      refine ⟨small1000 (by rw [List.length_map]; omega), fun j ys => ys = ((mkOf ks kd.1).take j).map fun x => .s x.1, rfl, ?_, ?_⟩
      · rintro j z ys hz rfl
        rw [List.getElem?_map] at hz
        obtain ⟨mm, hmm, rfl⟩ := Option.map_eq_some_iff.mp hz
        refine ⟨_, rfl, rfl, ?_⟩
        show _ ++ [L2.T.s mm.1] = _
        rw [take_one' hmm, List.map_append]
        rfl
      · rintro ys rfl
        rw [List.length_map, List.take_length]
        have fl : fls ((mkOf ks kd.1).map fun x => L2.T.s x.1) = true := by unfold fls; rw [List.all_map, List.all_eq_true]; exact fun _ _ => rfl
        refine ⟨_, rfl, _, rfl, rfl, ite2 (fun hne => ?_) (fun hne => ?_)⟩
        · have hne : ¬ m.1 = m'.1 := fun z => by rw [z] at hne; simp at hne
          rw [if_neg hne, hn1, hn2] at hq
          refine ⟨_, rfl, fl, rfl, i1, hi1, _, rfl, fl, rfl, i2, hi2, ?_⟩
          by_cases hlt : (i1 : Int) < i2
          · rw [if_pos hlt] at hq
            refine ⟨.i (-1), ?_, rfl, hq⟩
            rw [decide_eq_true hlt]
            rfl
          · rw [if_neg hlt] at hq
            refine ⟨.i 1, ?_, rfl, hq⟩
            rw [decide_eq_false hlt]
            rfl
        · have heq : m.1 = m'.1 := Classical.byContradiction fun z => hne (by simp [z, L2.T.v])
          have em : m = m' := map_inj (names_in hk gk.mn) (ek ▸ hm) (ek ▸ hm') heq
          subst em
          rw [if_pos rfl] at hq
          have hnm := names_in hk gk.mn
          rw [← ek] at hnm
          have imx : L2.T.ims ps = true := ims_all fun p hp => (hOp p hp).im
          have imy : L2.T.ims ps' = true := ims_all fun p hp => (hOp' p hp).im
          have hlF : (m.2.map L2.T.s).length = m.2.length := List.length_map _
          refine ⟨ims_map im_tK ks, _, pairs_tK ks, _, look_dict gk.nd hkn, ims_map im_tM _, _, pairs_tM _, _, rfl, _, look_tM hnm hm, ims_strs _, ?_⟩
          refine ⟨_, rfl, _, rfl, ims_strs _, imx, imy, by omega, by omega, fun i q => ∃ (o6 o7 o8 o9 : Sl), q = [.r (tKs ks), .r (.s kd.1), .r (.t [.s m.1, .t ps]), .r (.t [.s m.1, .t ps']), .o (.l ((mkOf ks kd.1).map fun x => .s x.1)), .o (.t (m.2.map .s)), o6, o7, o8, o9] ∧ ahds (num ks) n (ps.drop i) (ps'.drop i) = ahds (num ks) n ps ps', ⟨_, _, _, _, rfl, rfl⟩, ?_, ?_⟩
          · rintro i z q hz ⟨o6, o7, o8, o9, rfl, hA⟩
            obtain ⟨f', p, p', hf, hp, hp', rfl⟩ := zip3T_at hz
            rw [List.getElem?_map] at hf
            obtain ⟨f, hfm, rfl⟩ := Option.map_eq_some_iff.mp hf
            obtain ⟨h1, e1⟩ := List.getElem?_eq_some_iff.mp hp
            obtain ⟨h2, e2⟩ := List.getElem?_eq_some_iff.mp hp'
            rw [List.drop_eq_getElem_cons h1, List.drop_eq_getElem_cons h2, e1, e2, ahds] at hA
            refine ⟨_, rfl, ks, f, p, p', rfl, gk, hps i f p hfm hp, hps' i f p' hfm hp', hOp p (List.mem_of_getElem? hp), hOp' p' (List.mem_of_getElem? hp'), rfl, ite2 (fun hne => ?_) (fun hne => ?_)⟩
            · have hne : ¬ ahd (num ks) n p p' = 0 := fun z => by rw [z] at hne; simp at hne
              rw [if_neg hne] at hA
              rw [← hA] at hq
              exact ⟨rfl, hq⟩
            · have heq : ahd (num ks) n p p' = 0 := Classical.byContradiction fun z => hne (by simp [z, L2.T.v])
              rw [if_pos heq] at hA
              exact ⟨_, _, _, _, rfl, hA⟩
          · rintro q ⟨o6, o7, o8, o9, rfl, hA⟩
            rw [zip3T_len (by omega) (by omega), hlF, List.drop_eq_nil_of_le (by omega : ps.length ≤ m.2.length), ahds_nil] at hA
            rw [← hA] at hq
            exact hq
theorem ok_changed (T : Txt K mg a) (n : Nat) : FnOk P w K mg base CX0 (n + 33) a.f_changed a.d_changed ["_law_deal_here", "_law_kinds_here", "_law_leasts_here", "_law_kind", "_law_value_here", "_law_room"] (spQ K (psChanged n)) := by
  induction n with
  | zero =>
    refine never fun ts Q ⟨ks, ds, k, t, room, v, _, _, _, _, h, _⟩ => ?_
    cases h
  | succ n G_changed =>
    have G_draw : FnOk P w K mg base CX0 1 a.f_draw a.d_draw ["_law_deal_here", "_law_many"] (spQ K psDraw) := draw_q (ok_draw T)
    have G_value := ok_value (P := P) (w := w) (base := base) T 30
    refine T.F_changed.okQ sc_changed (fun ts Q h => ?_) (fun cdv A outer s H E hr => ?_)
    · obtain ⟨ks, ds, k, t, room, v, rfl, _⟩ := h; rfl
    · have hu := hu_of hr
      refine ⟨_, _, ((qss_cons (qs_unp (g := (Tg.tp [6, 7])) (qv 4) (pg_tupK (K := K) (n := 2) rfl rfl (pgs_cons (pg_name (i := 6) sc_changed.nd rfl (Or.inl rfl)) (pgs_cons (pg_name (i := 7) sc_changed.nd rfl (Or.inl rfl)) pgs_nil))))
  (qss_cons (qs_if (QPW.pt (qw_and (qt_cmp op_gt (sim_I0 (g' := fun i j => .b (decide (j < i))) fun _ _ _ _ => .b _) (nomark _) (QPF.w (qe_callB (call_len3 rfl) sim_len (by rfl) T.b_len (by kernel_rfl) (qa_cons (qv 7) (QPAF.w qa_nil)))) (QPF.w qe_int)) (qw_and1 (qt_cmp op_gt (sim_I0 (g' := fun i j => .b (decide (j < i))) fun _ _ _ _ => .b _) (nomark _) (QPF.w (qe_call G_draw (hr.mono (by omega)) rfl T.m_draw T.F_draw.kp T.b_draw (qa_cons (qv 0) (qa_cons (QPF.w qe_int) (QPAF.w qa_nil))))) (QPF.w qe_int)))))
  (qss_cons (qs_set (i := 8) sc_changed.nd rfl (Or.inl rfl) (qe_call G_draw (hr.mono (by omega)) rfl T.m_draw T.F_draw.kp T.b_draw (qa_cons (qv 0) (qa_cons (QPF.w (qe_callB (call_len3 rfl) sim_len (by rfl) T.b_len (by kernel_rfl) (qa_cons (qv 7) (QPAF.w qa_nil)))) (QPAF.w qa_nil)))))
  (qss_cons (qs_set (i := 9) sc_changed.nd rfl (Or.inl rfl) (QPE.f (qe_ix (qe_ixd (QPF.w (qe_callTy (call_dict_of rfl) sim_dictof (by rfl) T.b_dict (by kernel_rfl) (qa_cons (qe_ixd (QPF.w (qe_callTy (call_dict_of rfl) sim_dictof (by rfl) T.b_dict (by kernel_rfl) (qa_cons (qv 1) (QPAF.w qa_nil)))) (qv 3)) (QPAF.w qa_nil)))) (qv 6)) (qv 8))))
  (qss_one (qs_ret (qe_tup (qa_consF (QPE.f (qv 6)) (qa_consF (qe_add (QPF.w (qe_add (QPF.w (qe_slice (qv 7) qo_none (qo_some (qv 8)))) (QPF.w (qe_tup (qa_consF (qe_call G_changed (hr.mono (by omega)) rfl T.m_changed T.F_changed.kp T.b_changed (qa_cons (qv 0) (qa_cons (qv 1) (qa_cons (qv 2) (qa_cons (qv 9) (qa_cons (qe_ix (qv 7) (qv 8)) (qa_cons (qv 5) (QPAF.w qa_nil)))))))) qa_nil))))) (QPF.w (qe_slice (qv 7) (qo_some (QPF.w (qe_add (qv 8) (QPF.w qe_int)))) qo_none))) qa_nil)))))))
  qss_nil)
  (qss_one (qs_ret (qe_call G_value (hr.mono (by omega)) rfl T.m_value T.F_value.kp T.b_value (qa_cons (qv 0) (qa_cons (qv 1) (qa_cons (qv 2) (qa_cons (qv 3) (qa_cons (QPF.w (qe_callB (call_max2 rfl) sim_i2 (by rfl) T.b_max (by kernel_rfl) (qa_cons (qe_ixd (qv 2) (qv 3)) (qa_cons (qv 5) (QPAF.w qa_nil))))) (QPAF.w qa_nil)))))))))))), fun ts Q h => ?_⟩
      obtain ⟨ks, ds, k, t, room, v, rfl, gk, hI, hv, hN, hF, hO, ro1, ro4, hq⟩ := h
      obtain ⟨n', m, ps, e, rfl, hm, hpl, hps⟩ := isN_val hN
      cases e
      obtain ⟨n', e, _, hp1, hOp⟩ := hO.pr
      cases e
      obtain ⟨f4, ff, _⟩ := gk.ma hm
      have hFv := FdV_val gk hm hF
      have him : L2.T.ims ps = true := ims_all fun p hp => (hOp p hp).im
      obtain ⟨kd, hk, rfl, ek⟩ := mkOf_kd hm
      have hkn : kd.1 ∈ ks.map (·.1) := List.mem_map.mpr ⟨kd, hk, rfl⟩
      have hnm := names_in hk gk.mn
      rw [← ek] at hnm
      refine ⟨hO.im, _, rfl, ?_⟩
      refine (fun rest => ite2 (fun g1 => ⟨by decide, by decide, fun r r0 r1 => ite2 (fun g2 => ?_) (fun g2 => rest)⟩) (fun g1 => rest)) ?_
      · have hb := hI.bd _ (lk_mem hv)
        have hb3 : bnd ds.length ≤ 21 := Int.le_trans (bnd_le (hI.len gk)) (by decide)
        simp only at hb
        refine ⟨.i v, by rw [look_dT, hv]; rfl, ?_⟩
        refine ⟨ks, ds, kd.1, _, v, rfl, gk, hI, hv, ?_, ?_, ?_, fun t t1 t2 t3 _ => ?_⟩
        · dsimp only; split <;> omega
        · dsimp only; split <;> omega
        · dsimp only; split <;> omega
        have tw : (wt 30 t : Int) ≤ 30 := Int.le_trans t3 (by dsimp only; split <;> omega)
        refine hq t (isN_le t1 (by omega)) (t2.le (by omega)) ?_
        rw [wt_le t2 (by omega)]
        have := wt_pos (n + 1) (.t [.s m.1, .t ps])
        omega
      · have g1 : (0 : Int) < (ps.length : Int) := of_decide_eq_true g1
        refine ⟨g1, by omega, fun at_ a0 a1 => ?_⟩
        obtain ⟨j, rfl⟩ : ∃ j : Nat, at_ = j := ⟨at_.toNat, by omega⟩
        have hj : j < ps.length := by omega
        obtain ⟨p, hp⟩ : ∃ p, ps[j]? = some p := ⟨ps[j], by simp [hj]⟩
        obtain ⟨f, hf⟩ : ∃ f, m.2[j]? = some f := ⟨m.2[j]'(by omega), by simp [show j < m.2.length by omega]⟩
        obtain ⟨hfs, hFp⟩ := hFv j f p hf hp
        obtain ⟨v', hv'⟩ := Option.isSome_iff_exists.mp hfs
        have ef : atI (m.2.map L2.T.s) (j : Int) = some (.s f) := atI_nat (by rw [List.getElem?_map, hf]; rfl)
        refine ⟨ims_map im_tK ks, _, pairs_tK ks, _, look_dict gk.nd hkn, ims_map im_tM _, _, pairs_tM _, _, look_tM hnm hm, _, ef, rfl, ?_⟩
        refine ⟨rfl, him, p, atI_nat hp, ks, ds, f, p, room, v', rfl, gk, hI, hv', hps j f p hf hp, hFp, hOp p (List.mem_of_getElem? hp), ro1, ro4, fun c c0 c1 c2 => ?_⟩
        have e2 : ((j : Int) + 1) = ((j + 1 : Nat) : Int) := by omega
        have e3 : cutT ps (some ((j : Int) + 1)) none = ps.drop (j + 1) := by rw [e2]; exact cut_drop (by omega)
        rw [cut_take (by omega)]
        have hu' : ∀ q ∈ ps.take j ++ [c], Ok (n + 30) q := fun q hq' => by
          rcases List.mem_append.mp hq' with z | z
          · exact (hOp q (List.mem_of_mem_take z)).le (by omega)
          · rw [List.mem_singleton.mp z]; exact c1
        have hu2 : ∀ q ∈ ps.drop (j + 1), Ok (n + 30) q := fun q hq' => (hOp q (List.mem_of_mem_drop hq')).le (by omega)
        have hu3 : ∀ q ∈ ps.take j ++ [c] ++ ps.drop (j + 1), Ok (n + 30) q := fun q hq' => (List.mem_append.mp hq').elim (hu' q) (hu2 q)
        have hi1 : L2.T.ims (ps.take j) = true := ims_all fun q hq' => (hu' q (by simp [hq'])).im
        have hi2 : L2.T.ims [c] = true := by simp [L2.T.ims, c1.im]
        have hi3 : L2.T.ims (ps.take j ++ [c]) = true := ims_all fun q hq' => (hu' q hq').im
        have hi4 : L2.T.ims (ps.drop (j + 1)) = true := ims_all fun q hq' => (hu2 q hq').im
        refine ⟨small_of (by simp; omega), hi1, hi2, him, small_of (by rw [e3]; simp; omega), hi3, by rw [e3]; exact hi4, ?_⟩
        rw [e3]
        have en : n + 1 + 30 = n + 30 + 1 := by omega
        rw [en] at hq
        refine hq _ (isN_mk gk hm (by simp; omega) fun i f' p' hf' hp' => ?_) (.mkp rfl (by simp; omega) hu3) ?_
        · by_cases hij : i = j
          · subst hij
            rw [hf] at hf'
            cases hf'
            rw [List.append_assoc, List.getElem?_append_right (by simp; omega)] at hp'
            have : i - (ps.take i).length = 0 := by simp; omega
            rw [this] at hp'
            cases hp'
            exact c0
          · refine isN_le (hps i f' p' hf' ?_) (by omega)
            rw [← hp']
            by_cases hlt : i < j
            · rw [List.append_assoc, List.getElem?_append_left (by simp; omega), List.getElem?_take_of_lt hlt]
            · rw [List.getElem?_append_right (by simp; omega)]
              simp
              congr 1
              omega
        · rw [wt_pr, wt_pr, sum_mid hp]
          have s1 := sum_le_up (n := n) (d := 30) (ps := ps.take j) fun q hq' => hOp q (List.mem_of_mem_take hq')
          have s2 := sum_le_up (n := n) (d := 30) (ps := ps.drop (j + 1)) fun q hq' => hOp q (List.mem_of_mem_drop hq')
          rw [List.map_append, List.map_append, List.sum_append, List.sum_append, s1, s2]
          simp only [List.map_cons, List.map_nil, List.sum_cons, List.sum_nil]
          omega
theorem ok_whole (T : Txt K mg a) : FnOk P w K mg base CX0 1 a.f_whole a.d_whole ["_law_number"] (spQ K psWhole) := by
  refine T.F_whole.okQ sc_whole (fun ts Q h => ?_) (fun cdv A outer s H E hr => ?_)
  · obtain ⟨i, rfl, _⟩ := h; rfl
  · have hu := hu_of hr
    refine ⟨_, _, ((qss_one (qs_ret (qe_and (QPF.w (qe_callB (call_isi2 rfl) sim_isi (by rfl) T.b_isinstance (by kernel_rfl) (qa_cons (qv 0) (qa_cons (QPF.w (qe_ty (n := "int") rfl T.b_int (by kernel_rfl))) (QPAF.w qa_nil))))) (qe_one (qe_not (QPF.w (qe_callB (call_isi2 rfl) sim_isi (by rfl) T.b_isinstance (by kernel_rfl) (qa_cons (qv 0) (qa_cons (QPF.w (qe_ty (n := "bool") rfl T.b_bool (by kernel_rfl))) (QPAF.w qa_nil))))))))))), fun ts Q h => ?_⟩
    obtain ⟨i, rfl, hq⟩ := h
    exact ⟨rfl, rfl, hq⟩
theorem ok_right (T : Txt K mg a) (n : Nat) : FnOk P w K mg base CX0 (n + 4) a.f_right a.d_right ["_law_kinds_here", "_law_value_here"] (spQ K (psRight n)) := by
  have G_makers := ok_makers (P := P) (w := w) (base := base) T n
  have G_counts := ok_counts (P := P) (w := w) (base := base) T
  have G_key := ok_key (P := P) (w := w) (base := base) T
  have G_size := ok_size (P := P) (w := w) (base := base) T
  have G_whole := ok_whole (P := P) (w := w) (base := base) T
  refine T.F_right.okQ sc_right (fun ts Q h => ?_) (fun cdv A outer s H E hr => ?_)
  · obtain ⟨ks, k, t, rfl, _⟩ := h; rfl
  · have hu := hu_of hr
    refine ⟨_, _, ((qss_cons (qs_set (i := 2) sc_right.nd rfl (Or.inl rfl) (qe_call G_makers (hr.mono (by omega)) rfl T.m_makers T.F_makers.kp T.b_makers (qa_cons (qv 1) (QPAF.w qa_nil))))
  (qss_cons (qs_set (i := 3) sc_right.nd rfl (Or.inl rfl) qe_dnew)
  (qss_cons (qs_for (g := (Tg.nm 4)) PassesOwn.never rfl (qj_name (i := 2) (pv 2)) (pg_name (i := 4) sc_right.nd rfl (Or.inl rfl))
  (qss_one (qs_put (i := 3) hu (pv 3) (qv 4) (QPF.w (qe_count (qv 2) (qv 4))))))
  (qss_cons (qs_set (i := 5) sc_right.nd rfl (Or.inr rfl) (qe_call G_counts (hr.mono (by omega)) rfl T.m_counts T.F_counts.kp T.b_counts (qa_cons (qv 1) (QPAF.w qa_nil))))
  (qss_cons (qs_if (QPW.pt (qw_or (qt_not (qt_truth (QPF.w (qe_callB (call_isi2 rfl) sim_isi (by rfl) T.b_isinstance (by kernel_rfl) (qa_cons (qv 5) (qa_cons (QPF.w (qe_ty (n := "dict") rfl T.b_dict (by kernel_rfl))) (QPAF.w qa_nil))))))) (qw_or (qt_cmp (op_neD1 hu) sim_eqD (nomark _) (qv 5) (qv 3)) (qw_or1 (qt_not (qt_truth (QPF.w (qe_callB (call_allK rfl rfl) sim_all (by rfl) T.b_all (by kernel_rfl) (qa_cons (QPF.w (qe_frz (i := 5) (qe_comp rfl (qi_fd (qv 5)) (N' := ["_law_maker", "_law_seen"]) (.own rfl (.got (i := 5) rfl rfl (.inl rfl) .nil)) (qb_mk0 (g := (Tg.nm 0)) (fun _ _ _ _ _ => ⟨(pg_name (i := 0) (show (["_law_maker", "_law_seen"] : List Str).Nodup from by decide +kernel) rfl (Or.inl rfl)), (qe_call G_whole (hr.mono (by omega)) rfl T.m_whole T.F_whole.kp T.b_whole (qa_cons (qe_ixf (qv 1) (qv 0)) (QPAF.w qa_nil)))⟩))))) (QPAF.w qa_nil))))))))))
  (qss_one (qs_ret qe_bl))
  qss_nil)
  (qss_cons (qs_put (i := 5) hu (pv 5) (QPF.w qe_str) (QPF.w qe_int))
  (qss_cons (qs_set (i := 6) sc_right.nd rfl (Or.inl rfl) (qe_call G_key (hr.mono (by omega)) rfl T.m_key T.F_key.kp T.b_key (qa_cons (qv 0) (qa_cons (qv 1) (QPAF.w qa_nil)))))
  (qss_cons (qs_if (QPW.pt (qw_or (qt_not (qt_truth (QPF.w (qe_callB (call_isi2 rfl) sim_isi (by rfl) T.b_isinstance (by kernel_rfl) (qa_cons (qv 6) (qa_cons (QPF.w (qe_ty (n := "list") rfl T.b_list (by kernel_rfl))) (QPAF.w qa_nil))))))) (qw_or1 (qt_not (qt_truth (QPF.w (qe_callB (call_allK rfl rfl) sim_all (by rfl) T.b_all (by kernel_rfl) (qa_cons (QPF.w (qe_comp rfl (qi_list (qv 6)) (N' := ["_law_number"]) (.own rfl .nil) (qb_mk0 (g := (Tg.nm 0)) (fun _ _ _ _ _ => ⟨(pg_name (i := 0) (show (["_law_number"] : List Str).Nodup from by decide +kernel) rfl (Or.inl rfl)), (qe_call G_whole (hr.mono (by omega)) rfl T.m_whole T.F_whole.kp T.b_whole (qa_cons (qv 0) (QPAF.w qa_nil)))⟩)))) (QPAF.w qa_nil)))))))))
  (qss_one (qs_ret qe_bl))
  qss_nil)
  (qss_cons (qs_append (i := 6) (pv 6) qe_int)
  (qss_one (qs_ret (qe_and (QPF.w (qe_call G_whole (hr.mono (by omega)) rfl T.m_whole T.F_whole.kp T.b_whole (qa_cons (QPF.w (qe_call G_size (hr.mono (by omega)) rfl T.m_size T.F_size.kp T.b_size (qa_cons (qv 1) (QPAF.w qa_nil)))) (QPAF.w qa_nil)))) (qe_and (QPF.w (qe_cmp (op_eq3 hu rfl) sim_eq3 (nomark _) (QPF.w (qe_call G_size (hr.mono (by omega)) rfl T.m_size T.F_size.kp T.b_size (qa_cons (qv 1) (QPAF.w qa_nil)))) (QPF.w (qe_callB (call_len3 rfl) sim_len (by rfl) T.b_len (by kernel_rfl) (qa_cons (qv 2) (QPAF.w qa_nil)))))) (qe_one (qe_cmp (op_eqD1 hu) sim_eqD (nomark _) (QPF.w (qe_call G_counts (hr.mono (by omega)) rfl T.m_counts T.F_counts.kp T.b_counts (qa_cons (qv 1) (QPAF.w qa_nil)))) (qv 3))))))))))))))))), fun ts Q h => ?_⟩
    obtain ⟨ks, k, t, rfl, gk, hN, hO, hw, hq⟩ := h
    have hl := pre_len hN
    have ul := uniq_len (xs := pre n t)
    refine ⟨ks, k, t, rfl, hN, hO, hw, ?_⟩
    generalize hX : pre n t = xs at hl ul ⊢
    have tl : (tab (uniq xs) (cntS xs)).length ≤ 500 := by rw [tab_len]; omega
    refine ⟨fun i q => ∃ (o4 : Sl) (ds : Ds), q = [.r (tKs ks), .r t, .r (.l (xs.map .s)), .o (dT ds), o4, .no, .no] ∧ ds = tab (uniq (xs.take i)) (cntS xs), ⟨_, _, rfl, rfl⟩, ?_, ?_⟩
    · rintro i x q hx ⟨o4, ds, rfl, rfl⟩
      rw [List.getElem?_map] at hx
      obtain ⟨m, hm, rfl⟩ := Option.map_eq_some_iff.mp hx
      have hi := (List.getElem?_eq_some_iff.mp hm).1
      have ul' := uniq_len (xs := xs.take i)
      rw [List.length_take] at ul'
      refine ⟨_, rfl, ?_⟩
      refine ⟨fls_strs xs, rfl, ?_⟩
      refine ⟨small1000 (by rw [List.length_map, tab_len]; omega), imk_dT _, rfl, .r (.s m), tab (uniq (xs.take (i + 1))) (cntS xs), ?_, rfl⟩
      have e : putT ((tab (uniq (xs.take i)) (cntS xs)).map dEn) (.inr m) (L2.T.i ((xs.map L2.T.s).countP fun z => eqV z.v (L2.T.s m).v : Nat)) = (tab (uniq (xs.take (i + 1))) (cntS xs)).map dEn := by
        rw [cnt_T, put_dT]
        show (putD (tab (uniq (xs.take i)) (cntS xs)) m (cntS xs m)).map dEn = _
        rw [due_step, take_one' hm]
      exact congrArg (fun z => [Sl.r (tKs ks), .r t, .r (.l (xs.map .s)), .o (.d z), .r (.s m), .no, .no]) e
    · rintro q ⟨o4, ds, rfl, rfl⟩
      rw [List.length_map, List.take_length]
      refine ⟨ks, n, k, t, rfl, hN, hO, hw, ?_⟩
      rw [hX]
      have flD : (((tab (uniq xs) (cntS xs)).map dEn).all fun p => p.2.fl) = true := by rw [List.all_map, List.all_eq_true]; exact fun _ _ => rfl
      refine ⟨rfl, rfl, flD, imk_dT _, fun o vs => ?_⟩
      have hT : (tab (uniq xs) (cntS xs)).length ≤ 500 := tl
      have hmem : ∀ p ∈ tab (uniq xs) (cntS xs), lk (tab (uniq xs) (cntS xs)) p.1 = some (cntS xs p.1) := fun p hp => by
        obtain ⟨m, hm, rfl⟩ := List.mem_map.mp hp
        rw [tab_lk, if_pos hm]
      generalize hD : tab (uniq xs) (cntS xs) = D at hT hmem flD ⊢
      refine ⟨small1000 (by rw [List.length_map, List.length_map]; omega), fun i ys => ys = (D.take i).map fun _ => .b true, rfl, ?_, ?_⟩
      · rintro i x ys hx rfl
        rw [List.getElem?_map, List.getElem?_map, Option.map_map] at hx
        obtain ⟨p, hp, rfl⟩ := Option.map_eq_some_iff.mp hx
        refine ⟨_, rfl, .i (cntS xs p.1), by rw [look_dT, hmem p (List.mem_of_getElem? hp)]; rfl, cntS xs p.1, rfl, ?_⟩
        show _ ++ [L2.T.b true] = _
        rw [take_one' hp, List.map_append]
        rfl
      · rintro ys rfl
        rw [List.length_map, List.length_map, List.take_length]
        have fb : fls (D.map fun _ => L2.T.b true) = true := by unfold fls; rw [List.all_map, List.all_eq_true]; exact fun _ _ => rfl
        refine ⟨fb, _, bls_map (fun _ => true) D, ?_⟩
        have al : (D.map fun _ => true).all id = true := by rw [List.all_map, List.all_eq_true]; exact fun _ _ => rfl
        rw [al]
        refine ⟨small1000 (by rw [List.length_map]; omega), imk_dT _, rfl, ?_⟩
        refine ⟨ks, n, k, t, rfl, gk, hN, hO, hw, ?_⟩
        rw [hX]
        refine ⟨rfl, small1000 (by rw [List.length_map, List.length_map]; omega), fun i ys => ys = (xs.take i).map fun _ => .b true, rfl, ?_, ?_⟩
        · rintro i x ys hx rfl
          rw [List.getElem?_map, List.getElem?_map, Option.map_map] at hx
          obtain ⟨p, hp, rfl⟩ := Option.map_eq_some_iff.mp hx
          refine ⟨_, rfl, num ks p, rfl, ?_⟩
          show _ ++ [L2.T.b true] = _
          rw [take_one' hp, List.map_append]
          rfl
        · rintro ys rfl
          rw [List.length_map, List.length_map, List.take_length]
          refine ⟨_, bls_map (fun _ => true) xs, ?_⟩
          have al2 : (xs.map fun _ => true).all id = true := by rw [List.all_map, List.all_eq_true]; exact fun _ _ => rfl
          rw [al2]
          refine ⟨small1000 (by rw [List.length_map, List.length_map]; omega), ?_⟩
          refine ⟨ks, n, k, t, rfl, hN, hO, hw, _, rfl, ?_⟩
          refine ⟨ks, n, k, t, rfl, hN, hO, hw, ?_⟩
          rw [hX]
          refine ⟨rfl, ?_⟩
          have el : decide (V.int (xs.length : Nat) = V.int ((xs.map L2.T.s).length : Nat)) = true := by rw [List.length_map]; simp
          refine ite2 (fun _ => ?_) (fun z => absurd el z)
          refine ⟨ks, n, k, t, rfl, hN, hO, hw, ?_⟩
          rw [hX, hD]
          exact ⟨rfl, flD, hq⟩
theorem ok_law (T : Txt K mg a) : FnOk P w K mg base CX0 70 a.f_law a.d_law ["_law_script"] (spLawQ K) := by
  have G_deal : FnOk P w K mg base CX0 1 a.f_deal a.d_deal ["_law_script", "_law_base"] (spDeal K) := ok_deal T
  have G_draw : FnOk P w K mg base CX0 1 a.f_draw a.d_draw ["_law_deal_here", "_law_many"] (spQ K psDraw) := draw_q (ok_draw T)
  have G_words := ok_words (P := P) (w := w) (base := base) T
  have G_kinds := ok_kinds (P := P) (w := w) (base := base) T
  have G_leasts := ok_leasts (P := P) (w := w) (base := base) T
  have G_value := ok_value (P := P) (w := w) (base := base) T 30
  have G_changed := ok_changed (P := P) (w := w) (base := base) T 30
  have G_right := ok_right (P := P) (w := w) (base := base) T 60
  have G_key := ok_key (P := P) (w := w) (base := base) T
  have G_ahead := ok_ahead (P := P) (w := w) (base := base) T 60
  refine T.F_law.lawQ (n := 11) (s1 := (defBody s_law).headD (.Pass ⟨0, 0, 0, 0⟩)) (rest := (defBody s_law).tail) sc_law rfl rfl (fun cdv A outer s H E hr => ?_)
  have hu := hu_of hr
  refine ⟨_, _, _, (ps_set (i := 1) sc_law.nd rfl (Or.inl rfl) (pe_call G_deal (hr.mono (by decide)) rfl T.m_deal T.F_deal.kp T.b_deal .nil pass0 (pa_cons (pv 0) (pa_cons pe_int pa_nil)))), ((qss_cons (qs_set (i := 2) sc_law.nd rfl (Or.inl rfl) (qe_call G_words (hr.mono (by omega)) rfl T.m_words T.F_words.kp T.b_words (qa_cons (qv 1) (qa_cons (QPF.w qe_int) (QPAF.w qa_nil)))))
  (qss_cons (qs_set (i := 3) sc_law.nd rfl (Or.inr rfl) (qe_call G_kinds (hr.mono (by omega)) rfl T.m_kinds T.F_kinds.kp T.b_kinds (qa_cons (qv 1) (qa_cons (qv 2) (QPAF.w qa_nil)))))
  (qss_cons (qs_set (i := 4) sc_law.nd rfl (Or.inr rfl) (qe_call G_leasts (hr.mono (by omega)) rfl T.m_leasts T.F_leasts.kp T.b_leasts (qa_cons (qv 3) (QPAF.w qa_nil))))
  (qss_cons (qs_comp (i := 5) sc_law.nd rfl (Or.inl rfl) rfl (qi_tup (qv 3)) (N' := ["_law_kind", "_law_makers_here", "_law_leasts_here"]) (.own rfl (.own rfl (.got (i := 4) rfl rfl (.inl rfl) .nil))) (qb_mk1 (g := (Tg.tp [0, 1])) (fun _ _ _ _ _ => ⟨(pg_tupK (K := K) (n := 2) rfl rfl (pgs_cons (pg_name (i := 0) (show (["_law_kind", "_law_makers_here", "_law_leasts_here"] : List Str).Nodup from by decide +kernel) rfl (Or.inl rfl) (Or.inr rfl)) (pgs_cons (pg_name (i := 1) (show (["_law_kind", "_law_makers_here", "_law_leasts_here"] : List Str).Nodup from by decide +kernel) rfl (Or.inl rfl) (Or.inr rfl)) pgs_nil))), (qt_cmp (op_din hu) sim_din rfl (qv 0) (qv 2)), (QPE.f (qv 0))⟩)))
  (qss_cons (qs_if (qt_cmp (op_eq3 hu rfl) sim_eq3 (nomark _) (qv 5) (QPF.w (qe_lst qa_nil)))
  (qss_one (qs_ret qe_bl))
  qss_nil)
  (qss_cons (qs_set (i := 6) sc_law.nd rfl (Or.inl rfl) (QPE.f (qe_ix (qv 5) (QPF.w (qe_call G_draw (hr.mono (by omega)) rfl T.m_draw T.F_draw.kp T.b_draw (qa_cons (qv 1) (qa_cons (QPF.w (qe_callB (call_len3 rfl) sim_len (by rfl) T.b_len (by kernel_rfl) (qa_cons (qv 5) (QPAF.w qa_nil)))) (QPAF.w qa_nil))))))))
  (qss_cons (qs_set (i := 7) sc_law.nd rfl (Or.inl rfl) (qe_lst qa_nil))
  (qss_cons (qs_for (g := (Tg.nm 8)) PassesOwn.never rfl (qj_range1 rfl T.b_range (qa_cons (QPF.w qe_int) (QPAF.w qa_nil))) (pg_name (i := 8) sc_law.nd rfl (Or.inl rfl))
  (qss_cons (qs_set (i := 9) sc_law.nd rfl (Or.inl rfl) (qe_callB (call_max2 rfl) sim_i2 (by rfl) T.b_max (by kernel_rfl) (qa_cons (qe_ixd (qv 4) (qv 6)) (qa_cons (QPF.w (qe_add (QPF.w qe_int) (QPF.w (qe_call G_draw (hr.mono (by omega)) rfl T.m_draw T.F_draw.kp T.b_draw (qa_cons (qv 1) (qa_cons (qe_ix (QPF.w (qe_lst (qa_consF qe_int (qa_consF qe_int qa_nil)))) (QPF.w (qe_call G_draw (hr.mono (by omega)) rfl T.m_draw T.F_draw.kp T.b_draw (qa_cons (qv 1) (qa_cons (QPF.w qe_int) (QPAF.w qa_nil)))))) (QPAF.w qa_nil))))))) (QPAF.w qa_nil)))))
  (qss_one (qs_append (i := 7) (pv 7) (qe_call G_value (hr.mono (by omega)) rfl T.m_value T.F_value.kp T.b_value (qa_cons (qv 1) (qa_cons (qv 3) (qa_cons (qv 4) (qa_cons (qv 6) (qa_cons (qv 9) (QPAF.w qa_nil)))))))))))
  (qss_cons (qs_append (i := 7) (pv 7) (qe_call G_changed (hr.mono (by omega)) rfl T.m_changed T.F_changed.kp T.b_changed (qa_cons (qv 1) (qa_cons (qv 3) (qa_cons (qv 4) (qa_cons (qv 6) (qa_cons (qe_ix (qv 7) (QPF.w qe_int)) (qa_cons (QPF.w (qe_add (QPF.w qe_int) (QPF.w (qe_call G_draw (hr.mono (by omega)) rfl T.m_draw T.F_draw.kp T.b_draw (qa_cons (qv 1) (qa_cons (QPF.w qe_int) (QPAF.w qa_nil))))))) (QPAF.w qa_nil)))))))))
  (qss_cons (qs_if (qt_not (qt_truth (QPF.w (qe_callB (call_allK rfl rfl) sim_all (by rfl) T.b_all (by kernel_rfl) (qa_cons (QPF.w (qe_comp rfl (qi_list (qv 7)) (N' := ["_law_value_here", "_law_kinds_here"]) (.own rfl (.got (i := 3) rfl rfl (.inl rfl) .nil)) (qb_mk0 (g := (Tg.nm 0)) (fun _ _ _ _ _ => ⟨(pg_name (i := 0) (show (["_law_value_here", "_law_kinds_here"] : List Str).Nodup from by decide +kernel) rfl (Or.inl rfl)), (qe_call G_right (hr.mono (by omega)) rfl T.m_right T.F_right.kp T.b_right (qa_cons (qv 1) (qa_cons (qv 0) (QPAF.w qa_nil))))⟩)))) (QPAF.w qa_nil))))))
  (qss_one (qs_ret qe_bl))
  qss_nil)
  (qss_cons (qs_comp (i := 10) sc_law.nd rfl (Or.inl rfl) rfl (qi_list (qv 7)) (N' := ["_law_value_here", "_law_kinds_here"]) (.own rfl (.got (i := 3) rfl rfl (.inl rfl) .nil)) (qb_mk0 (g := (Tg.nm 0)) (fun _ _ _ _ _ => ⟨(pg_name (i := 0) (show (["_law_value_here", "_law_kinds_here"] : List Str).Nodup from by decide +kernel) rfl (Or.inl rfl)), (qe_call G_key (hr.mono (by omega)) rfl T.m_key T.F_key.kp T.b_key (qa_cons (qv 1) (qa_cons (qv 0) (QPAF.w qa_nil))))⟩)))
  (qss_cons (qs_for (g := (Tg.nm 8)) PassesOwn.never rfl (qj_range1 rfl T.b_range (qa_cons (QPF.w qe_int) (QPAF.w qa_nil))) (pg_name (i := 8) sc_law.nd rfl (Or.inl rfl))
  (qss_one (qs_for (g := (Tg.nm 11)) PassesOwn.never rfl (qj_range1 rfl T.b_range (qa_cons (QPF.w qe_int) (QPAF.w qa_nil))) (pg_name (i := 11) sc_law.nd rfl (Or.inl rfl))
  (qss_cons (qs_set (i := 12) sc_law.nd rfl (Or.inl rfl) (qe_call G_ahead (hr.mono (by omega)) rfl T.m_ahead T.F_ahead.kp T.b_ahead (qa_cons (qv 3) (qa_cons (qv 6) (qa_cons (qe_ix (qv 7) (qv 8)) (qa_cons (qe_ix (qv 7) (qv 11)) (QPAF.w qa_nil)))))))
  (qss_one (qs_if (qt_cmp op_ne sim_ne (nomark _) (qv 12) (QPF.w (qe_add (qe_ix (QPF.w (qe_lst (qa_consF qe_int (qa_consF (qe_neg (QPF.w qe_int)) qa_nil)))) (QPF.w (qe_callTy call_int1 sim_int (by rfl) T.b_int (by kernel_rfl) (qa_cons (QPF.w (qe_cmp (op_ltL hu rfl) sim_ltL (nomark _) (qe_ix (qv 10) (qv 8)) (qe_ix (qv 10) (qv 11)))) (QPAF.w qa_nil))))) (QPF.w (qe_callTy call_int1 sim_int (by rfl) T.b_int (by kernel_rfl) (qa_cons (QPF.w (qe_cmp (op_gtL hu rfl) sim_gtL (nomark _) (qe_ix (qv 10) (qv 8)) (qe_ix (qv 10) (qv 11)))) (QPAF.w qa_nil)))))))
  (qss_one (qs_ret qe_bl))
  qss_nil))))))
  (qss_one (qs_ret qe_bl))))))))))))))), fun p0 ns D hS hlen k => ?_, fun ns hlen => ?_⟩
  · refine ⟨_, rfl, p0, ns, _, rfl, hS, hlen, by decide, by decide, fun d l H1 fd fl D1 s1 => ?_⟩
    exact k d l H1 fd fl D1 s1
  · refine ⟨30, rfl, by decide, by decide, fun ws lw nw wl => ?_⟩
    refine ⟨ws, rfl, by omega, nw, fun ks gk nms => ?_⟩
    refine ⟨ks, rfl, gk, fun ds hI hZ => ?_⟩
    have k1 := gk.k1
    have k2 := gk.k2
    refine ⟨small1000 (by rw [List.length_map]; omega), fun i ys => ys = (((ks.take i).map (·.1)).filter (fnd ds)).map .s, rfl, ?_, ?_⟩
    · rintro i x ys hx rfl
      rw [List.getElem?_map] at hx
      obtain ⟨kd, hk, rfl⟩ := Option.map_eq_some_iff.mp hx
      refine ⟨_, rfl, ?_⟩
      have e : (lookT (ds.map dEn) (.inr kd.1)).isSome = fnd ds kd.1 := by rw [look_dT, Option.isSome_map]; rfl
      refine ite2 (fun g => ?_) (fun g => ?_)
      · have g : (lookT (ds.map dEn) (.inr kd.1)).isSome = true := g
        rw [e] at g
        refine ⟨rfl, ?_⟩
        show _ ++ [L2.T.s kd.1] = _
        rw [filter_take hk, List.map_append, if_pos g]
        rfl
      · have g : ¬ (lookT (ds.map dEn) (.inr kd.1)).isSome = true := g
        rw [e] at g
        show _ = _
        rw [filter_take hk, List.map_append, if_neg g]
        exact (List.append_nil _).symm
    · rintro ys rfl
      rw [List.length_map, List.take_length]
      cases hS : (ks.map (·.1)).filter (fnd ds) with
      | nil => exact ⟨rfl, ite2 (fun _ => rfl) (fun z => absurd rfl z)⟩
      | cons s0 sr =>
        refine ⟨by rw [fls_strs]; rfl, ite2 (fun z => absurd z (by simp [eqF, eqVs])) (fun _ => ?_)⟩
        have lS : (s0 :: sr).length ≤ 3 := by rw [← hS]; exact Nat.le_trans (List.length_filter_le _ _) (by rw [List.length_map]; exact k2)
        have lS' : ((s0 :: sr).map L2.T.s).length = (s0 :: sr).length := List.length_map _
        have lS0 : 0 < (s0 :: sr).length := by simp
        refine ⟨by omega, by omega, fun r r0 r1 => ?_⟩
        obtain ⟨own, eo, ho⟩ := atT_str (ws := s0 :: sr) r0 (by omega)
        rw [← hS] at ho
        obtain ⟨hon, hfo⟩ := List.mem_filter.mp ho
        obtain ⟨v, hv⟩ := Option.isSome_iff_exists.mp hfo
        have hb := hI.bd _ (lk_mem hv)
        have hb3 : bnd ds.length ≤ 21 := Int.le_trans (bnd_le (hI.len gk)) (by decide)
        simp only at hb
        refine ⟨_, eo, rfl, ?_⟩
        refine ⟨by decide, by decide, fun i q => ∃ (o8 o9 : Sl) (A VV : List L2.T), q = [.r (.z ns), .r .deal, .o (.l (ws.map .s)), .o (tKs ks), .o (dT ds), .o (.l ((s0 :: sr).map .s)), .o (.s own), .o (.l A), o8, o9, .no, .no, .no] ∧ A = VV ∧ VV.length = i ∧ ∀ z ∈ VV, isN ks 30 own z = true ∧ Ok 30 z ∧ wt 30 z ≤ 30 ∧ FdV ks ds 30 own z, ⟨_, _, _, [], rfl, rfl, rfl, fun _ z => nomatch z⟩, ?_, ?_⟩
        · rintro i x q hx ⟨o8, o9, A, VV, rfl, rfl, lV, hV⟩
          obtain ⟨rfl, hi⟩ := rng_at hx
          refine ⟨_, rfl, .i v, by rw [look_dT, hv]; rfl, by decide, by decide, fun r2 r20 r21 => ?_⟩
          obtain ⟨wd, ew, hw⟩ : ∃ wd : Int, atI [L2.T.i 6, L2.T.i 30] r2 = some (.i wd) ∧ (wd = 6 ∨ wd = 30) := by
            obtain ⟨n2, rfl⟩ : ∃ n2 : Nat, r2 = n2 := ⟨r2.toNat, by omega⟩
            match n2, r21 with
            | 0, _ => exact ⟨6, rfl, .inl rfl⟩
            | 1, _ => exact ⟨30, rfl, .inr rfl⟩
            | n2 + 2, h => omega
          refine ⟨_, ew, by omega, by omega, fun r3 r30 r31 => ?_⟩
          refine ⟨small1000 (by omega), ks, ds, own, _, v, rfl, gk, hI, hv, ?_, ?_, ?_, fun t t1 t2 t3 t4 => ?_⟩
          · dsimp only; split <;> omega
          · dsimp only; split <;> omega
          · dsimp only; split <;> omega
          have tw : (wt 30 t : Int) ≤ 30 := Int.le_trans t3 (by dsimp only; split <;> omega)
          refine ⟨_, _, _, A ++ [t], rfl, rfl, by simp [lV], fun z hz => ?_⟩
          rcases List.mem_append.mp hz with h | h
          · exact hV z h
          · rw [List.mem_singleton.mp h]; exact ⟨t1, t2, by omega, t4⟩
        · rintro q ⟨o8, o9, A, VV, rfl, rfl, lV, hV⟩
          rw [rng_len] at lV
          have lV : A.length = 5 := lV
          obtain ⟨t0, ht0⟩ : ∃ t0, A[0]? = some t0 := ⟨A[0]'(by omega), by simp [lV]⟩
          obtain ⟨a1, a2, a3, a4⟩ := hV t0 (List.mem_of_getElem? ht0)
          have e0 : atI A 0 = some t0 := atI_nat (j := 0) ht0
          refine ⟨small1000 (by omega), t0, e0, by decide, by decide, fun r5 r50 r51 => ⟨ks, ds, own, t0, 1 + r5, v, rfl, gk, hI, hv, a1, a4, a2, by omega, by omega, fun t' h1 h2 h3 => ?_⟩⟩
          have hW : ∀ z ∈ A ++ [t'], isN ks 60 own z = true ∧ Ok 60 z ∧ wt 60 z ≤ 60 := fun z hz => by
            rcases List.mem_append.mp hz with h | h
            · obtain ⟨b1, b2, b3, _⟩ := hV z h
              exact ⟨isN_le b1 (by omega), b2.le (by omega), by rw [wt_le b2 (by omega)]; omega⟩
            · rw [List.mem_singleton.mp h]; exact ⟨h1, h2, Nat.le_trans h3 (by omega)⟩
          have lW : (A ++ [t']).length = 6 := by simp [lV]
          refine ⟨small1000 (by omega), fun i ys => ys = ((A ++ [t']).take i).map fun _ => .b true, rfl, ?_, ?_⟩
          · rintro i x ys hx rfl
            obtain ⟨b1, b2, b3⟩ := hW x (List.mem_of_getElem? hx)
            refine ⟨_, rfl, ks, own, x, rfl, gk, b1, b2, by omega, ?_⟩
            show _ ++ [L2.T.b true] = _
            rw [take_one' hx, List.map_append]
            rfl
          · rintro ys rfl
            rw [List.take_length]
            refine ⟨_, bls_map (fun _ => true) (A ++ [t']), ?_⟩
            have al : ((A ++ [t']).map fun _ => true).all id = true := by rw [List.all_map, List.all_eq_true]; exact fun _ _ => rfl
            rw [al]
            refine ⟨small1000 (by omega), fun i ys => ys = ((A ++ [t']).take i).map fun z => .l (((pre 60 z).map (num ks)).map .i), rfl, ?_, ?_⟩
            · rintro i x ys hx rfl
              obtain ⟨b1, b2, b3⟩ := hW x (List.mem_of_getElem? hx)
              refine ⟨_, rfl, ks, 60, own, x, rfl, gk, b1, b2, by omega, ?_⟩
              show _ ++ [L2.T.l (((pre 60 x).map (num ks)).map .i)] = _
              rw [take_one' hx, List.map_append]
              rfl
            · rintro ys rfl
              rw [List.take_length]
              refine ⟨by decide, by decide, fun i q => ∃ (o8 o11 o12 : Sl), q = [.r (.z ns), .r .deal, .o (.l (ws.map .s)), .o (tKs ks), .o (dT ds), .o (.l ((s0 :: sr).map .s)), .o (.s own), .o (.l (A ++ [t'])), o8, o9, .o (.l ((A ++ [t']).map fun z => .l (((pre 60 z).map (num ks)).map .i))), o11, o12], ⟨_, _, _, rfl⟩, ?_, ?_⟩
              · rintro i x q hx ⟨o8, o11, o12, rfl⟩
                obtain ⟨rfl, hi⟩ := rng_at hx
                refine ⟨_, rfl, by decide, by decide, fun j q => ∃ (o11 o12 : Sl), q = [.r (.z ns), .r .deal, .o (.l (ws.map .s)), .o (tKs ks), .o (dT ds), .o (.l ((s0 :: sr).map .s)), .o (.s own), .o (.l (A ++ [t'])), .r (.i (0 + (i : Nat))), o9, .o (.l ((A ++ [t']).map fun z => .l (((pre 60 z).map (num ks)).map .i))), o11, o12], ⟨_, _, rfl⟩, ?_, ?_⟩
                · rintro j x q hx ⟨o11, o12, rfl⟩
                  obtain ⟨rfl, hj⟩ := rng_at hx
                  obtain ⟨y, hy⟩ : ∃ y, (A ++ [t'])[i]? = some y := ⟨(A ++ [t'])[i]'(by omega), by simp⟩
                  obtain ⟨z, hz⟩ : ∃ z, (A ++ [t'])[j]? = some z := ⟨(A ++ [t'])[j]'(by omega), by simp⟩
                  obtain ⟨b1, b2, b3⟩ := hW y (List.mem_of_getElem? hy)
                  obtain ⟨c1, c2, c3⟩ := hW z (List.mem_of_getElem? hz)
                  have ei : (0 + (i : Int)) = ((i : Nat) : Int) := by omega
                  have ej : (0 + (j : Int)) = ((j : Nat) : Int) := by omega
                  have ey : atI (A ++ [t']) (0 + (i : Int)) = some y := by rw [ei]; exact atI_nat hy
                  have ez : atI (A ++ [t']) (0 + (j : Int)) = some z := by rw [ej]; exact atI_nat hz
                  have ky : atI ((A ++ [t']).map fun z => L2.T.l (((pre 60 z).map (num ks)).map .i)) (0 + (i : Int)) = some (.l (((pre 60 y).map (num ks)).map .i)) := by rw [ei]; exact atI_nat (by rw [List.getElem?_map, hy]; rfl)
                  have kz : atI ((A ++ [t']).map fun z => L2.T.l (((pre 60 z).map (num ks)).map .i)) (0 + (j : Int)) = some (.l (((pre 60 z).map (num ks)).map .i)) := by rw [ej]; exact atI_nat (by rw [List.getElem?_map, hz]; rfl)
                  have eA := ahd_01 (num ks) ks (num_inj gk) b1 c1
                  refine ⟨_, rfl, _, ey, _, ez, ks, own, y, z, rfl, gk, b1, c1, b2, c2, ?_⟩
                  refine ⟨_, ky, _, kz, _, _, rfl, rfl, _, pick2 0 (-1) _, _, ky, _, kz, _, _, rfl, rfl, ?_⟩
                  refine ⟨rfl, ite2 (fun zz => ?_) (fun _ => ⟨_, _, rfl⟩)⟩
                  have zz : (!decide (V.int (ahd (num ks) 60 y z) = V.int ((if ltI ((pre 60 y).map (num ks)) ((pre 60 z).map (num ks)) = true then -1 else 0) + (if ltI ((pre 60 z).map (num ks)) ((pre 60 y).map (num ks)) = true then 1 else 0)))) = true := zz
                  rw [← eA] at zz
                  simp at zz
                · rintro q ⟨o11, o12, rfl⟩
                  exact ⟨_, _, _, rfl⟩
              · rintro q ⟨o8, o11, o12, rfl⟩
                rfl
end
theorem all_mk {l : PySem.W.OpenLaw} {w : World} {K : PySem.W.Frag} {h : Heap} {mg : Str → Option Value} {fa : Addr} (X : K.In h) (G : h.Ns mainGlobals mg) (hfa : mg "law" = some (.ref fa))
    {f_makers_in : Addr} {oc_makers_in kV_makers_in dc_makers_in pm_makers_in cd_makers_in ct_makers_in : Value} {od_makers_in an_makers_in : Option Addr} {sl_makers_in : Array (Option Value)}
    (a_makers_in : PySem.W.nsIn K mainGlobals "makers_in" = some (some (.ref f_makers_in)))
    (l_makers_in : K.lookup f_makers_in = some ⟨oc_makers_in, od_makers_in, .func (PySem.W.fnOf "makers_in" "makers_in" (defArgs s_makers_in) (defBody s_makers_in) (defScope s_makers_in) .none kV_makers_in dc_makers_in pm_makers_in an_makers_in cd_makers_in ct_makers_in), sl_makers_in⟩)
    (c_makers_in : PySem.W.codeIn K cd_makers_in "makers_in" = true) (k_makers_in : PySem.W.keepIn K (.ref f_makers_in) = true)
    {f_size : Addr} {oc_size kV_size dc_size pm_size cd_size ct_size : Value} {od_size an_size : Option Addr} {sl_size : Array (Option Value)}
    (a_size : PySem.W.nsIn K mainGlobals "size" = some (some (.ref f_size)))
    (l_size : K.lookup f_size = some ⟨oc_size, od_size, .func (PySem.W.fnOf "size" "size" (defArgs s_size) (defBody s_size) (defScope s_size) .none kV_size dc_size pm_size an_size cd_size ct_size), sl_size⟩)
    (c_size : PySem.W.codeIn K cd_size "size" = true) (k_size : PySem.W.keepIn K (.ref f_size) = true)
    {f_counts : Addr} {oc_counts kV_counts dc_counts pm_counts cd_counts ct_counts : Value} {od_counts an_counts : Option Addr} {sl_counts : Array (Option Value)}
    (a_counts : PySem.W.nsIn K mainGlobals "counts" = some (some (.ref f_counts)))
    (l_counts : K.lookup f_counts = some ⟨oc_counts, od_counts, .func (PySem.W.fnOf "counts" "counts" (defArgs s_counts) (defBody s_counts) (defScope s_counts) .none kV_counts dc_counts pm_counts an_counts cd_counts ct_counts), sl_counts⟩)
    (c_counts : PySem.W.codeIn K cd_counts "counts" = true) (k_counts : PySem.W.keepIn K (.ref f_counts) = true)
    {f_key : Addr} {oc_key kV_key dc_key pm_key cd_key ct_key : Value} {od_key an_key : Option Addr} {sl_key : Array (Option Value)}
    (a_key : PySem.W.nsIn K mainGlobals "key" = some (some (.ref f_key)))
    (l_key : K.lookup f_key = some ⟨oc_key, od_key, .func (PySem.W.fnOf "key" "key" (defArgs s_key) (defBody s_key) (defScope s_key) .none kV_key dc_key pm_key an_key cd_key ct_key), sl_key⟩)
    (c_key : PySem.W.codeIn K cd_key "key" = true) (k_key : PySem.W.keepIn K (.ref f_key) = true)
    {f_deal : Addr} {oc_deal kV_deal dc_deal pm_deal cd_deal ct_deal : Value} {od_deal an_deal : Option Addr} {sl_deal : Array (Option Value)}
    (a_deal : PySem.W.nsIn K mainGlobals "_law_deal" = some (some (.ref f_deal)))
    (l_deal : K.lookup f_deal = some ⟨oc_deal, od_deal, .func (PySem.W.fnOf "_law_deal" "_law_deal" (defArgs s_deal) (defBody s_deal) (defScope s_deal) .none kV_deal dc_deal pm_deal an_deal cd_deal ct_deal), sl_deal⟩)
    (c_deal : PySem.W.codeIn K cd_deal "_law_deal" = true) (k_deal : PySem.W.keepIn K (.ref f_deal) = true)
    {f_draw : Addr} {oc_draw kV_draw dc_draw pm_draw cd_draw ct_draw : Value} {od_draw an_draw : Option Addr} {sl_draw : Array (Option Value)}
    (a_draw : PySem.W.nsIn K mainGlobals "_law_draw" = some (some (.ref f_draw)))
    (l_draw : K.lookup f_draw = some ⟨oc_draw, od_draw, .func (PySem.W.fnOf "_law_draw" "_law_draw" (defArgs s_draw) (defBody s_draw) (defScope s_draw) .none kV_draw dc_draw pm_draw an_draw cd_draw ct_draw), sl_draw⟩)
    (c_draw : PySem.W.codeIn K cd_draw "_law_draw" = true) (k_draw : PySem.W.keepIn K (.ref f_draw) = true)
    {f_words : Addr} {oc_words kV_words dc_words pm_words cd_words ct_words : Value} {od_words an_words : Option Addr} {sl_words : Array (Option Value)}
    (a_words : PySem.W.nsIn K mainGlobals "_law_words" = some (some (.ref f_words)))
    (l_words : K.lookup f_words = some ⟨oc_words, od_words, .func (PySem.W.fnOf "_law_words" "_law_words" (defArgs s_words) (defBody s_words) (defScope s_words) .none kV_words dc_words pm_words an_words cd_words ct_words), sl_words⟩)
    (c_words : PySem.W.codeIn K cd_words "_law_words" = true) (k_words : PySem.W.keepIn K (.ref f_words) = true)
    {f_kinds : Addr} {oc_kinds kV_kinds dc_kinds pm_kinds cd_kinds ct_kinds : Value} {od_kinds an_kinds : Option Addr} {sl_kinds : Array (Option Value)}
    (a_kinds : PySem.W.nsIn K mainGlobals "_law_kinds" = some (some (.ref f_kinds)))
    (l_kinds : K.lookup f_kinds = some ⟨oc_kinds, od_kinds, .func (PySem.W.fnOf "_law_kinds" "_law_kinds" (defArgs s_kinds) (defBody s_kinds) (defScope s_kinds) .none kV_kinds dc_kinds pm_kinds an_kinds cd_kinds ct_kinds), sl_kinds⟩)
    (c_kinds : PySem.W.codeIn K cd_kinds "_law_kinds" = true) (k_kinds : PySem.W.keepIn K (.ref f_kinds) = true)
    {f_leasts : Addr} {oc_leasts kV_leasts dc_leasts pm_leasts cd_leasts ct_leasts : Value} {od_leasts an_leasts : Option Addr} {sl_leasts : Array (Option Value)}
    (a_leasts : PySem.W.nsIn K mainGlobals "_law_leasts" = some (some (.ref f_leasts)))
    (l_leasts : K.lookup f_leasts = some ⟨oc_leasts, od_leasts, .func (PySem.W.fnOf "_law_leasts" "_law_leasts" (defArgs s_leasts) (defBody s_leasts) (defScope s_leasts) .none kV_leasts dc_leasts pm_leasts an_leasts cd_leasts ct_leasts), sl_leasts⟩)
    (c_leasts : PySem.W.codeIn K cd_leasts "_law_leasts" = true) (k_leasts : PySem.W.keepIn K (.ref f_leasts) = true)
    {f_value : Addr} {oc_value kV_value dc_value pm_value cd_value ct_value : Value} {od_value an_value : Option Addr} {sl_value : Array (Option Value)}
    (a_value : PySem.W.nsIn K mainGlobals "_law_value" = some (some (.ref f_value)))
    (l_value : K.lookup f_value = some ⟨oc_value, od_value, .func (PySem.W.fnOf "_law_value" "_law_value" (defArgs s_value) (defBody s_value) (defScope s_value) .none kV_value dc_value pm_value an_value cd_value ct_value), sl_value⟩)
    (c_value : PySem.W.codeIn K cd_value "_law_value" = true) (k_value : PySem.W.keepIn K (.ref f_value) = true)
    {f_makers : Addr} {oc_makers kV_makers dc_makers pm_makers cd_makers ct_makers : Value} {od_makers an_makers : Option Addr} {sl_makers : Array (Option Value)}
    (a_makers : PySem.W.nsIn K mainGlobals "_law_makers" = some (some (.ref f_makers)))
    (l_makers : K.lookup f_makers = some ⟨oc_makers, od_makers, .func (PySem.W.fnOf "_law_makers" "_law_makers" (defArgs s_makers) (defBody s_makers) (defScope s_makers) .none kV_makers dc_makers pm_makers an_makers cd_makers ct_makers), sl_makers⟩)
    (c_makers : PySem.W.codeIn K cd_makers "_law_makers" = true) (k_makers : PySem.W.keepIn K (.ref f_makers) = true)
    {f_ahead : Addr} {oc_ahead kV_ahead dc_ahead pm_ahead cd_ahead ct_ahead : Value} {od_ahead an_ahead : Option Addr} {sl_ahead : Array (Option Value)}
    (a_ahead : PySem.W.nsIn K mainGlobals "_law_ahead" = some (some (.ref f_ahead)))
    (l_ahead : K.lookup f_ahead = some ⟨oc_ahead, od_ahead, .func (PySem.W.fnOf "_law_ahead" "_law_ahead" (defArgs s_ahead) (defBody s_ahead) (defScope s_ahead) .none kV_ahead dc_ahead pm_ahead an_ahead cd_ahead ct_ahead), sl_ahead⟩)
    (c_ahead : PySem.W.codeIn K cd_ahead "_law_ahead" = true) (k_ahead : PySem.W.keepIn K (.ref f_ahead) = true)
    {f_changed : Addr} {oc_changed kV_changed dc_changed pm_changed cd_changed ct_changed : Value} {od_changed an_changed : Option Addr} {sl_changed : Array (Option Value)}
    (a_changed : PySem.W.nsIn K mainGlobals "_law_changed" = some (some (.ref f_changed)))
    (l_changed : K.lookup f_changed = some ⟨oc_changed, od_changed, .func (PySem.W.fnOf "_law_changed" "_law_changed" (defArgs s_changed) (defBody s_changed) (defScope s_changed) .none kV_changed dc_changed pm_changed an_changed cd_changed ct_changed), sl_changed⟩)
    (c_changed : PySem.W.codeIn K cd_changed "_law_changed" = true) (k_changed : PySem.W.keepIn K (.ref f_changed) = true)
    {f_whole : Addr} {oc_whole kV_whole dc_whole pm_whole cd_whole ct_whole : Value} {od_whole an_whole : Option Addr} {sl_whole : Array (Option Value)}
    (a_whole : PySem.W.nsIn K mainGlobals "_law_whole" = some (some (.ref f_whole)))
    (l_whole : K.lookup f_whole = some ⟨oc_whole, od_whole, .func (PySem.W.fnOf "_law_whole" "_law_whole" (defArgs s_whole) (defBody s_whole) (defScope s_whole) .none kV_whole dc_whole pm_whole an_whole cd_whole ct_whole), sl_whole⟩)
    (c_whole : PySem.W.codeIn K cd_whole "_law_whole" = true) (k_whole : PySem.W.keepIn K (.ref f_whole) = true)
    {f_right : Addr} {oc_right kV_right dc_right pm_right cd_right ct_right : Value} {od_right an_right : Option Addr} {sl_right : Array (Option Value)}
    (a_right : PySem.W.nsIn K mainGlobals "_law_right" = some (some (.ref f_right)))
    (l_right : K.lookup f_right = some ⟨oc_right, od_right, .func (PySem.W.fnOf "_law_right" "_law_right" (defArgs s_right) (defBody s_right) (defScope s_right) .none kV_right dc_right pm_right an_right cd_right ct_right), sl_right⟩)
    (c_right : PySem.W.codeIn K cd_right "_law_right" = true) (k_right : PySem.W.keepIn K (.ref f_right) = true)
    {f_law : Addr} {oc_law kV_law dc_law pm_law cd_law ct_law : Value} {od_law an_law : Option Addr} {sl_law : Array (Option Value)}
    (a_law : PySem.W.nsIn K mainGlobals "law" = some (some (.ref f_law)))
    (l_law : K.lookup f_law = some ⟨oc_law, od_law, .func (PySem.W.fnOf "law" "law" (defArgs s_law) (defBody s_law) (defScope s_law) .none kV_law dc_law pm_law an_law cd_law ct_law), sl_law⟩)
    (c_law : PySem.W.codeIn K cd_law "law" = true) (k_law : PySem.W.keepIn K (.ref f_law) = true)
    (z_len : PySem.W.nsIn K mainGlobals "len" = some none)
    (z_all : PySem.W.nsIn K mainGlobals "all" = some none)
    (z_list : PySem.W.nsIn K mainGlobals "list" = some none)
    (z_tuple : PySem.W.nsIn K mainGlobals "tuple" = some none)
    (z_int : PySem.W.nsIn K mainGlobals "int" = some none)
    (z_bool : PySem.W.nsIn K mainGlobals "bool" = some none)
    (z_dict : PySem.W.nsIn K mainGlobals "dict" = some none)
    (z_reversed : PySem.W.nsIn K mainGlobals "reversed" = some none)
    (z_max : PySem.W.nsIn K mainGlobals "max" = some none)
    (z_min : PySem.W.nsIn K mainGlobals "min" = some none)
    (z_sum : PySem.W.nsIn K mainGlobals "sum" = some none)
    (z_range : PySem.W.nsIn K mainGlobals "range" = some none)
    (z_isinstance : PySem.W.nsIn K mainGlobals "isinstance" = some none)
    (z_zip : PySem.W.nsIn K mainGlobals "zip" = some none)
    (z_enumerate : PySem.W.nsIn K mainGlobals "enumerate" = some none)
    : ∃ fd : FuncData, (∀ (s : Shared) (v : Value), BindsTo s fd ⟨[v], []⟩ [("_law_script", v)]) ∧ ∀ base : Heap, K.In base → base.Ns mainGlobals mg → FnOk l.prog w K mg base CX0 70 fa fd ["_law_script"] (spLawQ K) := by
  have e := hfa.symm.trans (PySem.W.mg_of X G a_law)
  cases e
  have F_makers_in := fun_mk (st := s_makers_in) l_makers_in c_makers_in k_makers_in
  have b_makers_in := F_makers_in.binds (ps := ["value"]) fun _ _ _ _ _ _ us hl => match us, hl with | [_], _ => rfl
  have F_size := fun_mk (st := s_size) l_size c_size k_size
  have b_size := F_size.binds (ps := ["value"]) fun _ _ _ _ _ _ us hl => match us, hl with | [_], _ => rfl
  have F_counts := fun_mk (st := s_counts) l_counts c_counts k_counts
  have b_counts := F_counts.binds (ps := ["value"]) fun _ _ _ _ _ _ us hl => match us, hl with | [_], _ => rfl
  have F_key := fun_mk (st := s_key) l_key c_key k_key
  have b_key := F_key.binds (ps := ["kinds", "value"]) fun _ _ _ _ _ _ us hl => match us, hl with | [_, _], _ => rfl
  have F_deal := fun_mk (st := s_deal) l_deal c_deal k_deal
  have b_deal := F_deal.binds (ps := ["_law_script", "_law_base"]) fun _ _ _ _ _ _ us hl => match us, hl with | [_, _], _ => rfl
  have F_draw := fun_mk (st := s_draw) l_draw c_draw k_draw
  have b_draw := F_draw.binds (ps := ["_law_deal_here", "_law_many"]) fun _ _ _ _ _ _ us hl => match us, hl with | [_, _], _ => rfl
  have F_words := fun_mk (st := s_words) l_words c_words k_words
  have b_words := F_words.binds (ps := ["_law_deal_here", "_law_many"]) fun _ _ _ _ _ _ us hl => match us, hl with | [_, _], _ => rfl
  have F_kinds := fun_mk (st := s_kinds) l_kinds c_kinds k_kinds
  have b_kinds := F_kinds.binds (ps := ["_law_deal_here", "_law_words_here"]) fun _ _ _ _ _ _ us hl => match us, hl with | [_, _], _ => rfl
  have F_leasts := fun_mk (st := s_leasts) l_leasts c_leasts k_leasts
  have b_leasts := F_leasts.binds (ps := ["_law_kinds_here"]) fun _ _ _ _ _ _ us hl => match us, hl with | [_], _ => rfl
  have F_value := fun_mk (st := s_value) l_value c_value k_value
  have b_value := F_value.binds (ps := ["_law_deal_here", "_law_kinds_here", "_law_leasts_here", "_law_kind", "_law_room"]) fun _ _ _ _ _ _ us hl => match us, hl with | [_, _, _, _, _], _ => rfl
  have F_makers := fun_mk (st := s_makers) l_makers c_makers k_makers
  have b_makers := F_makers.binds (ps := ["_law_value_here"]) fun _ _ _ _ _ _ us hl => match us, hl with | [_], _ => rfl
  have F_ahead := fun_mk (st := s_ahead) l_ahead c_ahead k_ahead
  have b_ahead := F_ahead.binds (ps := ["_law_kinds_here", "_law_kind", "_law_one", "_law_other"]) fun _ _ _ _ _ _ us hl => match us, hl with | [_, _, _, _], _ => rfl
  have F_changed := fun_mk (st := s_changed) l_changed c_changed k_changed
  have b_changed := F_changed.binds (ps := ["_law_deal_here", "_law_kinds_here", "_law_leasts_here", "_law_kind", "_law_value_here", "_law_room"]) fun _ _ _ _ _ _ us hl => match us, hl with | [_, _, _, _, _, _], _ => rfl
  have F_whole := fun_mk (st := s_whole) l_whole c_whole k_whole
  have b_whole := F_whole.binds (ps := ["_law_number"]) fun _ _ _ _ _ _ us hl => match us, hl with | [_], _ => rfl
  have F_right := fun_mk (st := s_right) l_right c_right k_right
  have b_right := F_right.binds (ps := ["_law_kinds_here", "_law_value_here"]) fun _ _ _ _ _ _ us hl => match us, hl with | [_, _], _ => rfl
  have F_law := fun_mk (st := s_law) l_law c_law k_law
  have b_law := F_law.binds (ps := ["_law_script"]) fun _ _ _ _ _ _ us hl => match us, hl with | [_], _ => rfl
  have T : Txt K mg ⟨f_makers_in, _, f_size, _, f_counts, _, f_key, _, f_deal, _, f_draw, _, f_words, _, f_kinds, _, f_leasts, _, f_value, _, f_makers, _, f_ahead, _, f_changed, _, f_whole, _, f_right, _, fa, _⟩ := ⟨F_makers_in, PySem.W.mg_of X G a_makers_in, b_makers_in, F_size, PySem.W.mg_of X G a_size, b_size, F_counts, PySem.W.mg_of X G a_counts, b_counts, F_key, PySem.W.mg_of X G a_key, b_key, F_deal, PySem.W.mg_of X G a_deal, b_deal, F_draw, PySem.W.mg_of X G a_draw, b_draw, F_words, PySem.W.mg_of X G a_words, b_words, F_kinds, PySem.W.mg_of X G a_kinds, b_kinds, F_leasts, PySem.W.mg_of X G a_leasts, b_leasts, F_value, PySem.W.mg_of X G a_value, b_value, F_makers, PySem.W.mg_of X G a_makers, b_makers, F_ahead, PySem.W.mg_of X G a_ahead, b_ahead, F_changed, PySem.W.mg_of X G a_changed, b_changed, F_whole, PySem.W.mg_of X G a_whole, b_whole, F_right, PySem.W.mg_of X G a_right, b_right, F_law, PySem.W.mg_of X G a_law, b_law, PySem.W.mg_none_of X G z_len, PySem.W.mg_none_of X G z_all, PySem.W.mg_none_of X G z_list, PySem.W.mg_none_of X G z_tuple, PySem.W.mg_none_of X G z_int, PySem.W.mg_none_of X G z_bool, PySem.W.mg_none_of X G z_dict, PySem.W.mg_none_of X G z_reversed, PySem.W.mg_none_of X G z_max, PySem.W.mg_none_of X G z_min, PySem.W.mg_none_of X G z_sum, PySem.W.mg_none_of X G z_range, PySem.W.mg_none_of X G z_isinstance, PySem.W.mg_none_of X G z_zip, PySem.W.mg_none_of X G z_enumerate⟩
  exact ⟨PySem.W.fnOf "law" "law" (defArgs s_law) (defBody s_law) (defScope s_law) .none kV_law dc_law pm_law an_law cd_law ct_law, fun s v => .of_eq rfl, fun base _ _ => ok_law T⟩
theorem walk {l : PySem.W.OpenLaw} {q : Program} {loose : List Str} {XP : (Str → Option Value) → Heap → Prop} {YP : World → Heap → Prop} {d : DefRec} {K : Params → PySem.W.Frag} (hn : l.most = some 63) (hdf : d.params.defaults = [])
    (hY : ∀ (w : World) (h : Heap), YP w h → (K w.params).In h)
    (F : ∀ (w : World) (mg : Str → Option Value) (fa : Addr) (h : Heap), (K w.params).In h → h.Ns mainGlobals mg → mg d.name = some (.ref fa) →
      ∃ fd : FuncData, (∀ (s : Shared) (u : Value), BindsTo s fd ⟨[u], []⟩ [("_law_script", u)]) ∧ ∀ base : Heap, (K w.params).In base → base.Ns mainGlobals mg → FnOk l.prog w (K w.params) mg base CX0 70 fa fd ["_law_script"] (spLawQ (K w.params))) :
    PySem.W.WalkO q loose XP YP l.row.toRowW d [] (fun f vs => PySem.call f vs) :=
  L2.walk_of (n := 63) (k := 70) (x := "_law_script") (CX := fun _ => CX0) (sp := fun w => spLawQ (K w.params)) hn (by decide) hdf ⟨rfl, by decide, by decide⟩ hY F (fun _ _ a ns hl hO hS => ⟨a, ns, rfl, fz_of hO hS, hl, fun _ => rfl⟩) fun _ _ _ _ _ z => z
end K13
open PySem PySem.W PyProof.Rows
set_option maxRecDepth 100000 in
set_option maxHeartbeats 0 in
theorem PySem.Challenge.cw_pursewright_k13_sizes_counts_and_order_holds : PySem.Challenge.rw_pursewright_k13_sizes_counts_and_order.Holds := by
  w_on; o_law; k_head; (case hw => w_witness2)
  k_fill
  refine K13.walk (l := PySem.Challenge.rw_pursewright_k13_sizes_counts_and_order) rfl rfl (fun w h Y => PySem.W.kIn_of Y) ?F
  case F =>
    intro w mg fa h KX G hmg
    refine' K13.all_mk KX G hmg ?a_makers_in ?l_makers_in ?c_makers_in ?k_makers_in ?a_size ?l_size ?c_size ?k_size ?a_counts ?l_counts ?c_counts ?k_counts ?a_key ?l_key ?c_key ?k_key ?a_deal ?l_deal ?c_deal ?k_deal ?a_draw ?l_draw ?c_draw ?k_draw ?a_words ?l_words ?c_words ?k_words ?a_kinds ?l_kinds ?c_kinds ?k_kinds ?a_leasts ?l_leasts ?c_leasts ?k_leasts ?a_value ?l_value ?c_value ?k_value ?a_makers ?l_makers ?c_makers ?k_makers ?a_ahead ?l_ahead ?c_ahead ?k_ahead ?a_changed ?l_changed ?c_changed ?k_changed ?a_whole ?l_whole ?c_whole ?k_whole ?a_right ?l_right ?c_right ?k_right ?a_law ?l_law ?c_law ?k_law ?z_len ?z_all ?z_list ?z_tuple ?z_int ?z_bool ?z_dict ?z_reversed ?z_max ?z_min ?z_sum ?z_range ?z_isinstance ?z_zip ?z_enumerate
    (case a_makers_in => k_is)
    (case l_makers_in => k_is)
    (case c_makers_in => k_is)
    (case k_makers_in => k_is)
    (case a_size => k_is)
    (case l_size => k_is)
    (case c_size => k_is)
    (case k_size => k_is)
    (case a_counts => k_is)
    (case l_counts => k_is)
    (case c_counts => k_is)
    (case k_counts => k_is)
    (case a_key => k_is)
    (case l_key => k_is)
    (case c_key => k_is)
    (case k_key => k_is)
    (case a_deal => k_is)
    (case l_deal => k_is)
    (case c_deal => k_is)
    (case k_deal => k_is)
    (case a_draw => k_is)
    (case l_draw => k_is)
    (case c_draw => k_is)
    (case k_draw => k_is)
    (case a_words => k_is)
    (case l_words => k_is)
    (case c_words => k_is)
    (case k_words => k_is)
    (case a_kinds => k_is)
    (case l_kinds => k_is)
    (case c_kinds => k_is)
    (case k_kinds => k_is)
    (case a_leasts => k_is)
    (case l_leasts => k_is)
    (case c_leasts => k_is)
    (case k_leasts => k_is)
    (case a_value => k_is)
    (case l_value => k_is)
    (case c_value => k_is)
    (case k_value => k_is)
    (case a_makers => k_is)
    (case l_makers => k_is)
    (case c_makers => k_is)
    (case k_makers => k_is)
    (case a_ahead => k_is)
    (case l_ahead => k_is)
    (case c_ahead => k_is)
    (case k_ahead => k_is)
    (case a_changed => k_is)
    (case l_changed => k_is)
    (case c_changed => k_is)
    (case k_changed => k_is)
    (case a_whole => k_is)
    (case l_whole => k_is)
    (case c_whole => k_is)
    (case k_whole => k_is)
    (case a_right => k_is)
    (case l_right => k_is)
    (case c_right => k_is)
    (case k_right => k_is)
    (case a_law => k_is)
    (case l_law => k_is)
    (case c_law => k_is)
    (case k_law => k_is)
    (case z_len => k_is)
    (case z_all => k_is)
    (case z_list => k_is)
    (case z_tuple => k_is)
    (case z_int => k_is)
    (case z_bool => k_is)
    (case z_dict => k_is)
    (case z_reversed => k_is)
    (case z_max => k_is)
    (case z_min => k_is)
    (case z_sum => k_is)
    (case z_range => k_is)
    (case z_isinstance => k_is)
    (case z_zip => k_is)
    (case z_enumerate => k_is)
