import PyProof.Rows.All
import Wide.All
import OpenK.AllK
import Wide.FinOn
import PyProof.EqAt
import PyProof.EqKinds
import PyProof.TupleCall
import PyProof.NeData
import PyProof.P3In
import PySem.Challenge.RW_slate_k11_refusals_apart
set_option Elab.async false
set_option linter.all false
set_option maxRecDepth 100000

namespace L2
open PySem PySem.Spec PyProof.Rows

abbrev Key := Sum Int Str
noncomputable def keyIs : Key → Value → Bool
  | .inl k, v => Value.isInt k v
  | .inr x, v => Value.isStrOf x v
noncomputable def keyH (w : World) : Key → Int
  | .inl k => hashInt k
  | .inr x => hashStr w x
theorem keyIs_shape : ∀ {k : Key} {v : Value}, keyIs k v = true → (∃ i t, k = Sum.inl i ∧ v = Value.int i t) ∨ (∃ x t, k = Sum.inr x ∧ v = Value.str x t)
  | .inl i, v, h => by
    obtain ⟨t, e⟩ := Value.isInt_shape (k := i) (v := v) h
    exact .inl ⟨i, t, rfl, e⟩
  | .inr x, v, h => by
    obtain ⟨t, e⟩ := Value.isStrOf_shape (x := x) (v := v) h
    exact .inr ⟨x, t, rfl, e⟩
theorem key_ll (a b : Int) : decide ((Sum.inl a : Key) = Sum.inl b) = (a == b) := by
  by_cases e : a = b
  · subst e; simp
  · have h : ¬ (Sum.inl a : Key) = Sum.inl b := fun q => e (Sum.inl.inj q)
    rw [decide_eq_false h]
    exact (beq_eq_false_iff_ne.mpr e).symm
theorem key_rr (a b : Str) : decide ((Sum.inr a : Key) = Sum.inr b) = decide (a = b) := by
  by_cases e : a = b
  · subst e; simp
  · have h : ¬ (Sum.inr a : Key) = Sum.inr b := fun q => e (Sum.inr.inj q)
    rw [decide_eq_false h, decide_eq_false e]
theorem key_lr (a : Int) (b : Str) : decide ((Sum.inl a : Key) = Sum.inr b) = false := decide_eq_false (fun q => nomatch q)
theorem key_rl (a : Str) (b : Int) : decide ((Sum.inr a : Key) = Sum.inl b) = false := decide_eq_false (fun q => nomatch q)

noncomputable def mixKind (prog : Program) (w : World) : PySem.KeyKind prog w Key where
  is := keyIs
  hash := keyH w
  inj := fun v a b ha hb => by
    rcases keyIs_shape ha with ⟨i, t, rfl, rfl⟩ | ⟨x, t, rfl, rfl⟩
    · rcases keyIs_shape hb with ⟨j, u, rfl, e⟩ | ⟨y, u, rfl, e⟩
      · injection e with e1 _; rw [e1]
      · exact nomatch e
    · rcases keyIs_shape hb with ⟨j, u, rfl, e⟩ | ⟨y, u, rfl, e⟩
      · exact nomatch e
      · injection e with e1 _; rw [e1]
  byValue := fun k v h => by
    rcases keyIs_shape h with ⟨i, t, rfl, rfl⟩ | ⟨x, t, rfl, rfl⟩ <;> rfl
  pyHash := fun hv h => by
    rcases keyIs_shape hv with ⟨i, t, rfl, rfl⟩ | ⟨x, t, rfl, rfl⟩
    · exact wpAny_pyHash_int h
    · exact wpAny_pyHash_str h
  eqBool := fun hu hv h => by
    rcases keyIs_shape hu with ⟨i, t, rfl, rfl⟩ | ⟨x, t, rfl, rfl⟩
    · rcases keyIs_shape hv with ⟨j, u, rfl, rfl⟩ | ⟨y, u, rfl, rfl⟩
      · rw [key_ll] at h; exact wpAny_eqBool_int h
      · rw [key_lr] at h; exact SeqAt.EqAt.int_str i t y u _ _ _ _ h
    · rcases keyIs_shape hv with ⟨j, u, rfl, rfl⟩ | ⟨y, u, rfl, rfl⟩
      · rw [key_rl] at h; exact SeqAt.EqAt.str_int x t j u _ _ _ _ h
      · rw [key_rr] at h; exact wpAny_eqBool_str h
  «strs» := fun k x t v h => by
    rcases keyIs_shape h with ⟨i, u, rfl, e⟩ | ⟨y, u, rfl, e⟩
    · exact nomatch e
    · injection e with e1 _
      subst e1
      cases v <;> rfl

end L2

namespace L2
open PySem PySem.Spec PyProof.Rows

inductive V where
  | non | bl (b : Bool) | int (i : Int) | str (x : Str) | byt (b : Array UInt8) | flt (b : UInt64) | ref (a : Addr) | ty (n : String)
  deriving DecidableEq

noncomputable def RelV : V → Value → Prop
  | .non, u => u = Value.none
  | .bl b, u => u = Value.bool b
  | .int i, u => ∃ t, u = Value.int i t
  | .str x, u => ∃ t, u = Value.str x t
  | .byt b, u => ∃ t, u = Value.bytes b t
  | .flt b, u => ∃ t, u = Value.float b t
  | .ref a, u => u = Value.ref a
  | .ty n, u => u = Value.type n

abbrev Vals : List V → List Value → Prop := Paired RelV
theorem Vals.length {xs : List V} {us : List Value} (r : Vals xs us) : xs.length = us.length := Paired.length r
theorem Vals.get : ∀ {xs : List V} {us : List Value} {i : Nat} {x : V}, Vals xs us → xs[i]? = some x → ∃ u, us[i]? = some u ∧ RelV x u
  | _, _, _, _, .nil, e => by simp at e
  | _, _, 0, _, .cons r _, e => by simp at e; subst e; exact ⟨_, rfl, r⟩
  | _, _, i + 1, x, .cons _ t, e => by
    obtain ⟨u, h1, h2⟩ := Vals.get (i := i) (x := x) t (by simpa using e)
    exact ⟨u, by simpa using h1, h2⟩
theorem Vals.set {x : V} {u : Value} (r : RelV x u) : ∀ {xs : List V} {us : List Value} (i : Nat), Vals xs us → Vals (xs.set i x) (us.set i u)
  | _, _, _, .nil => .nil
  | _, _, 0, .cons _ t => .cons r t
  | _, _, i + 1, .cons q t => .cons q (Vals.set r i t)
theorem Vals.append : ∀ {xs ys : List V} {us ws : List Value}, Vals xs us → Vals ys ws → Vals (xs ++ ys) (us ++ ws)
  | _, _, _, _, .nil, s => s
  | _, _, _, _, .cons r t, s => .cons r (Vals.append t s)
theorem Vals.take : ∀ {xs : List V} {us : List Value} (n : Nat), Vals xs us → Vals (xs.take n) (us.take n)
  | _, _, 0, _ => .nil
  | _, _, _ + 1, .nil => .nil
  | _, _, n + 1, .cons r t => .cons r (Vals.take n t)
theorem Vals.drop : ∀ {xs : List V} {us : List Value} (n : Nat), Vals xs us → Vals (xs.drop n) (us.drop n)
  | _, _, 0, r => r
  | _, _, _ + 1, .nil => .nil
  | _, _, n + 1, .cons _ t => Vals.drop n t
noncomputable def RelO : Option V → Option Value → Prop
  | some v, some u => RelV v u
  | none, none => True
  | _, _ => False
noncomputable def KV {κ : Type} : List (κ × V) → List (κ × Value) → Prop := Paired fun (p : κ × V) (q : κ × Value) => p.1 = q.1 ∧ RelV p.2 q.2

noncomputable def kV : Key → V
  | .inl i => .int i
  | .inr x => .str x

inductive HO where
  /-- a list -/
  | lst (xs : List V)
  /-- a tuple (never changes) -/
  | tup (xs : List V)
  /-- a dict whose keys are ints and texts; one whose keys are tuples of ints and texts (the empty one is both) -/
  | dK (kvs : List (Key × V)) | dT (kvs : List (List Key × V))
  /-- a set of ints: its members, its size -/
  | set (S : Int → Bool) (n : Nat)
  /-- an instance of the class at C, its dict at dx, its attributes -/
  | ins (C dx : Addr) (fs : List (Str × V))
  /-- the dict of the instance at x -/
  | own (x : Addr)
  /-- the dict of an exception -/
  | xd (fs : List (Str × V))
  /-- a bound method, f of x -/
  | met (f x : Addr)
  /-- a range object lo, lo + 1, .. below hi -/
  | rng (lo hi : Int)
  /-- a thing that is known to the object (the script; a dict while a loop walks it): read, never written while it is so -/
  | frz (o : Obj) (u : HO)
  /-- a code object's table -/
  | tbl (ps : Array Value)
  /-- any other thing, by what is true of its one object (a def of one's own: SetO a S n := HO.ext fun h => ..) -/
  | ext (φ : Heap → Prop)

abbrev Hp := Addr → Option HO
noncomputable def upd (H : Hp) (a : Addr) (o : HO) : Hp := fun b => if b = a then some o else H b
theorem upd_same {H : Hp} {a : Addr} {o : HO} : upd H a o a = some o := by unfold upd; rw [if_pos rfl]
theorem upd_ne {H : Hp} {a b : Addr} {o : HO} (h : b ≠ a) : upd H a o b = H b := by unfold upd; rw [if_neg h]
theorem upd_upd {H : Hp} {a : Addr} {o u : HO} : upd (upd H a o) a u = upd H a u := by
  funext b; unfold upd; split <;> rfl
theorem ne_of_none {H : Hp} {a b : Addr} {o : HO} (h : H a = some o) (h' : H b = none) : a ≠ b := by
  intro e; subst e; rw [h] at h'; cases h'

section
variable (P : Program) (w : World)
noncomputable def ObjOk (H : Hp) (h : Heap) (a : Addr) : HO → Prop
  | .lst xs => xs.length ≤ sizeLine ∧ ∃ (its : List Value) (n : Nat), Vals xs its ∧ h.get? a = some { cls := .type "list", data := .seq its.toArray n }
  | .tup xs => xs.length ≤ sizeLine ∧ ∃ its : List Value, Vals xs its ∧ IsTup h a its.toArray
  | .dK kvs => kvs.length ≤ sizeLine ∧ (a == sysModules) = false ∧ ∃ vs, KV kvs vs ∧ h.DictOf (mixKind P w) a vs
  | .dT kvs => kvs.length ≤ sizeLine ∧ (a == sysModules) = false ∧ ∃ xs : List (List Key × Addr × Value),
      Paired (fun (p : List Key × V) (q : List Key × Addr × Value) => p.1 = q.1 ∧ H q.2.1 = some (.tup (p.1.map kV)) ∧ RelV p.2 q.2.2) kvs xs ∧
      ∃ o es ep, h.get? a = some o ∧ o.ExactDict ∧ o.data = .dict es ep ∧ es.toList = xs.map (entryOfKey (tupleKind (mixKind P w))) ∧ (xs.map (·.1)).Nodup
  | .set S n => h.SetOf (intKind P w) a S n
  | .ins C dx fs => H dx = some (.own a) ∧ fs.length ≤ 1000 ∧ dx ≠ a ∧ h.get? a = some (PySem.W.instObj C dx) ∧
      ∃ mA, h.Ns1 dx mA ∧ (∀ f, RelO (fs.lookup f) (mA f)) ∧ PySem.Within mA (fs.map (·.1))
  | .own _ => ∃ o, h.get? a = some o
  | .xd fs => ∃ mA, h.Ns1 a mA ∧ ∀ f, RelO (fs.lookup f) (mA f)
  | .rng lo hi => ∃ t u v, h.get? a = some { cls := .type "range", data := .fields #[.int lo t, .int hi u, .int 1 v] }
  | .frz o u => h.get? a = some o ∧ ObjOk H h a u
  | .tbl ps => h.get? a = some { cls := .none, data := .fields ps }
  | .met f x => h.get? a = some (PySem.W.methodObj (.ref f) (.ref x))
  | .ext φ => φ h ∧ (∃ o, h.get? a = some o) ∧ ∀ h1 h2 : Heap, φ h1 → (∀ o, h1.get? a = some o → h2.get? a = some o) → φ h2
noncomputable def HOk (H : Hp) (h : Heap) : Prop := ∀ a o, H a = some o → ObjOk P w H h a o
end

section
variable {P : Program} {w : World} {H H' : Hp} {h h' : Heap} {a : Addr} {o : HO}
theorem ObjOk.lt (x : ObjOk P w H h a o) : a < h.objs.size := by
  cases o with
  | lst xs => obtain ⟨_, _, _, _, e⟩ := x; exact Heap.lt_size e
  | tup xs => obtain ⟨_, _, _, p⟩ := x; exact p.lt
  | dK kvs => obtain ⟨_, _, _, _, o, _, _, e, _⟩ := x; exact Heap.lt_size e
  | dT kvs => obtain ⟨_, _, _, _, o, _, _, e, _⟩ := x; exact Heap.lt_size e
  | set S n => obtain ⟨o, _, _, _, e, _⟩ := x; exact Heap.lt_size e
  | ins C dx fs => obtain ⟨_, _, _, e, _⟩ := x; exact Heap.lt_size e
  | own y => obtain ⟨_, e⟩ := x; exact Heap.lt_size e
  | xd fs => obtain ⟨_, ⟨_, _, _, e, _⟩, _⟩ := x; exact Heap.lt_size e
  | rng lo hi => obtain ⟨_, _, _, e⟩ := x; exact Heap.lt_size e
  | frz ob u => obtain ⟨e, _⟩ := x; exact Heap.lt_size e
  | tbl ps => exact Heap.lt_size (show h.get? a = some _ from x)
  | met f y => exact Heap.lt_size (show h.get? a = some _ from x)
  | ext φ => obtain ⟨_, ⟨_, e⟩, _⟩ := x; exact Heap.lt_size e
theorem Paired.mapP {α β : Type} {F G : α → β → Prop} : ∀ {l₁ : List α} {l₂ : List β}, Paired F l₁ l₂ → (∀ a b, F a b → G a b) → Paired G l₁ l₂
  | _, _, .nil, _ => .nil
  | _, _, .cons r t, f => .cons (f _ _ r) (Paired.mapP t f)
theorem ObjOk.stay (x : ObjOk P w H h a o) (k : ∀ b u, (b = a ∨ H b = some (.own a)) → h.get? b = some u → h'.get? b = some u)
    (ho : ∀ b, H b = some (.own a) → H' b = some (.own a)) (ht : ∀ b xs, H b = some (.tup xs) → H' b = some (.tup xs)) : ObjOk P w H' h' a o := by
  induction o with
  | lst xs => obtain ⟨z, its, n, r, e⟩ := x; exact ⟨z, its, n, r, k _ _ (.inl rfl) e⟩
  | tup xs => obtain ⟨z, its, r, ob, e, c⟩ := x; exact ⟨z, its, r, ob, k _ _ (.inl rfl) e, c⟩
  | dK kvs => obtain ⟨z, y, vs, r, ob, es, ep, e, c⟩ := x; exact ⟨z, y, vs, r, ob, es, ep, k _ _ (.inl rfl) e, c⟩
  | dT kvs =>
    obtain ⟨z, y, xs, r, ob, es, ep, e, c⟩ := x
    exact ⟨z, y, xs, Paired.mapP r fun p q z => ⟨z.1, ht _ _ z.2.1, z.2.2⟩, ob, es, ep, k _ _ (.inl rfl) e, c⟩
  | set S n => obtain ⟨ob, es, ep, t, e, c⟩ := x; exact ⟨ob, es, ep, t, k _ _ (.inl rfl) e, c⟩
  | ins C dx fs =>
    obtain ⟨d, z, ne, e, mA, ⟨od, es, ep, e2, c⟩, r⟩ := x
    exact ⟨ho _ d, z, ne, k _ _ (.inl rfl) e, mA, ⟨od, es, ep, k _ _ (.inr d) e2, c⟩, r⟩
  | own y => obtain ⟨ob, e⟩ := x; exact ⟨ob, k _ _ (.inl rfl) e⟩
  | xd fs => obtain ⟨mA, ⟨od, es, ep, e, c⟩, r⟩ := x; exact ⟨mA, ⟨od, es, ep, k _ _ (.inl rfl) e, c⟩, r⟩
  | rng lo hi => obtain ⟨t, u, v, e⟩ := x; exact ⟨t, u, v, k _ _ (.inl rfl) e⟩
  | frz ob u ih => obtain ⟨e, q⟩ := x; exact ⟨k _ _ (.inl rfl) e, ih q⟩
  | tbl ps =>
    have e : h.get? a = some { cls := .none, data := .fields ps } := x
    show h'.get? a = some { cls := .none, data := .fields ps }
    exact k a _ (.inl rfl) e
  | met f y =>
    have e : h.get? a = some (PySem.W.methodObj (.ref f) (.ref y)) := x
    show h'.get? a = some (PySem.W.methodObj (.ref f) (.ref y))
    exact k a _ (.inl rfl) e
  | ext φ => obtain ⟨p, ⟨o, e⟩, st⟩ := x; exact ⟨st _ _ p fun o q => k _ _ (.inl rfl) q, ⟨o, k _ _ (.inl rfl) e⟩, st⟩
theorem HOk.lt (x : HOk P w H h) (e : H a = some o) : a < h.objs.size := (x a o e).lt
theorem HOk.fresh (x : HOk P w H h) (e : h.objs.size ≤ a) : H a = none := by
  cases q : H a with
  | none => rfl
  | some u => exact absurd (Nat.lt_of_lt_of_le (x.lt q) e) (Nat.lt_irrefl _)
theorem HOk.kept (x : HOk P w H h) (k : ∀ b u, h.get? b = some u → h'.get? b = some u) : HOk P w H h' := fun a o e =>
  (x a o e).stay (fun b u _ q => k b u q) (fun _ q => q) fun _ _ q => q
theorem HOk.laid (x : HOk P w H h) (k : ∀ b u, h.get? b = some u → h'.get? b = some u) (hp : h.objs.size ≤ a) (new : ObjOk P w (upd H a o) h' a o) : HOk P w (upd H a o) h' := fun b u e => by
  have hn := x.fresh hp
  by_cases hb : b = a
  · subst hb; rw [upd_same] at e; cases e; exact new
  · rw [upd_ne hb] at e
    exact (x b u e).stay (fun c v _ q => k c v q) (fun c q => by rw [upd_ne (ne_of_none q hn)]; exact q) fun c xs q => by rw [upd_ne (ne_of_none q hn)]; exact q
end

noncomputable def Rd (H : Hp) (a : Addr) (u : HO) : Prop := H a = some u ∨ ∃ o, H a = some (.frz o u)
theorem Rd.of {H : Hp} {a : Addr} {u : HO} (h : H a = some u) : Rd H a u := .inl h
theorem Rd.ok {P : Program} {w : World} {H : Hp} {h : Heap} {a : Addr} {u : HO} (r : Rd H a u) (x : HOk P w H h) : ObjOk P w H h a u := by
  rcases r with r | ⟨o, r⟩
  · exact x a u r
  · obtain ⟨_, q⟩ := x a _ r
    exact q
noncomputable def Mut : Option HO → Prop
  | some (.lst _) => True
  | some (.dK _) => True
  | some (.dT _) => True
  | some (.set _ _) => True
  | some (.ins _ _ _) => True
  | some (.ext _) => True
  | _ => False
section
variable {P : Program} {w : World} {H : Hp} {h h' : Heap} {x e : Addr} {o' : HO}
theorem HOk.write (ok : HOk P w H h) (mu : Mut (H x)) (he : e = x ∨ H e = some (.own x)) (k : ∀ b u, b ≠ e → h.get? b = some u → h'.get? b = some u) (heo : ∃ u, h'.get? e = some u)
    (new : ObjOk P w (upd H x o') h' x o') : HOk P w (upd H x o') h' := fun b u q => by
  have nown : ∀ c y, H c = some (.own y) → c ≠ x := fun c y r z => by subst z; rw [r] at mu; exact mu
  have ntup : ∀ c xs, H c = some (.tup xs) → c ≠ x := fun c xs r z => by subst z; rw [r] at mu; exact mu
  by_cases hb : b = x
  · subst hb; rw [upd_same] at q; cases q; exact new
  · rw [upd_ne hb] at q
    by_cases hbe : b = e
    · have q' : H b = some (.own x) := by
        rcases he with z | z
        · exact absurd (hbe.trans z) hb
        · rw [hbe]; exact z
      rw [q] at q'; cases q'
      obtain ⟨v, hv⟩ := heo
      exact ⟨v, by rw [hbe]; exact hv⟩
    · refine (ok b u q).stay (fun c v hc r => k c v ?_ r) (fun c r => by rw [upd_ne (nown c b r)]; exact r) fun c xs r => by rw [upd_ne (ntup c xs r)]; exact r
      rcases hc with rfl | hc
      · exact hbe
      · rintro rfl
        rcases he with z | z
        · exact nown c b hc z
        · rw [hc] at z; cases z; exact hb rfl
end

/-! ### kept unless tracked; of the frames at fs (the callers') the slots may change (an exception that passes writes there); of the records at ex (iterators) nothing is said -/
structure Un (fs ex : List Addr) (H H' : Hp) (h h' : Heap) : Prop where
  keep : ∀ b o, h.get? b = some o → H b = none → b ∉ fs → b ∉ ex → h'.get? b = some o
  slot : ∀ b o, h.get? b = some o → H b = none → b ∈ fs → b ∉ ex → ∃ sl, h'.get? b = some { o with slots := sl }
  free : ∀ b o, h.get? b = some o → H b = none → b ∉ ex → H' b = none
  there : ∀ b o, h.get? b = some o → b ∉ ex → ∃ o', h'.get? b = some o'
  tups : ∀ b xs, H b = some (.tup xs) → H' b = some (.tup xs)
  frzs : ∀ b o u, H b = some (.frz o u) → H' b = some (.frz o u)
  tbls : ∀ b ps, H b = some (.tbl ps) → ∃ more, H' b = some (.tbl (ps ++ more))
section
variable {fs fs' ex ex' : List Addr} {H H1 H2 : Hp} {h h1 h2 h' : Heap} {a x e : Addr} {o : HO}
theorem Un.any (u : Un fs ex H H1 h h1) {b : Addr} {ob : Obj} (q : h.get? b = some ob) (n : H b = none) (hx : b ∉ ex) : ∃ sl, h1.get? b = some { ob with slots := sl } := by
  by_cases hb : b ∈ fs
  · exact u.slot b ob q n hb hx
  · exact ⟨ob.slots, u.keep b ob q n hb hx⟩
theorem Un.trans (a : Un fs ex H H1 h h1) (b : Un fs ex H1 H2 h1 h2) : Un fs ex H H2 h h2 where
  keep := fun c ob q n hc hx => b.keep c ob (a.keep c ob q n hc hx) (a.free c ob q n hx) hc hx
  slot := fun c ob q n hc hx => by
    obtain ⟨sl, e1⟩ := a.slot c ob q n hc hx
    obtain ⟨sl', e2⟩ := b.slot c _ e1 (a.free c ob q n hx) hc hx
    exact ⟨sl', e2⟩
  free := fun c ob q n hx => by
    obtain ⟨o', e1⟩ := a.there c ob q hx
    exact b.free c o' e1 (a.free c ob q n hx) hx
  there := fun c ob q hx => by
    obtain ⟨o', e1⟩ := a.there c ob q hx
    exact b.there c o' e1 hx
  tups := fun c xs q => b.tups c xs (a.tups c xs q)
  frzs := fun c ob xs q => b.frzs c ob xs (a.frzs c ob xs q)
  tbls := fun c ps q => by
    obtain ⟨m1, e1⟩ := a.tbls c ps q
    obtain ⟨m2, e2⟩ := b.tbls c _ e1
    exact ⟨m1 ++ m2, by rw [e2, Array.append_assoc]⟩
theorem Un.kept (k : ∀ b u, h.get? b = some u → h'.get? b = some u) : Un fs ex H H h h' :=
  ⟨fun b ob q _ _ _ => k b ob q, fun b ob q _ _ _ => ⟨ob.slots, k b ob q⟩, fun _ _ _ n _ => n, fun b ob q _ => ⟨ob, k b ob q⟩, fun _ _ q => q, fun _ _ _ q => q, fun _ ps q => ⟨#[], by rw [q]; simp⟩⟩
theorem Un.refl : Un fs ex H H h h := Un.kept fun _ _ q => q
theorem Un.laid (k : ∀ b u, h.get? b = some u → h'.get? b = some u) (hp : h.objs.size ≤ a) (hn : H a = none) : Un fs ex H (upd H a o) h h' where
  keep := fun b u q _ _ _ => k b u q
  slot := fun b u q _ _ _ => ⟨u.slots, k b u q⟩
  free := fun b u q n _ => by rw [upd_ne (Nat.ne_of_lt (Nat.lt_of_lt_of_le (Heap.lt_size q) hp))]; exact n
  there := fun b u q _ => ⟨u, k b u q⟩
  tups := fun b xs q => by rw [upd_ne (ne_of_none q hn)]; exact q
  frzs := fun b u xs q => by rw [upd_ne (ne_of_none q hn)]; exact q
  tbls := fun b ps q => ⟨#[], by rw [upd_ne (ne_of_none q hn), q]; simp⟩
theorem Un.write (mu : Mut (H x)) (he : e = x ∨ H e = some (.own x)) (k : ∀ b u, b ≠ e → h.get? b = some u → h'.get? b = some u) (heo : ∃ u, h'.get? e = some u) : Un fs ex H (upd H x o) h h' := by
  have hx : ∀ b, H b = none → b ≠ x := fun b n z => by subst z; rw [n] at mu; exact mu
  have hb : ∀ b, H b = none → b ≠ e := fun b n z => by
    subst z
    rcases he with r | r
    · exact hx b n r
    · rw [n] at r; cases r
  have hm : ∀ b u, H b = some u → ¬ Mut (some u) → b ≠ x := fun b u q nm z => by subst z; rw [q] at mu; exact nm mu
  refine ⟨fun b u q n _ _ => k b u (hb b n) q, fun b u q n _ _ => ⟨u.slots, k b u (hb b n) q⟩, fun b u q n _ => by rw [upd_ne (hx b n)]; exact n, fun b u q _ => ?_,
    fun b xs q => by rw [upd_ne (hm b _ q fun z => z)]; exact q, fun b u xs q => by rw [upd_ne (hm b _ q fun z => z)]; exact q, fun b ps q => ⟨#[], by rw [upd_ne (hm b _ q fun z => z), q]; simp⟩⟩
  by_cases hbe : b = e
  · subst hbe; exact heo
  · exact ⟨u, k b u hbe q⟩
theorem Un.mono (u : Un fs ex H H1 h h1) (hs : ∀ b ∈ fs, b ∈ fs') (hx : ∀ b ∈ ex, b ∈ ex') : Un fs' ex' H H1 h h1 :=
  ⟨fun b ob q n hb he => u.keep b ob q n (fun z => hb (hs b z)) fun z => he (hx b z), fun _ _ q n _ he => u.any q n fun z => he (hx _ z), fun b ob q n he => u.free b ob q n fun z => he (hx b z), fun b ob q he => u.there b ob q fun z => he (hx b z), u.tups, u.frzs, u.tbls⟩
end

/-! ### the heap without what is tracked -/
noncomputable def trk (h : Heap) (H : Hp) : List Addr := (List.range h.objs.size).filter fun a => (H a).isSome
noncomputable def hidT (h : Heap) (H : Hp) : Heap := PySem.W.hideAll h (trk h H)
theorem hidT_size (h : Heap) (H : Hp) : (hidT h H).objs.size = h.objs.size := PySem.W.hideAll_size _ _
theorem hidT_get {h : Heap} {H : Hp} {b : Addr} {o : Obj} (e : h.get? b = some o) (n : H b = none) : (hidT h H).get? b = some o :=
  PySem.W.hideAll_get _ e fun hm => by
    have q : (H b).isSome = true := (List.mem_filter.mp hm).2
    rw [n] at q; simp at q
theorem of_hidT {h : Heap} {H : Hp} {b : Addr} {o : Obj} (e : (hidT h H).get? b = some o) : h.get? b = some o ∧ H b = none := by
  have e' : h.get? b = some o := PySem.W.of_hideAll (trk h H) e
  refine ⟨e', ?_⟩
  cases q : H b with
  | none => rfl
  | some x =>
    have hm : b ∈ trk h H := List.mem_filter.mpr ⟨List.mem_range.mpr (Heap.lt_size e'), by simp [q]⟩
    have z : (hidT h H).get? b = none := PySem.W.hideAll_none (trk h H) hm
    rw [z] at e; cases e

/-! ### OpenK's ledger, filled with every new object but one -/
noncomputable def allNews (g h : Heap) (L : Addr) : List (Addr × Obj) := (List.range h.objs.size).filterMap fun a => if a = L ∨ (g.get? a).isSome = true then none else (h.get? a).map fun o => (a, o)
noncomputable def rest (g h : Heap) (L d : Addr) : List (Addr × Obj) := (allNews g h L).filter fun p => decide (p.1 ≠ d)
end L2

namespace L2
open PySem PySem.Spec PyProof.Rows

structure Mod (K : PySem.W.Frag) (mg : Str → Option Value) (base : Heap) : Prop where
  kin : K.In base
  glob : base.Ns mainGlobals mg
  blt : ∃ mb, base.Ns builtinsNs mb ∧ ∀ x : Str, x ≠ "__name__" → mb x = bootBuiltins x
  nolimit : base.NoLimit

structure Cx where
  prog : Program
  w : World
  K : PySem.W.Frag
  mg : Str → Option Value
  base : Heap
  A : Around
  N : List Str
  s₀ : Shared
  H₀ : Hp
  env : Env
  outer : List Env
  stack : List Env
  ex : List Addr
  fn : Str → Bool
  calm : Bool
  pn : List (Addr × Obj)
  xe : Value → Shared → Prop
noncomputable def frs (l : List Env) : List Addr := l.filterMap (·.frame)
noncomputable abbrev Cx.fs (X : Cx) : List Addr := frs X.outer

noncomputable def Vis (sc : Scope) (x : Str) : Prop := sc.names.lookup x = some .local ∨ sc.names.lookup x = some .cell ∨ sc.names.lookup x = some .free
noncomputable def Loc (sc : Scope) (x : Str) : Prop := sc.names.lookup x = some .local ∨ sc.names.lookup x = some .cell
noncomputable def Look (env : Env) (h : Heap) (m : Str → Option Value) (x : Str) (u : Value) : Prop :=
  (env.kindOf x = some .local ∧ m x = some u) ∨ ((env.kindOf x = some .cell ∨ env.kindOf x = some .free) ∧ ∃ c, env.cells.lookup x = some c ∧ h.IsCell c (some u))

structure Cx.Ok (X : Cx) : Prop where
  mod : Mod X.K X.mg X.base
  kind : X.env.scope.kind = .function
  glob : X.env.globals = mainGlobals
  blt : X.env.builtins = builtinsNs
  above : X.s₀.heap.objs.size ≤ X.env.locals
  inj : ∀ x y c, X.env.cells.lookup x = some c → X.env.cells.lookup y = some c → x = y
  has : ∀ x, (X.env.kindOf x = some .cell ∨ X.env.kindOf x = some .free) → ∃ c, X.env.cells.lookup x = some c
  cab : ∀ x c, X.fn x = true → X.env.cells.lookup x = some c → X.s₀.heap.objs.size ≤ c
  hd : X.calm = true → X.A.handled = none
  frames : X.A.frames = some X.stack
  stk : X.stack = X.outer ∨ (X.stack = X.env :: X.outer ∧ X.env.frame = some X.env.locals)
  exf : ∀ b ∈ X.ex, b ≠ X.env.locals ∧ ∀ x c, X.env.cells.lookup x = some c → c ≠ b
  bs : ∀ b o, X.base.get? b = some o → X.s₀.heap.get? b = some o ∧ X.H₀ b = none
  bsz : X.base.objs.size ≤ X.s₀.heap.objs.size
  noex : ∀ b o, X.base.get? b = some o → b ∉ X.ex
  exfs : ∀ b ∈ X.ex, b ∉ X.fs
  funs : X.s₀.heap.FunFrames X.base X.outer
  frf : ∀ b ∈ X.fs, X.H₀ b = none

structure Inv (X : Cx) (pins : List (Addr × Obj)) (σ : List (Option V)) (H : Hp) (s : Shared) : Prop where
  ok : X.Ok
  os : s.os = X.s₀.os
  bare : AllBare s.gens
  base : Un X.fs X.ex X.H₀ H X.s₀.heap s.heap
  loc : ∃ m, s.heap.Ns X.env.locals m ∧ ∀ (i : Nat) (x : Str) (v : V), X.N[i]? = some x → σ[i]? = some (some v) → Vis X.env.scope x → ∃ u, RelV v u ∧ Look X.env s.heap m x u
  cell : ∀ x c, X.env.cells.lookup x = some c → ∃ v, s.heap.IsCell c v
  free : H X.env.locals = none
  freeC : ∀ x c, X.env.cells.lookup x = some c → H c = none
  pin : ∀ p ∈ X.pn ++ pins, s.heap.get? p.1 = some p.2 ∧ H p.1 = none ∧ p.1 ≠ X.env.locals ∧ p.1 ∉ X.fs ∧ ∀ v, p.2.data ≠ .cell v
  hok : HOk X.prog X.w H s.heap
  len : σ.length = X.N.length

section
variable {X : Cx} {pins : List (Addr × Obj)} {σ : List (Option V)} {H H' : Hp} {s : Shared} {h' : Heap}

theorem Cx.Ok.nofr (ok : X.Ok) {b : Addr} {o : Obj} (e : X.base.get? b = some o) : b ∉ X.fs := fun hb => by
  have := (ok.funs.mem hb).1
  rw [e] at this; cases this
theorem Inv.bs (I : Inv X pins σ H s) : ∀ b o, X.base.get? b = some o → s.heap.get? b = some o ∧ H b = none := fun b o e =>
  ⟨I.base.keep b o (I.ok.bs b o e).1 (I.ok.bs b o e).2 (I.ok.nofr e) (I.ok.noex b o e), I.base.free b o (I.ok.bs b o e).1 (I.ok.bs b o e).2 (I.ok.noex b o e)⟩
theorem Inv.bk (I : Inv X pins σ H s) : ∀ b o, X.base.get? b = some o → s.heap.get? b = some o := fun b o e => (I.bs b o e).1
theorem Inv.mod (I : Inv X pins σ H s) : Mod X.K X.mg X.base := I.ok.mod
theorem Inv.kIn (I : Inv X pins σ H s) : X.K.In s.heap := I.ok.mod.kin.keeps I.bk
theorem Inv.nolimit (I : Inv X pins σ H s) : s.heap.NoLimit := I.ok.mod.nolimit.keeps I.bk
theorem Inv.fr (I : Inv X pins σ H s) : ∃ m, Fr X.base X.env.locals s.heap m :=
  let ⟨m, hn, _⟩ := I.loc
  ⟨m, hn, I.bk, Nat.le_trans I.ok.bsz I.ok.above⟩
theorem Inv.lt (I : Inv X pins σ H s) : X.env.locals < s.heap.objs.size := let ⟨_, hn, _⟩ := I.loc; hn.lt
theorem Inv.sz (I : Inv X pins σ H s) : X.s₀.heap.objs.size ≤ s.heap.objs.size := Nat.le_trans I.ok.above (Nat.le_of_lt I.lt)
theorem Inv.nofs (I : Inv X pins σ H s) {a : Addr} (h : s.heap.objs.size ≤ a) : a ∉ X.fs := fun hb => by
  obtain ⟨_, o, ho, _⟩ := I.ok.funs.mem hb
  exact absurd (Nat.lt_of_lt_of_le (Heap.lt_size ho) (Nat.le_trans I.sz h)) (Nat.lt_irrefl _)
theorem Inv.cne (I : Inv X pins σ H s) : ∀ x c, X.env.cells.lookup x = some c → c ≠ X.env.locals := fun x c e z => by
  obtain ⟨v, o, ho, hd⟩ := I.cell x c e
  obtain ⟨m, ⟨o', es, ep, ho', hd', _⟩, _⟩ := I.loc
  rw [z, ho'] at ho; cases ho; rw [hd'] at hd; cases hd
theorem Inv.funs (I : Inv X pins σ H s) : s.heap.FunFrames X.base X.outer := by
  have all : ∀ (l : List Env), (∀ b ∈ frs l, b ∈ X.fs) → X.s₀.heap.FunFrames X.base l → s.heap.FunFrames X.base l := by
    intro l
    induction l with
    | nil => intro _ _; trivial
    | cons env r ih =>
      intro hs hl
      obtain ⟨hk, ⟨L, o, hf, hn, ho, hd⟩, hr⟩ := hl
      have hL : L ∈ X.fs := hs L (by unfold frs; rw [List.filterMap_cons, hf]; exact List.mem_cons_self)
      obtain ⟨sl, e⟩ := I.base.slot L o ho (I.ok.frf L hL) hL fun z => I.ok.exfs L z hL
      exact ⟨hk, ⟨L, _, hf, hn, e, hd⟩, ih (fun b hb => hs b (by unfold frs; rw [List.filterMap_cons, hf]; exact List.mem_cons_of_mem _ hb)) hr⟩
  exact all X.outer (fun _ hb => hb) I.ok.funs

theorem Inv.stack (I : Inv X pins σ H s) : s.heap.FunFrames X.base X.stack := by
  rcases I.ok.stk with e | ⟨e, hf⟩
  · rw [e]; exact I.funs
  · rw [e]
    obtain ⟨m, hn, _⟩ := I.loc
    refine .cons (by rw [I.ok.kind]; decide) hf hn ?_ I.funs
    exact Heap.get?_none_of_le (Nat.le_trans I.ok.bsz I.ok.above)
theorem Inv.stkSub (I : Inv X pins σ H s) : ∀ b ∈ frs X.stack, b ∈ X.env.locals :: X.fs := fun b hb => by
  rcases I.ok.stk with e | ⟨e, hf⟩
  · rw [e] at hb; exact List.mem_cons_of_mem _ hb
  · rw [e] at hb
    unfold frs at hb
    rw [List.filterMap_cons, hf] at hb
    exact hb
theorem Inv.stkFree (I : Inv X pins σ H s) : ∀ b ∈ frs X.stack, H b = none := fun b hb => by
  rcases List.mem_cons.mp (I.stkSub b hb) with e | hb
  · rw [e]; exact I.free
  · obtain ⟨_, o, ho, _⟩ := I.ok.funs.mem hb
    exact I.base.free b o ho (I.ok.frf b hb) fun z => I.ok.exfs b z hb

theorem Inv.step {g' : Array GenState} {t' : Nat} {d' : Drawn} {ch : List Addr} (I : Inv X pins σ H s)
    (hch : ∀ b ∈ ch, (b ∈ X.ex ∨ X.s₀.heap.objs.size ≤ b) ∧ b ≠ X.env.locals ∧ (∀ x c, X.env.cells.lookup x = some c → c ≠ b) ∧ ∀ p ∈ X.pn ++ pins, p.1 ≠ b)
    (keep : ∀ b o, b ≠ X.env.locals → b ∉ X.fs → b ∉ ch → s.heap.get? b = some o → H b = none → h'.get? b = some o)
    (slot : ∀ b o, b ≠ X.env.locals → b ∈ X.fs → b ∉ ch → s.heap.get? b = some o → H b = none → ∃ sl, h'.get? b = some { o with slots := sl }) (free : ∀ b o, b ∉ ch → s.heap.get? b = some o → H b = none → H' b = none)
    (there : ∀ b o, b ∉ ch → s.heap.get? b = some o → ∃ o', h'.get? b = some o')
    (tups : ∀ b xs, H b = some (.tup xs) → H' b = some (.tup xs)) (frzs : ∀ b o u, H b = some (.frz o u) → H' b = some (.frz o u)) (tbls : ∀ b ps, H b = some (.tbl ps) → ∃ more, H' b = some (.tbl (ps ++ more)))
    (ns : ∀ m, s.heap.Ns X.env.locals m → h'.Ns X.env.locals m) (hok : HOk X.prog X.w H' h') (hg : AllBare g') :
    Inv X pins σ H' { s with heap := h', gens := g', drawn := d', toks := t' } := by
  have neL : ∀ b o, X.s₀.heap.get? b = some o → b ≠ X.env.locals := fun b o e => Nat.ne_of_lt (Nat.lt_of_lt_of_le (Heap.lt_size e) I.ok.above)
  have neC : ∀ b o, X.s₀.heap.get? b = some o → b ∉ X.ex → b ∉ ch := fun b o e hx hb => by
    rcases (hch b hb).1 with z | z
    · exact hx z
    · exact absurd (Nat.lt_of_lt_of_le (Heap.lt_size e) z) (Nat.lt_irrefl _)
  have cellK : ∀ x c, X.env.cells.lookup x = some c → ∀ v, s.heap.IsCell c v → h'.IsCell c v := fun x c e v ⟨o, ho, hd⟩ => by
    have nch : c ∉ ch := fun z => (hch c z).2.2.1 x c e rfl
    by_cases hc : c ∈ X.fs
    · obtain ⟨sl, q⟩ := slot c o (I.cne x c e) hc nch ho (I.freeC x c e)
      exact ⟨_, q, hd⟩
    · exact ⟨o, keep c o (I.cne x c e) hc nch ho (I.freeC x c e), hd⟩
  refine ⟨I.ok, I.os, hg, ⟨fun b o e n hb hx => ?_, fun b o e n hb hx => ?_, fun b o e n hx => ?_, fun b o e hx => ?_, fun b xs e => tups b xs (I.base.tups b xs e), fun b o xs e => frzs b o xs (I.base.frzs b o xs e), fun b ps e => ?_⟩, ?_, fun x c e => ?_, ?_, fun x c e => ?_, fun p hp => ?_, hok, I.len⟩
  · exact keep b o (neL b o e) hb (neC b o e hx) (I.base.keep b o e n hb hx) (I.base.free b o e n hx)
  · obtain ⟨sl, e1⟩ := I.base.slot b o e n hb hx
    obtain ⟨sl', e2⟩ := slot b _ (neL b o e) hb (neC b o e hx) e1 (I.base.free b o e n hx)
    exact ⟨sl', e2⟩
  · obtain ⟨o', e1⟩ := I.base.there b o e hx
    exact free b o' (neC b o e hx) e1 (I.base.free b o e n hx)
  · obtain ⟨o', e1⟩ := I.base.there b o e hx
    exact there b o' (neC b o e hx) e1
  · obtain ⟨m1, e1⟩ := I.base.tbls b ps e
    obtain ⟨m2, e2⟩ := tbls b _ e1
    exact ⟨m1 ++ m2, by rw [e2, Array.append_assoc]⟩
  · obtain ⟨m, hn, hl⟩ := I.loc
    refine ⟨m, ns m hn, fun i x v e1 e2 e3 => ?_⟩
    obtain ⟨u, r, l⟩ := hl i x v e1 e2 e3
    refine ⟨u, r, ?_⟩
    rcases l with l | ⟨k, c, e, z⟩
    · exact .inl l
    · exact .inr ⟨k, c, e, cellK x c e _ z⟩
  · obtain ⟨v, z⟩ := I.cell x c e
    exact ⟨v, cellK x c e v z⟩
  · obtain ⟨m, ⟨o, _, _, ho, _⟩, _⟩ := I.loc
    exact free _ o (fun z => (hch _ z).2.1 rfl) ho I.free
  · obtain ⟨v, o, ho, hd⟩ := I.cell x c e
    exact free c o (fun z => (hch c z).2.2.1 x c e rfl) ho (I.freeC x c e)
  · obtain ⟨e, n, ne, nf, d⟩ := I.pin p hp
    have nch : p.1 ∉ ch := fun z => (hch p.1 z).2.2.2 p hp rfl
    exact ⟨keep p.1 p.2 ne nf nch e n, free p.1 p.2 nch e n, ne, nf, d⟩
theorem Inv.un {t' : Nat} (I : Inv X pins σ H s) (u : Un X.fs [] H H' s.heap h') (hok : HOk X.prog X.w H' h') : Inv X pins σ H' { s with heap := h', toks := t' } := by
  obtain ⟨m, ⟨o, es, ep, ho, r⟩, _⟩ := id I.loc
  obtain ⟨sl, hL⟩ := u.any ho I.free (by simp)
  exact I.step (g' := s.gens) (d' := s.drawn) (ch := []) (fun _ z => nomatch z) (fun b o _ hb _ e n => u.keep b o e n hb (by simp)) (fun b o _ hb _ e n => u.slot b o e n hb (by simp)) (fun b o _ e n => u.free b o e n (by simp)) (fun b o _ e => u.there b o e (by simp)) u.tups u.frzs u.tbls (fun m' hm => by
    obtain ⟨o', es', ep', ho', r'⟩ := hm
    rw [ho] at ho'; cases ho'
    exact ⟨_, es', ep', hL, r'⟩) hok I.bare
theorem Inv.call {g' : Array GenState} {t' : Nat} {d' : Drawn} {ch : List Addr} (I : Inv X pins σ H s) (u : Un (frs X.stack) ch H H' s.heap h') (hok : HOk X.prog X.w H' h') (hg : AllBare g')
    (hch : ∀ b ∈ ch, (b ∈ X.ex ∨ X.s₀.heap.objs.size ≤ b) ∧ b ≠ X.env.locals ∧ (∀ x c, X.env.cells.lookup x = some c → c ≠ b) ∧ ∀ p ∈ X.pn ++ pins, p.1 ≠ b) :
    Inv X pins σ H' { s with heap := h', gens := g', drawn := d', toks := t' } := by
  obtain ⟨m, ⟨o, es, ep, ho, r⟩, _⟩ := id I.loc
  obtain ⟨sl, hL⟩ := u.any ho I.free fun z => (hch _ z).2.1 rfl
  exact I.step (ch := ch) hch (fun b o hL hb hc e n => u.keep b o e n (fun z => (List.mem_cons.mp (I.stkSub b z)).elim hL hb) hc) (fun b o _ _ hc e n => u.any e n hc) (fun b o hc e n => u.free b o e n hc) (fun b o hc e => u.there b o e hc) u.tups u.frzs u.tbls (fun m' hm => by
    obtain ⟨o', es', ep', ho', r'⟩ := hm
    rw [ho] at ho'; cases ho'
    exact ⟨_, es', ep', hL, r'⟩) hok hg
theorem Inv.turned {t' : Nat} {it : Addr} (I : Inv X pins σ H s) (k : ∀ b o, b ≠ it → s.heap.get? b = some o → h'.get? b = some o) (hn : H it = none) (hL : it ≠ X.env.locals)
    (h1 : it ∈ X.ex ∨ X.s₀.heap.objs.size ≤ it) (h2 : ∀ x c, X.env.cells.lookup x = some c → c ≠ it) (h3 : ∀ p ∈ X.pn ++ pins, p.1 ≠ it) : Inv X pins σ H { s with heap := h', toks := t' } := by
  have nit : ∀ b u, H b = some u → b ≠ it := fun b u e z => by rw [z, hn] at e; cases e
  refine I.step (g' := s.gens) (d' := s.drawn) (ch := [it]) (fun b hb => ?_) (fun b o _ _ hc e _ => k b o (fun z => hc (by simp [z])) e) (fun b o _ _ hc e _ => ⟨o.slots, k b o (fun z => hc (by simp [z])) e⟩) (fun _ _ _ _ n => n)
    (fun b o hc e => ⟨o, k b o (fun z => hc (by simp [z])) e⟩) (fun _ _ e => e) (fun _ _ _ e => e) (fun b ps e => ⟨#[], by rw [e]; simp⟩) (fun m hm => ?_) (fun b u e => ?_) I.bare
  · have e : b = it := by simpa using hb
    subst e
    exact ⟨h1, hL, h2, h3⟩
  · obtain ⟨o, es, ep, ho, r⟩ := hm
    exact ⟨o, es, ep, k _ o (Ne.symm hL) ho, r⟩
  · refine (I.hok b u e).stay (fun c v hc q => k c v ?_ q) (fun _ q => q) fun _ _ q => q
    rcases hc with z | z
    · rw [z]; exact nit b u e
    · exact nit c _ z
theorem Inv.tok (I : Inv X pins σ H s) (t : Nat) : Inv X pins σ H { s with toks := t } := I.un (h' := s.heap) (t' := t) Un.refl I.hok
theorem Inv.kept {t' : Nat} (I : Inv X pins σ H s) (k : ∀ b u, s.heap.get? b = some u → h'.get? b = some u) : Inv X pins σ H { s with heap := h', toks := t' } := I.un (Un.kept k) (I.hok.kept k)
theorem Inv.laid {a : Addr} {o : HO} {t' : Nat} (I : Inv X pins σ H s) (k : ∀ b u, s.heap.get? b = some u → h'.get? b = some u) (hp : s.heap.objs.size ≤ a) (new : ObjOk X.prog X.w (upd H a o) h' a o) :
    Inv X pins σ (upd H a o) { s with heap := h', toks := t' } := I.un (Un.laid k hp (I.hok.fresh hp)) (I.hok.laid k hp new)
theorem Inv.write {x e : Addr} {o : HO} {t' : Nat} (I : Inv X pins σ H s) (mu : Mut (H x)) (he : e = x ∨ H e = some (.own x)) (k : ∀ b u, b ≠ e → s.heap.get? b = some u → h'.get? b = some u) (heo : ∃ u, h'.get? e = some u)
    (new : ObjOk X.prog X.w (upd H x o) h' x o) : Inv X pins σ (upd H x o) { s with heap := h', toks := t' } := I.un (Un.write mu he k heo) (I.hok.write mu he k heo new)
theorem Inv.pins_of {pins' : List (Addr × Obj)} (I : Inv X pins σ H s) (h : ∀ p ∈ pins', s.heap.get? p.1 = some p.2 ∧ H p.1 = none ∧ p.1 ≠ X.env.locals ∧ p.1 ∉ X.fs ∧ ∀ v, p.2.data ≠ .cell v) : Inv X pins' σ H s :=
  ⟨I.ok, I.os, I.bare, I.base, I.loc, I.cell, I.free, I.freeC, fun p hp => (List.mem_append.mp hp).elim (fun z => I.pin p (List.mem_append_left _ z)) (h p), I.hok, I.len⟩

theorem nodup_ix {N : List Str} (hN : N.Nodup) {i j : Nat} {x : Str} (a : N[i]? = some x) (b : N[j]? = some x) : i = j := by
  obtain ⟨h1, e1⟩ := List.getElem?_eq_some_iff.mp a
  obtain ⟨h2, e2⟩ := List.getElem?_eq_some_iff.mp b
  exact (List.getElem_inj hN).mp (e1.trans e2.symm)

theorem store_ok2 {M : Model} {A : Around} {E : Value → Shared → Prop} {i : Nat} {x : Str} {v : V} {u : Value} {Q : Unit → Shared → Prop} (I : Inv X pins σ H s) (hN : X.N.Nodup) (hi : X.N[i]? = some x) (hx : Loc X.env.scope x) (r : RelV v u)
    (h : ∀ s', Inv X pins (σ.set i (some v)) H s' → (∃ a, Heap.SameBut a s.heap s'.heap ∧ (a = X.env.locals ∨ X.env.cells.lookup x = some a)) → Q () s') (hf : X.fn x = true ∨ X.env.scope.names.lookup x = some .local := by first | exact .inl rfl | exact .inr rfl | assumption) : wpAny M A (storeName X.env x u) Q E s := by
  obtain ⟨m, hn, hl⟩ := id I.loc
  have hcls : (X.env.scope.kind == .class || (X.env.scope.kind == .module && X.env.locals != X.env.globals)) = false := by rw [I.ok.kind]; rfl
  have hiσ : i < σ.length := by rw [I.len]; exact (List.getElem?_eq_some_iff.mp hi).1
  have cne := I.cne
  have tracked : ∀ {a : Addr} {h' : Heap}, (∃ o, s.heap.get? a = some o ∧ H a = none) → Heap.SameBut a s.heap h' → HOk X.prog X.w H h' := fun {a h'} ha hs b ob e => by
    obtain ⟨_, _, hfree⟩ := ha
    refine (I.hok b ob e).stay (fun c w' hc q => (hs.2 c ?_).trans q) (fun _ q => q) fun _ _ q => q
    rintro rfl
    rcases hc with rfl | hc
    · rw [hfree] at e; cases e
    · rw [hfree] at hc; cases hc
  rcases hx with hk | hk
  · refine wpAny_storeName_local hk hn (fun h' hn' hs => ?_) hcls
    obtain ⟨oL, _, _, hoL, _⟩ := id hn
    refine h _ ⟨I.ok, I.os, I.bare, ⟨fun b o e n hb hx => ?_, fun b o e n hb hx => ?_, I.base.free, fun b o e hx => ?_, I.base.tups, I.base.frzs, I.base.tbls⟩, ⟨_, hn', fun j y v' e1 e2 e3 => ?_⟩, fun y c e => ?_, I.free, I.freeC, fun p hp => ?_, tracked ⟨oL, hoL, I.free⟩ hs, by simpa using I.len⟩ ⟨_, hs, .inl rfl⟩
    · exact (hs.2 b (Nat.ne_of_lt (Nat.lt_of_lt_of_le (Heap.lt_size e) I.ok.above))).trans (I.base.keep b o e n hb hx)
    · obtain ⟨sl, e1⟩ := I.base.slot b o e n hb hx
      exact ⟨sl, (hs.2 b (Nat.ne_of_lt (Nat.lt_of_lt_of_le (Heap.lt_size e) I.ok.above))).trans e1⟩
    · obtain ⟨o', e1⟩ := I.base.there b o e hx
      exact ⟨o', (hs.2 b (Nat.ne_of_lt (Nat.lt_of_lt_of_le (Heap.lt_size e) I.ok.above))).trans e1⟩
    · by_cases hj : j = i
      · subst hj
        rw [hi] at e1; cases e1
        rw [List.getElem?_set_self hiσ] at e2
        cases e2
        exact ⟨u, r, .inl ⟨hk, by simp⟩⟩
      · rw [List.getElem?_set_ne (Ne.symm hj)] at e2
        obtain ⟨u', r', q⟩ := hl j y v' e1 e2 e3
        refine ⟨u', r', ?_⟩
        rcases q with ⟨k, e⟩ | ⟨k, c, e, z⟩
        · refine .inl ⟨k, ?_⟩
          have : y ≠ x := fun e => hj (nodup_ix hN e1 (e ▸ hi))
          simp [this, e]
        · exact .inr ⟨k, c, e, z.sameBut hs (cne y c e)⟩
    · obtain ⟨w', z⟩ := I.cell y c e
      exact ⟨w', z.sameBut hs (cne y c e)⟩
    · obtain ⟨e, n, ne, nf, d⟩ := I.pin p hp
      exact ⟨(hs.2 p.1 ne).trans e, n, ne, nf, d⟩
  · have hfn : X.fn x = true := by
      rcases hf with z | z
      · exact z
      · rw [z] at hk; cases hk
    obtain ⟨c, hc⟩ := I.ok.has x (.inl hk)
    obtain ⟨w', z⟩ := I.cell x c hc
    refine wpAny_storeName_cell I.ok.kind hk hc z (fun h' hc' hs => ?_)
    obtain ⟨oc, hoc, hocd⟩ := id z
    refine h { s with heap := h' } ⟨I.ok, I.os, I.bare, ⟨fun b o e n hb hx => ?_, fun b o e n hb hx => ?_, I.base.free, fun b o e hx => ?_, I.base.tups, I.base.frzs, I.base.tbls⟩, ⟨m, hn.sameBut hs (Ne.symm (cne x c hc)), fun j y v' e1 e2 e3 => ?_⟩, fun y c' e => ?_, I.free, I.freeC, fun p hp => ?_, tracked ⟨oc, hoc, I.freeC x c hc⟩ hs, by simpa using I.len⟩ ⟨c, hs, .inr hc⟩
    · exact (hs.2 b (Nat.ne_of_lt (Nat.lt_of_lt_of_le (Heap.lt_size e) (I.ok.cab x c hfn hc)))).trans (I.base.keep b o e n hb hx)
    · obtain ⟨sl, e1⟩ := I.base.slot b o e n hb hx
      exact ⟨sl, (hs.2 b (Nat.ne_of_lt (Nat.lt_of_lt_of_le (Heap.lt_size e) (I.ok.cab x c hfn hc)))).trans e1⟩
    · obtain ⟨o', e1⟩ := I.base.there b o e hx
      exact ⟨o', (hs.2 b (Nat.ne_of_lt (Nat.lt_of_lt_of_le (Heap.lt_size e) (I.ok.cab x c hfn hc)))).trans e1⟩
    · by_cases hj : j = i
      · subst hj
        rw [hi] at e1; cases e1
        rw [List.getElem?_set_self hiσ] at e2
        cases e2
        exact ⟨u, r, .inr ⟨.inl hk, c, hc, hc'⟩⟩
      · rw [List.getElem?_set_ne (Ne.symm hj)] at e2
        obtain ⟨u', r', q⟩ := hl j y v' e1 e2 e3
        refine ⟨u', r', ?_⟩
        rcases q with q | ⟨k, c', e, z'⟩
        · exact .inl q
        · refine .inr ⟨k, c', e, z'.sameBut hs ?_⟩
          rintro rfl
          exact hj (nodup_ix hN e1 (I.ok.inj _ _ _ e hc ▸ hi))
    · by_cases hcc : c' = c
      · subst hcc; exact ⟨_, hc'⟩
      · obtain ⟨w2, z2⟩ := I.cell y c' e
        exact ⟨w2, z2.sameBut hs hcc⟩
    · obtain ⟨e, n, ne, nf, d⟩ := I.pin p hp
      refine ⟨(hs.2 p.1 ?_).trans e, n, ne, nf, d⟩
      intro q
      rw [q, hoc] at e
      have q' : oc = p.2 := Option.some.inj e
      exact d w' (by rw [← q']; exact hocd)
theorem store_ok {M : Model} {A : Around} {E : Value → Shared → Prop} {i : Nat} {x : Str} {v : V} {u : Value} {Q : Unit → Shared → Prop} (I : Inv X pins σ H s) (hN : X.N.Nodup) (hi : X.N[i]? = some x) (hx : Loc X.env.scope x) (r : RelV v u)
    (h : ∀ s', Inv X pins (σ.set i (some v)) H s' → Q () s') (hf : X.fn x = true ∨ X.env.scope.names.lookup x = some .local := by first | exact .inl rfl | exact .inr rfl | assumption) : wpAny M A (storeName X.env x u) Q E s :=
  store_ok2 I hN hi hx r (fun s' I' _ => h s' I') hf
theorem Inv.call' {s' : Shared} {ch : List Addr} (I : Inv X pins σ H s) (ho : s'.os = s.os) (u : Un (frs X.stack) ch H H' s.heap s'.heap) (hok : HOk X.prog X.w H' s'.heap) (hg : AllBare s'.gens)
    (hch : ∀ b ∈ ch, (b ∈ X.ex ∨ X.s₀.heap.objs.size ≤ b) ∧ b ≠ X.env.locals ∧ (∀ x c, X.env.cells.lookup x = some c → c ≠ b) ∧ ∀ p ∈ X.pn ++ pins, p.1 ≠ b) : Inv X pins σ H' s' := by
  obtain ⟨h', g', d', t', o'⟩ := s'
  have e : o' = s.os := ho
  subst e
  exact I.call (g' := g') (t' := t') (d' := d') u hok hg hch
end

/-! ### the judgements -/
abbrev XK := Value → Option Addr → Hp → Prop
abbrev St := List (Option V)
abbrev VK := V → Hp → Prop
abbrev TE := St → Hp → VK → Prop
abbrev TT := St → Hp → (Bool → Hp → Prop) → Prop
abbrev TA := St → Hp → (List V → Hp → Prop) → Prop
structure Ends where
  nx : St → Hp → Prop
  rt : VK
  bk : St → Hp → Prop := fun _ _ => False
  ct : St → Hp → Prop := fun _ _ => False
abbrev TS := Ends → St → Hp → Prop

noncomputable def EP (X : Cx) (pins : List (Addr × Obj)) (σ : St) (Q : VK) (u : Value) (s' : Shared) : Prop := ∃ v H', Inv X pins σ H' s' ∧ RelV v u ∧ Q v H'
noncomputable def TP (X : Cx) (pins : List (Addr × Obj)) (σ : St) (Q : Bool → Hp → Prop) (b : Bool) (s' : Shared) : Prop := ∃ H', Inv X pins σ H' s' ∧ Q b H'
noncomputable def AP (X : Cx) (pins : List (Addr × Obj)) (σ : St) (Q : List V → Hp → Prop) (us : List Value) (s' : Shared) : Prop := ∃ vs H', Inv X pins σ H' s' ∧ Vals vs us ∧ Q vs H'
noncomputable def SP (X : Cx) (pins : List (Addr × Obj)) (D : Ends) (f : Flow) (s' : Shared) : Prop :=
  match f with
  | .next => ∃ σ' H', Inv X pins σ' H' s' ∧ D.nx σ' H'
  | .brk => ∃ σ' H', Inv X pins σ' H' s' ∧ D.bk σ' H'
  | .cont => ∃ σ' H', Inv X pins σ' H' s' ∧ D.ct σ' H'
  | .ret u => ∃ v σ' H', Inv X pins σ' H' s' ∧ RelV v u ∧ D.rt v H'

noncomputable def PE (X : Cx) (e : Expr) (t : TE) : Prop :=
  ∀ (pins : List (Addr × Obj)) (s : Shared) (σ : St) (H : Hp) (Q : VK), Inv X pins σ H s → t σ H Q → wpAny (model X.prog X.w) X.A (eval e X.env) (EP X pins σ Q) X.xe s
noncomputable def PT (X : Cx) (e : Expr) (t : TT) : Prop :=
  ∀ (pins : List (Addr × Obj)) (s : Shared) (σ : St) (H : Hp) (Q : Bool → Hp → Prop), Inv X pins σ H s → t σ H Q → wpAny (model X.prog X.w) X.A (isTrue e X.env (eval e X.env)) (TP X pins σ Q) X.xe s
noncomputable def PW (X : Cx) (e : Expr) (t : TT) : Prop :=
  ∀ (whole : Sem Value) (pins : List (Addr × Obj)) (s : Shared) (σ : St) (H : Hp) (Q : Bool → Hp → Prop), Inv X pins σ H s → t σ H Q → wpAny (model X.prog X.w) X.A (isTrue e X.env whole) (TP X pins σ Q) X.xe s
theorem PW.pt {X : Cx} {e : Expr} {t : TT} (h : PW X e t) : PT X e t := h _
noncomputable def PA (X : Cx) (es : List Expr) (t : TA) : Prop :=
  ∀ (pos : Pos) (pins : List (Addr × Obj)) (s : Shared) (σ : St) (H : Hp) (Q : List V → Hp → Prop), Inv X pins σ H s → t σ H Q → wpAny (model X.prog X.w) X.A (spliced (backTo pos (starEach es X.env))) (AP X pins σ Q) X.xe s
noncomputable def PS (X : Cx) (st : Stmt) (t : TS) : Prop :=
  ∀ (pins : List (Addr × Obj)) (s : Shared) (σ : St) (H : Hp) (D : Ends), Inv X pins σ H s → t D σ H → wpAny (model X.prog X.w) X.A (exec st X.env) (SP X pins D) X.xe s
noncomputable def PSs (X : Cx) (st : List Stmt) (t : TS) : Prop :=
  ∀ (pins : List (Addr × Obj)) (s : Shared) (σ : St) (H : Hp) (D : Ends), Inv X pins σ H s → t D σ H → wpAny (model X.prog X.w) X.A (execs st X.env) (SP X pins D) X.xe s
theorem thn {α : Type} {t : Sem α} {Q Q' : α → Shared → Prop} {M : Model} {A : Around} {E : Value → Shared → Prop} {s : Shared} (h : wpAny M A t Q E s) (hQ : ∀ a s, Q a s → Q' a s) : wpAny M A t Q' E s := wpAny_mono h hQ fun _ _ x => x
end L2

namespace L2
open PySem PySem.Spec PyProof.Rows
section
variable {X : Cx}

/-! ### names and constants -/
noncomputable def tVar (i : Nat) : TE := fun σ H Q => ∃ v, σ[i]? = some (some v) ∧ Q v H
noncomputable def tC (v : V) : TE := fun _ H Q => Q v H
theorem pe_var {i : Nat} {x : Str} {pos : Pos} (hN : X.N[i]? = some x) (hv : Vis X.env.scope x) (hd : (x == ("__debug__" : Str)) = false := by decide) (hcd : (x == ("__classdict__" : Str)) = false := by decide) : PE X (.Name x pos) (tVar i) := by
  intro pins s σ H Q I h
  obtain ⟨v, e, h⟩ := h
  obtain ⟨m, hn, hl⟩ := I.loc
  obtain ⟨u, r, l⟩ := hl i x v hN e hv
  have fin : EP X pins σ Q u s := ⟨v, H, I, r, h⟩
  rcases l with ⟨hk, hm⟩ | ⟨hk, c, hc, hcell⟩
  · exact wpAny_Name (wpAny_loadName_local I.ok.kind hk hn hm fin) hd
  · rcases hk with hk | hk
    · exact wpAny_Name (wpAny_loadName_cell I.ok.kind hk hc hcell fin) hd
    · exact wpAny_Name (wpAny_loadName_free I.ok.kind hk hc hcell fin hcd) hd
theorem pe_int {i j pos} : PE X (.Constant (.int i) j pos) (tC (.int i)) := fun _ _ _ H _ I h => wpAny_Constant_int ⟨.int i, H, I.tok _, ⟨_, rfl⟩, h⟩
theorem pe_bl {b j pos} : PE X (.Constant (.bool b) j pos) (tC (.bl b)) := fun _ _ _ H _ I h => Constant_bool ⟨.bl b, H, I, rfl, h⟩
theorem pe_str {x j pos} : PE X (.Constant (.str x) j pos) (tC (.str x)) := fun _ _ _ H _ I h => Calls.Constant_str ⟨.str x, H, I.tok _, ⟨_, rfl⟩, h⟩

noncomputable def Gl (X : Cx) (x : Str) : Prop := X.env.kindOf x = some .globalImplicit
theorem ld_glob {E : Value → Shared → Prop} {pins : List (Addr × Obj)} {s : Shared} {σ : St} {H : Hp} {x : Str} {u : Value} {pos : Pos} {Q : Value → Shared → Prop} (I : Inv X pins σ H s) (hg : Gl X x) (hm : X.mg x = some u) (h : Q u s)
    (hd : (x == ("__debug__" : Str)) = false := by decide) : wpAny (model X.prog X.w) X.A (eval (.Name x pos) X.env) Q E s :=
  Calls.Name_function_global I.ok.kind hg (Calls.loadGlobal_global (by rw [I.ok.glob]; exact I.mod.glob.keeps I.bk) hm h) hd
theorem ld_blt {E : Value → Shared → Prop} {pins : List (Addr × Obj)} {s : Shared} {σ : St} {H : Hp} {x : Str} {u : Value} {pos : Pos} {Q : Value → Shared → Prop} (I : Inv X pins σ H s) (hg : Gl X x) (hm : X.mg x = none) (hv : bootBuiltins x = some u) (h : Q u s)
    (hn : x ≠ "__name__" := by decide) (hd : (x == ("__debug__" : Str)) = false := by decide) : wpAny (model X.prog X.w) X.A (eval (.Name x pos) X.env) Q E s := by
  obtain ⟨mb, h1, h2⟩ := I.mod.blt
  exact Calls.Name_function_global I.ok.kind hg (Calls.loadGlobal_builtin (by rw [I.ok.glob]; exact I.mod.glob.keeps I.bk) hm (by rw [I.ok.blt]; exact h1.keeps I.bk) ((h2 x hn).trans hv) h) hd
theorem pe_bltn {x : Str} {v : V} {u : Value} {pos : Pos} (hg : Gl X x) (hm : X.mg x = none) (hv : bootBuiltins x = some u) (r : RelV v u) (hn : x ≠ "__name__" := by decide) (hd : (x == ("__debug__" : Str)) = false := by decide) : PE X (.Name x pos) (tC v) :=
  fun _ _ _ H _ I h => ld_blt I hg hm hv ⟨v, H, I, r, h⟩ hn hd

/-! ### arithmetic -/
variable {a b : Expr} {ta tb : TE} {pos : Pos}
/-! ### comparisons -/
/-! ### and, or, not -/
variable {tA tB' : TT} {rest : List Expr}
noncomputable def tAnd (t u : TT) : TT := fun σ H Q => t σ H fun c H1 => if c = true then u σ H1 Q else Q false H1
noncomputable def tOr (t u : TT) : TT := fun σ H Q => t σ H fun c H1 => if c = true then Q true H1 else u σ H1 Q
noncomputable def tNot (t : TT) : TT := fun σ H Q => t σ H fun c H1 => Q (!c) H1
theorem pw_and1 (ha : PT X a tA) : PW X (.BoolOp .And [a] pos) tA := by
  intro wh pins s σ H Q I h
  refine isTrue_and (thn (ha pins s σ H Q I h) fun c s1 e => ?_)
  cases c with
  | true => exact isTrue_and_nil e
  | false => exact e
theorem pw_or1 (ha : PT X a tA) : PW X (.BoolOp .Or [a] pos) tA := by
  intro wh pins s σ H Q I h
  refine isTrue_or (thn (ha pins s σ H Q I h) fun c s1 e => ?_)
  cases c with
  | false => exact isTrue_or_nil e
  | true => exact e
theorem pw_and (ha : PT X a tA) (hb : PW X (.BoolOp .And (b :: rest) pos) tB') : PW X (.BoolOp .And (a :: b :: rest) pos) (tAnd tA tB') := by
  intro wh pins s σ H Q I h
  refine isTrue_and (thn (ha pins s σ H _ I h) fun c s1 ⟨H1, I1, q1⟩ => ?_)
  cases c with
  | true => exact hb wh pins s1 σ H1 Q I1 q1
  | false => exact ⟨H1, I1, q1⟩
theorem pw_or (ha : PT X a tA) (hb : PW X (.BoolOp .Or (b :: rest) pos) tB') : PW X (.BoolOp .Or (a :: b :: rest) pos) (tOr tA tB') := by
  intro wh pins s σ H Q I h
  refine isTrue_or (thn (ha pins s σ H _ I h) fun c s1 ⟨H1, I1, q1⟩ => ?_)
  cases c with
  | true => exact ⟨H1, I1, q1⟩
  | false => exact hb wh pins s1 σ H1 Q I1 q1
theorem pt_not (ha : PT X a tA) : PT X (.UnaryOp .Not a pos) (tNot tA) := by
  intro pins s σ H Q I h
  exact isTrue_not (ha pins s σ H (fun c H1 => Q (!c) H1) I h)
noncomputable def tAndV (ta tb : TE) : TE := fun σ H Q => ta σ H fun x H1 => ∃ c, x = .bl c ∧ if c = true then tb σ H1 Q else Q (.bl false) H1
noncomputable def tNotV (ta : TE) : TE := fun σ H Q => ta σ H fun x H1 => ∃ c, x = .bl c ∧ Q (.bl (!c)) H1
theorem pe_one {op} {t : TE} (h : PE X a t) : PE X (.BoolOp op [a] pos) t := fun pins s σ H Q I hw => BoolOp_one (h pins s σ H Q I hw)
theorem pe_and (ha : PE X a ta) (hb : PE X (.BoolOp .And (b :: rest) pos) tb) : PE X (.BoolOp .And (a :: b :: rest) pos) (tAndV ta tb) := by
  intro pins s σ H Q I h
  refine BoolOp_and (thn (ha pins s σ H _ I h) fun v s1 ⟨x, H1, I1, r1, q1⟩ => ?_)
  obtain ⟨c, rfl, q1⟩ := q1
  cases r1
  refine wpAny_truthy_bool ?_
  cases c with
  | true => exact hb pins s1 σ H1 Q I1 q1
  | false => exact ⟨.bl false, H1, I1, rfl, q1⟩
theorem pe_not (ha : PE X a ta) : PE X (.UnaryOp .Not a pos) (tNotV ta) := by
  intro pins s σ H Q I h
  refine UnaryOp_ (thn (ha pins s σ H _ I h) fun v s1 ⟨x, H1, I1, r1, q1⟩ => ?_)
  obtain ⟨c, rfl, q1⟩ := q1
  cases r1
  exact not_of (wpAny_truthy_bool ⟨.bl (!c), H1, I1, rfl, q1⟩)
end
end L2

namespace L2
open PySem PySem.Spec PyProof.Rows

/-! ### a list, a tuple that is read: tracked, frozen, or an object of the module -/
noncomputable def SqL (K : PySem.W.Frag) (H : Hp) (a : Addr) (xs : List V) : Prop :=
  Rd H a (.lst xs) ∨
    ∃ (o : Obj) (its : Array Value) (n : Nat), K.lookup a = some o ∧ o.cls = .type "list" ∧ o.dict = none ∧ o.data = .seq its n ∧ its.size ≤ sizeLine ∧ Vals xs its.toList
noncomputable def SqT (K : PySem.W.Frag) (H : Hp) (a : Addr) (xs : List V) : Prop :=
  Rd H a (.tup xs) ∨
    ∃ (o : Obj) (its : Array Value) (n : Nat), K.lookup a = some o ∧ o.cls = .type "tuple" ∧ o.data = .seq its n ∧ its.size ≤ sizeLine ∧ Vals xs its.toList
noncomputable def absV : Value → Option V
  | .none => some .non
  | .bool b => some (.bl b)
  | .int i _ => some (.int i)
  | .str x _ => some (.str x)
  | .bytes b _ => some (.byt b)
  | .float b _ => some (.flt b)
  | .ref a => some (.ref a)
  | .type n => some (.ty n)
  | _ => none
theorem RelV.abs {x : V} {u : Value} (r : RelV x u) : absV u = some x := by
  cases x with
  | non => cases r; rfl
  | bl _ => cases r; rfl
  | int _ => obtain ⟨t, rfl⟩ := r; rfl
  | str _ => obtain ⟨t, rfl⟩ := r; rfl
  | byt _ => obtain ⟨t, rfl⟩ := r; rfl
  | flt _ => obtain ⟨t, rfl⟩ := r; rfl
  | ref _ => cases r; rfl
  | ty _ => cases r; rfl
theorem RelV.inj {x y : V} {u : Value} (r : RelV x u) (q : RelV y u) : x = y := Option.some.inj (r.abs.symm.trans q.abs)
theorem Vals.inj : ∀ {xs ys : List V} {us : List Value}, Vals xs us → Vals ys us → xs = ys
  | _, _, _, .nil, .nil => rfl
  | _, _, _, .cons r t, .cons r' t' => by rw [r.inj r', Vals.inj t t']
section
variable {X : Cx} {pins : List (Addr × Obj)} {σ : St} {H : Hp} {s : Shared} {a : Addr} {xs ys : List V}
theorem SqL.of {K : PySem.W.Frag} (h : H a = some (.lst xs)) : SqL K H a xs := .inl (.inl h)
theorem SqT.of {K : PySem.W.Frag} (h : H a = some (.tup xs)) : SqT K H a xs := .inl (.inl h)
theorem Inv.list (I : Inv X pins σ H s) (h : SqL X.K H a xs) : ∃ its : List Value, Vals xs its ∧ PlainL s.heap a its.toArray ∧ xs.length ≤ sizeLine := by
  rcases h with h | ⟨o, its, n, hk, hc, hd, hs, hz, r⟩
  · obtain ⟨z, its, n, r, e⟩ := h.ok I.hok
    exact ⟨its, r, ⟨_, n, e, rfl, rfl, rfl⟩, z⟩
  · refine ⟨its.toList, r, ⟨o, n, I.kIn a o hk, hc, hd, by simpa using hs⟩, ?_⟩
    have e := r.length
    simp only [Array.length_toList] at e
    omega
theorem Inv.tuple (I : Inv X pins σ H s) (h : SqT X.K H a xs) : ∃ its : List Value, Vals xs its ∧ IsTup s.heap a its.toArray ∧ xs.length ≤ sizeLine := by
  rcases h with h | ⟨o, its, n, hk, hc, hs, hz, r⟩
  · obtain ⟨z, its, r, p⟩ := h.ok I.hok
    exact ⟨its, r, p, z⟩
  · refine ⟨its.toList, r, ⟨o, I.kIn a o hk, hc, n, by simpa using hs⟩, ?_⟩
    have e := r.length
    simp only [Array.length_toList] at e
    omega
end

/-! ### another wish about exceptions -/
abbrev Cx.wish (X : Cx) (E : Value → Shared → Prop) : Cx := { X with xe := E }
abbrev Cx.nox (X : Cx) : Cx := X.wish fun _ _ => False
theorem Cx.Ok.wish {X : Cx} (ok : X.Ok) (E : Value → Shared → Prop) : (X.wish E).Ok :=
  ⟨ok.mod, ok.kind, ok.glob, ok.blt, ok.above, ok.inj, ok.has, ok.cab, ok.hd, ok.frames, ok.stk, ok.exf, ok.bs, ok.bsz, ok.noex, ok.exfs, ok.funs, ok.frf⟩
theorem Cx.Ok.unwish {X : Cx} {E : Value → Shared → Prop} (ok : (X.wish E).Ok) : X.Ok :=
  ⟨ok.mod, ok.kind, ok.glob, ok.blt, ok.above, ok.inj, ok.has, ok.cab, ok.hd, ok.frames, ok.stk, ok.exf, ok.bs, ok.bsz, ok.noex, ok.exfs, ok.funs, ok.frf⟩
section
variable {X : Cx} {pins : List (Addr × Obj)} {σ : St} {H : Hp} {s : Shared} {E : Value → Shared → Prop}
theorem Inv.wish (I : Inv X pins σ H s) (E : Value → Shared → Prop) : Inv (X.wish E) pins σ H s := ⟨I.ok.wish E, I.os, I.bare, I.base, I.loc, I.cell, I.free, I.freeC, I.pin, I.hok, I.len⟩
theorem Inv.unwish (I : Inv (X.wish E) pins σ H s) : Inv X pins σ H s := ⟨I.ok.unwish, I.os, I.bare, I.base, I.loc, I.cell, I.free, I.freeC, I.pin, I.hok, I.len⟩
theorem SP.unwish {D : Ends} {f : Flow} {s' : Shared} (h : SP (X.wish E) pins D f s') : SP X pins D f s' := by
  cases f with
  | next => obtain ⟨σ', H', I, q⟩ := h; exact ⟨σ', H', I.unwish, q⟩
  | brk => obtain ⟨σ', H', I, q⟩ := h; exact ⟨σ', H', I.unwish, q⟩
  | cont => obtain ⟨σ', H', I, q⟩ := h; exact ⟨σ', H', I.unwish, q⟩
  | ret u => obtain ⟨v, σ', H', I, r, q⟩ := h; exact ⟨v, σ', H', I.unwish, r, q⟩
theorem PE.nox {e : Expr} {t : TE} (h : PE X.nox e t) : PE X e t := fun pins s σ H Q I hw =>
  wpAny_mono (h pins s σ H Q (I.wish _) hw) (fun _ _ ⟨v, H', I', r, q⟩ => ⟨v, H', I'.unwish, r, q⟩) fun _ _ z => False.elim z
theorem PT.nox {e : Expr} {t : TT} (h : PT X.nox e t) : PT X e t := fun pins s σ H Q I hw =>
  wpAny_mono (h pins s σ H Q (I.wish _) hw) (fun _ _ ⟨H', I', q⟩ => ⟨H', I'.unwish, q⟩) fun _ _ z => False.elim z
theorem PSs.nox {st : List Stmt} {t : TS} (h : PSs X.nox st t) : PSs X st t := fun pins s σ H D I hw =>
  wpAny_mono (h pins s σ H D (I.wish _) hw) (fun _ _ q => q.unwish) fun _ _ z => False.elim z
end

/-! ### blocks and small statements -/
section
variable {X : Cx} {st : Stmt} {rest : List Stmt} {t u : TS} {e : Expr} {te : TE} {pos : Pos}
noncomputable def tNext : TS := fun D σ H => D.nx σ H
noncomputable def tSeq (t u : TS) : TS := fun D σ H => t { D with nx := u D } σ H
theorem pss_nil : PSs X [] tNext := fun _ _ σ H _ I h => wpAny_execs_nil ⟨σ, H, I, h⟩
theorem pss_cons (h1 : PS X st t) (h2 : PSs X rest u) : PSs X (st :: rest) (tSeq t u) := by
  intro pins s σ H D I h
  refine wpAny_execs_cons (thn (h1 pins s σ H { D with nx := u D } I h) fun f s1 q => ?_)
  cases f with
  | next =>
    obtain ⟨σ', H', I', q⟩ := q
    exact h2 pins s1 σ' H' D I' q
  | ret v => exact q
  | brk => exact q
  | cont => exact q
theorem pss_one (h1 : PS X st t) : PSs X [st] t := by
  intro pins s σ H D I h
  refine wpAny_execs_cons (thn (h1 pins s σ H D I h) fun f s1 q => ?_)
  cases f with
  | next => exact wpAny_execs_nil q
  | ret v => exact q
  | brk => exact q
  | cont => exact q
theorem Inv.quiet {pins : List (Addr × Obj)} {σ : St} {H : Hp} {s : Shared} (I : Inv X pins σ H s) : interactive X.env = false := by simp [interactive, I.ok.kind]
noncomputable def tDrop (te : TE) : TS := fun D σ H => te σ H fun _ H1 => D.nx σ H1
theorem ps_expr (he : PE X e te) (hs : swapsWith e none pos.line X.env = pure false := by rfl) : PS X (.Expr e pos) (tDrop te) := by
  intro pins s σ H D I h
  exact wpAny_Expr_any (thn (he pins s σ H _ I h) fun v s1 ⟨x, H1, I1, r1, q1⟩ => ⟨σ, H1, I1, q1⟩) I.quiet hs
noncomputable def tRet (te : TE) : TS := fun D σ H => te σ H D.rt
theorem ps_ret (he : PE X e te) : PS X (.Return (some e) pos) (tRet te) := by
  intro pins s σ H D I h
  exact wpAny_Return_some (thn (he pins s σ H _ I h) fun v s1 ⟨x, H1, I1, r1, q1⟩ => ⟨x, σ, H1, I1, r1, q1⟩)
noncomputable def tIfS (c : TT) (t u : TS) : TS := fun D σ H => c σ H fun b H1 => if b = true then t D σ H1 else u D σ H1
theorem ps_if {c : Expr} {a b : List Stmt} {tc : TT} (hc : PT X c tc) (ha : PSs X a t) (hb : PSs X b u) : PS X (.If c a b pos) (tIfS tc t u) := by
  intro pins s σ H D I h
  refine wpAny_If (thn (hc pins s σ H _ I h) fun d s1 ⟨H1, I1, q1⟩ => ?_)
  cases d with
  | true => exact ha pins s1 σ H1 D I1 q1
  | false => exact hb pins s1 σ H1 D I1 q1
end

/-! ### targets -/
abbrev TG := V → St → Hp → (St → Hp → Prop) → Prop
noncomputable def PG (X : Cx) (target : Expr) (t : TG) : Prop :=
  ∀ (pins : List (Addr × Obj)) (s : Shared) (σ : St) (H : Hp) (v : V) (u : Value) (Q : St → Hp → Prop), Inv X pins σ H s → RelV v u → t v σ H Q →
    wpAny (model X.prog X.w) X.A (assign target X.env u) (fun _ s' => ∃ σ' H', Inv X pins σ' H' s' ∧ Q σ' H') X.xe s
section
variable {X : Cx} {pos : Pos}
noncomputable def gName (i : Nat) : TG := fun v σ H Q => Q (σ.set i (some v)) H
theorem pg_name {i : Nat} {x : Str} (hN : X.N.Nodup) (hi : X.N[i]? = some x) (hx : Loc X.env.scope x) (hf : X.fn x = true ∨ X.env.scope.names.lookup x = some .local := by first | exact .inl rfl | exact .inr rfl | assumption) : PG X (.Name x pos) (gName i) := by
  intro pins s σ H v u Q I r h
  exact wpAny_assign_Name (store_ok I hN hi hx r (fun s' I' => ⟨_, H, I', h⟩) hf)
noncomputable def tAsg (te : TE) (g : TG) : TS := fun D σ H => te σ H fun x H1 => g x σ H1 D.nx
theorem ps_set {i : Nat} {x : Str} {e : Expr} {te : TE} {pos' : Pos} (hN : X.N.Nodup) (hi : X.N[i]? = some x) (hx : Loc X.env.scope x) (he : PE X e te) (hs : swapsWith e (some (.Name x pos')) pos.line X.env = pure false := by rfl) (hf : X.fn x = true ∨ X.env.scope.names.lookup x = some .local := by first | exact .inl rfl | exact .inr rfl | assumption) :
    PS X (.Assign [.Name x pos'] e pos) (tAsg te (gName i)) := by
  intro pins s σ H D I h
  refine wpAny_Assign_Name (thn (he pins s σ H _ I h) fun v s1 ⟨y, H1, I1, r1, q1⟩ => ?_) hs
  exact store_ok I1 hN hi hx r1 (fun s2 I2 => ⟨_, H1, I2, q1⟩) hf
end

/-! ### while -/
section
variable {X : Cx} {pos : Pos}
end

/-! ### what a loop or a comprehension walks -/
structure It where
  go : Nat → Hp → Prop
  yld : Nat → Hp → V → Hp → Prop
  stop : Nat → Hp → Prop
noncomputable def FpOk (X : Cx) (pins : List (Addr × Obj)) (H : Hp) (b : Addr) : Prop :=
  H b = none ∧ b ≠ X.env.locals ∧ b ∉ X.fs ∧ (b ∈ X.ex ∨ X.s₀.heap.objs.size ≤ b) ∧ (∀ x c, X.env.cells.lookup x = some c → c ≠ b) ∧ ∀ p ∈ X.pn ++ pins, p.1 ≠ b
theorem Inv.fpOk {X : Cx} {pins : List (Addr × Obj)} {σ : St} {H H' : Hp} {s : Shared} {b : Addr} (I : Inv X pins σ H s) (hb : s.heap.objs.size ≤ b) (hn : H' b = none) : FpOk X pins H' b := by
  refine ⟨hn, Nat.ne_of_gt (Nat.lt_of_lt_of_le I.lt hb), I.nofs hb, .inr (Nat.le_trans I.sz hb), fun x c e z => ?_, fun p hp z => ?_⟩
  · obtain ⟨v, q⟩ := I.cell x c e
    exact absurd (Nat.lt_of_lt_of_le q.lt (by rw [z]; exact hb)) (Nat.lt_irrefl _)
  · exact absurd (Nat.lt_of_lt_of_le (Heap.lt_size (I.pin p hp).1) (by rw [z]; exact hb)) (Nat.lt_irrefl _)
structure Turn (P : Program) (w : World) (K : PySem.W.Frag) (tg : Expr) (J : It) (fp : List Addr) (it : Addr) (tn : Nat → Heap → Prop) : Prop where
  mem : it ∈ fp
  obj : ∀ i h, tn i h → ∀ b ∈ fp, ∃ o, h.get? b = some o ∧ ∀ v, o.data ≠ .cell v
  keep : ∀ i h h', tn i h → (∀ b ∈ fp, ∀ o, h.get? b = some o → h'.get? b = some o) → tn i h'
  item : ∀ (X : Cx), X.prog = P → X.w = w → X.K = K → X.calm = true → ∀ (i : Nat) (pins : List (Addr × Obj)) (s : Shared) (σ : St) (H : Hp) (E : Value → Shared → Prop), Inv X pins σ H s → (∀ b ∈ fp, FpOk X pins H b) → tn i s.heap → J.go i H →
    wpAny (model P w) X.A (pyNext (.ref it)) (fun r s1 => ∃ u, r = some u ∧
      wpAny (model P w) X.A (letOwnedTupleGo tg (.ref it) u) (fun _ s2 => ∃ x H', Inv X pins σ H' s2 ∧ RelV x u ∧ J.yld i H x H' ∧ tn (i + 1) s2.heap ∧ ∀ b ∈ fp, H' b = none) E s1) E s
  done : ∀ (X : Cx), X.prog = P → X.w = w → X.K = K → X.calm = true → ∀ (i : Nat) (pins : List (Addr × Obj)) (s : Shared) (σ : St) (H : Hp) (E : Value → Shared → Prop), Inv X pins σ H s → (∀ b ∈ fp, FpOk X pins H b) → tn i s.heap → J.stop i H →
    wpAny (model P w) X.A (pyNext (.ref it)) (fun r s1 => r = none ∧ Inv X pins σ H s1) E s
  self : ∀ (A : Around) (i : Nat) (s : Shared) (Q : Value → Shared → Prop) (E : Value → Shared → Prop), tn i s.heap → Q (.ref it) s → wpAny (model P w) A (pyIter (.ref it)) Q E s
abbrev TI := St → Hp → (It → Hp → Prop) → Prop
noncomputable def PIE (X : Cx) (pins : List (Addr × Obj)) (σ : St) (tg : Expr) (R : It → Hp → Prop) (itv : Value) (s2 : Shared) : Prop :=
  ∃ (it : Addr) (fp : List Addr) (tn : Nat → Heap → Prop) (J : It) (H' : Hp), itv = .ref it ∧ Inv X pins σ H' s2 ∧ Turn X.prog X.w X.K tg J fp it tn ∧ tn 0 s2.heap ∧ (∀ b ∈ fp, FpOk X pins H' b) ∧ R J H'
noncomputable def PI (X : Cx) (tg iter : Expr) (wi : TI) : Prop :=
  ∀ (pins : List (Addr × Obj)) (s : Shared) (σ : St) (H : Hp) (R : It → Hp → Prop), Inv X pins σ H s → wi σ H R →
    wpAny (model X.prog X.w) X.A (eval iter X.env) (fun v s1 => wpAny (model X.prog X.w) X.A (pyIter v) (PIE X pins σ tg R) X.xe s1) X.xe s

theorem go_of {M : Model} {A : Around} {E : Value → Shared → Prop} {s : Shared} {tg : Expr} {it : Addr} {u : Value} {o : Obj} {n : String} {vs : Array Value} {Q : Unit → Shared → Prop} (ho : s.heap.get? it = some o) (hc : o.cls = .type n) (hd : o.data = .fields vs)
    (hn : ["enumerate", "zip", "dict_itemiterator", "dict_reverseitemiterator", "odict_iterator", "itertools.zip_longest", "itertools.pairwise"].contains n = false) (hQ : Q () s) : wpAny M A (letOwnedTupleGo tg (.ref it) u) Q E s := by
  unfold letOwnedTupleGo
  cases tg <;> first
    | exact wpAny_pure hQ
    | (cases u <;> first
        | exact wpAny_pure hQ
        | (refine wpAny_bind (wpAny_load ho ?_)
           rw [hc, hd]
           show wpAny M A (if (["enumerate", "zip", "dict_itemiterator", "dict_reverseitemiterator", "odict_iterator", "itertools.zip_longest", "itertools.pairwise"].contains n && vs[0]? == some (rawInt _)) = true then _ else _) Q E s
           rw [if_neg (by intro h; rw [hn, Bool.false_and] at h; cases h)]
           exact wpAny_pure hQ))

noncomputable def Itr (lo : Int) (n : Nat) : It := ⟨fun i _ => i < n, fun i H x H' => H' = H ∧ x = .int (lo + i), fun i _ => n ≤ i⟩
theorem turn_range {P : Program} {w : World} {K : PySem.W.Frag} {tg : Expr} (it : Addr) (lo : Int) (n : Nat) : Turn P w K tg (Itr lo n) [it] it (fun i h => IsRangeIter h it (lo + (i : Nat) * 1) ((n : Int) - (i : Nat)) 1) where
  mem := by simp
  obj := fun i h st b hb => by
    have e : b = it := by simpa using hb
    subst e
    exact ⟨_, st, fun v z => by
      have z' : Data.fields _ = Data.cell v := z
      cases z'⟩
  keep := fun i h h' st k => k it (by simp) _ st
  item := by
    intro X hP hw hK hc i pins s σ H E I hf st hg
    subst hP hw hK
    obtain ⟨f0, f1, f2, f3, f4, f5⟩ := hf it (by simp)
    have W := Walks.range (prog := X.prog) (w := X.w) (I.ok.hd hc) it lo 1 n
    refine W.item i s _ _ hg st fun v h' tk hv st' kk => ?_
    obtain ⟨t, rfl⟩ := hv
    have I1 : Inv X pins σ H { s with heap := h', toks := tk } := I.turned (fun b o hb e => kk b o (by simpa using hb) e) f0 f1 f3 f4 f5
    refine ⟨_, rfl, go_of (s := { s with heap := h', toks := tk }) (n := "range_iterator") st' rfl rfl (by decide) ⟨.int (lo + i), H, I1, ⟨t, ?_⟩, ⟨rfl, rfl⟩, st', fun b hb => (hf b hb).1⟩⟩
    rw [Int.mul_one]
  done := by
    intro X hP hw hK hc i pins s σ H E I hf st hg
    subst hP hw hK
    obtain ⟨f0, f1, f2, f3, f4, f5⟩ := hf it (by simp)
    exact wpAny_pyNext_range_end (I.ok.hd hc) st (by have : n ≤ i := hg; omega) fun h' eb => ⟨rfl, I.turned (t' := s.toks) (fun b o hb e => eb b o hb e) f0 f1 f3 f4 f5⟩
  self := fun _ _ _ _ _ st h => wpAny_pyIter_rangeiter st h
end L2

namespace L2
open PySem PySem.Spec PyProof.Rows
section
variable {X : Cx} {tg : Expr}
theorem range_it {pins : List (Addr × Obj)} {σ : St} {H : Hp} {s : Shared} {R : It → Hp → Prop} {E : Value → Shared → Prop} {lo hi : Int} {t u v : Tok} {tk : Nat} (I : Inv X pins σ H s) (h1 : -(2 ^ 62) ≤ lo) (h2 : lo < 2 ^ 62) (h3 : -(2 ^ 62) ≤ hi) (h4 : hi < 2 ^ 62)
    (q : R (Itr lo (hi - lo).toNat) H) : wpAny (model X.prog X.w) X.A (pyIter (.ref s.heap.objs.size)) (PIE X pins σ tg R) E { s with heap := s.heap.push { cls := .type "range", data := .fields #[.int lo t, .int hi u, .int 1 v] }, toks := tk } := by
  refine wpAny_pyIter_range (IsRange.new ..) (small_one h1 h2 h3 h4) ?_
  have I1 : Inv X pins σ H { s with heap := s.heap.push { cls := .type "range", data := .fields #[.int lo t, .int hi u, .int 1 v] }, toks := tk } := I.kept fun b o e => Heap.get?_push_of_some _ e
  refine ⟨(s.heap.push { cls := .type "range", data := .fields #[.int lo t, .int hi u, .int 1 v] }).objs.size, [(s.heap.push { cls := .type "range", data := .fields #[.int lo t, .int hi u, .int 1 v] }).objs.size], _, _, H, rfl,
    I1.kept (t' := tk) fun b o e => Heap.get?_push_of_some _ e, turn_range _ lo (hi - lo).toNat, ?_, fun b hb => ?_, q⟩
  · have e1 : lo + ((0 : Nat) : Int) * 1 = lo := by simp
    have e2 : (((hi - lo).toNat : Nat) : Int) - ((0 : Nat) : Int) = Builtin.Range.rangeSize lo hi 1 := by rw [rangeSize_one]; split <;> omega
    show IsRangeIter _ _ (lo + ((0 : Nat) : Int) * 1) ((((hi - lo).toNat : Nat) : Int) - ((0 : Nat) : Int)) 1
    rw [e1, e2]
    exact Heap.get?_push_size _ rfl
  · have e : b = (s.heap.push { cls := .type "range", data := .fields #[.int lo t, .int hi u, .int 1 v] }).objs.size := by simpa using hb
    subst e
    exact I1.fpOk (Nat.le_refl _) (I1.hok.fresh (Nat.le_refl _))
noncomputable def iRng1 (ta : TA) : TI := fun σ H R => ta σ H fun vs H1 => ∃ j : Int, vs = [.int j] ∧ -(2 ^ 62) ≤ j ∧ j < 2 ^ 62 ∧ R (Itr 0 j.toNat) H1
theorem pi_range1 {a : Expr} {ta : TA} {p pos : Pos} (hg : Gl X "range") (hm : X.mg "range" = none) (ha : PA X [a] ta) (hs : starEach [a] X.env = [(false, eval a X.env)] := by rfl) : PI X tg (.Call (.Name "range" p) [a] [] pos) (iRng1 ta) := by
  intro pins s σ H R I h
  refine Call_ (ld_blt I hg hm boot_range (PyProof.Rows.callWith_type1 (thn (ha pos pins s σ H _ I h) fun us s1 ⟨vs, H1, I1, r1, q1⟩ => ?_) hs rfl))
  obtain ⟨j, e, q1, q2, q⟩ := q1
  subst e
  cases r1 with
  | cons r rr =>
    cases rr
    obtain ⟨t, rfl⟩ := r
    exact call_range_1 (range_it I1 (by omega) (by omega) q1 q2 (by simpa using q))
/-! ### for -/
noncomputable def pinsAt (fp : List Addr) (h : Heap) : List (Addr × Obj) := fp.filterMap fun b => (h.get? b).map fun o => (b, o)
theorem mem_pinsAt {fp : List Addr} {h : Heap} {b : Addr} {o : Obj} (hb : b ∈ fp) (e : h.get? b = some o) : (b, o) ∈ pinsAt fp h := List.mem_filterMap.mpr ⟨b, hb, by rw [e]; rfl⟩
theorem of_pinsAt {fp : List Addr} {h : Heap} {p : Addr × Obj} (hp : p ∈ pinsAt fp h) : p.1 ∈ fp ∧ h.get? p.1 = some p.2 := by
  obtain ⟨b, hb, e⟩ := List.mem_filterMap.mp hp
  cases q : h.get? b with
  | none => rw [q] at e; cases e
  | some o =>
    rw [q] at e
    have e' : (b, o) = p := Option.some.inj e
    subst e'
    exact ⟨hb, q⟩
theorem Inv.pinned {pins : List (Addr × Obj)} {σ : St} {H : Hp} {s : Shared} {fp : List Addr} (I : Inv X pins σ H s) (hf : ∀ b ∈ fp, FpOk X pins H b) (ho : ∀ b ∈ fp, ∃ o, s.heap.get? b = some o ∧ ∀ v, o.data ≠ .cell v) : Inv X (pins ++ pinsAt fp s.heap) σ H s :=
  I.pins_of fun p hp => (List.mem_append.mp hp).elim (fun z => I.pin p (List.mem_append_right _ z)) fun z => by
    obtain ⟨hb, e⟩ := of_pinsAt z
    obtain ⟨f0, f1, f2, _⟩ := hf p.1 hb
    obtain ⟨o, e', d⟩ := ho p.1 hb
    rw [e] at e'; cases e'
    exact ⟨e, f0, f1, f2, d⟩
theorem Inv.unpinned {pins pl : List (Addr × Obj)} {σ : St} {H : Hp} {s : Shared} (I : Inv X (pins ++ pl) σ H s) : Inv X pins σ H s := I.pins_of fun p hp => I.pin p (List.mem_append_right _ (List.mem_append_left _ hp))
end

/-! ### the forms one uses -/
end L2

namespace L2
open PySem PySem.Spec PyProof.Rows

abbrev R2 := V → V → Hp → VK → Prop
noncomputable def OpR (X : Cx) (f : Value → Value → Sem Value) (r : R2) : Prop :=
  ∀ (pins : List (Addr × Obj)) (s : Shared) (σ : St) (H : Hp) (x y : V) (v u : Value) (Q : VK), Inv X pins σ H s → RelV x v → RelV y u → r x y H Q →
    wpAny (model X.prog X.w) X.A (f v u) (EP X pins σ Q) X.xe s
noncomputable def CallR (X : Cx) (f : Value) (r : List V → Hp → VK → Prop) : Prop :=
  ∀ (pins : List (Addr × Obj)) (s : Shared) (σ : St) (H : Hp) (xs : List V) (us : List Value) (Q : VK), Inv X pins σ H s → Vals xs us → r xs H Q →
    wpAny (model X.prog X.w) X.A (call f us) (EP X pins σ Q) X.xe s
noncomputable def TruR (X : Cx) (r : V → Hp → (Bool → Hp → Prop) → Prop) : Prop :=
  ∀ (pins : List (Addr × Obj)) (s : Shared) (σ : St) (H : Hp) (x : V) (v : Value) (Q : Bool → Hp → Prop), Inv X pins σ H s → RelV x v → r x H Q →
    wpAny (model X.prog X.w) X.A (truthy v) (TP X pins σ Q) X.xe s

noncomputable def tOp (r : R2) (ta tb : TE) : TE := fun σ H Q => ta σ H fun x H1 => tb σ H1 fun y H2 => r x y H2 Q
noncomputable def rI (C : Int → Int → Prop) (g : Int → Int → V) : R2 := fun x y H Q => ∃ i j, x = .int i ∧ y = .int j ∧ C i j ∧ Q (g i j) H
noncomputable def rI0 (g : Int → Int → V) : R2 := fun x y H Q => ∃ i j, x = .int i ∧ y = .int j ∧ Q (g i j) H
section
variable {X : Cx} {a b c : Expr} {ta tb tc : TE} {pos : Pos}

theorem binT (ha : PE X a ta) (hb : PE X b tb) {pins : List (Addr × Obj)} {s : Shared} {σ : St} {H : Hp} {R : V → V → Hp → Prop} (I : Inv X pins σ H s)
    (h : ta σ H fun x H1 => tb σ H1 fun y H2 => R x y H2) {Q : Value → Shared → Prop} {f : Value → Value → Sem Value}
    (hf : ∀ v u s2 x y H2, Inv X pins σ H2 s2 → RelV x v → RelV y u → R x y H2 → wpAny (model X.prog X.w) X.A (f v u) Q X.xe s2) :
    wpAny (model X.prog X.w) X.A (eval a X.env) (fun v s₁ => wpAny (model X.prog X.w) X.A (eval b X.env) (fun u s₂ => wpAny (model X.prog X.w) X.A (f v u) Q X.xe s₂) X.xe s₁) X.xe s := by
  refine thn (ha pins s σ H _ I h) fun v s1 ⟨x, H1, I1, r1, q1⟩ => ?_
  refine thn (hb pins s1 σ H1 _ I1 q1) fun u s2 ⟨y, H2, I2, r2, q2⟩ => ?_
  exact hf v u s2 x y H2 I2 r1 r2 q2

theorem pe_op {op : Operator} {r : R2} (ho : OpR X (binaryOp op) r) (ha : PE X a ta) (hb : PE X b tb) : PE X (.BinOp a op b pos) (tOp r ta tb) := by
  intro pins s σ H Q I h
  exact wpAny_BinOp (binT ha hb I h fun v u s2 x y H2 I2 rx ry q => ho pins s2 σ H2 x y v u Q I2 rx ry q)
/-! ### ints -/
theorem opI {f : Value → Value → Sem Value} {C : Int → Int → Prop} {g : Int → Int → Int}
    (rule : ∀ (i j : Int) (t u : Tok) (s : Shared) (Q : Value → Shared → Prop) (E : Value → Shared → Prop), C i j → Q (.int (g i j) s.toks) { s with toks := s.toks + 1 } → wpAny (model X.prog X.w) X.A (f (.int i t) (.int j u)) Q E s) :
    OpR X f (rI C fun i j => .int (g i j)) := by
  intro pins s σ H x y v u Q I rx ry h
  obtain ⟨i, j, rfl, rfl, hc, q⟩ := h
  obtain ⟨t, rfl⟩ := rx
  obtain ⟨t', rfl⟩ := ry
  exact rule i j t t' s _ _ hc ⟨.int (g i j), H, I.tok _, ⟨_, rfl⟩, q⟩
theorem opI0 {f : Value → Value → Sem Value} {g : Int → Int → Int}
    (rule : ∀ (i j : Int) (t u : Tok) (s : Shared) (Q : Value → Shared → Prop) (E : Value → Shared → Prop), Q (.int (g i j) s.toks) { s with toks := s.toks + 1 } → wpAny (model X.prog X.w) X.A (f (.int i t) (.int j u)) Q E s) :
    OpR X f (rI0 fun i j => .int (g i j)) := by
  intro pins s σ H x y v u Q I rx ry h
  obtain ⟨i, j, rfl, rfl, q⟩ := h
  obtain ⟨t, rfl⟩ := rx
  obtain ⟨t', rfl⟩ := ry
  exact rule i j t t' s _ _ ⟨.int (g i j), H, I.tok _, ⟨_, rfl⟩, q⟩
theorem opB0 {f : Value → Value → Sem Value} {g : Int → Int → Bool}
    (rule : ∀ (i j : Int) (t u : Tok) (s : Shared) (Q : Value → Shared → Prop) (E : Value → Shared → Prop), Q (.bool (g i j)) s → wpAny (model X.prog X.w) X.A (f (.int i t) (.int j u)) Q E s) :
    OpR X f (rI0 fun i j => .bl (g i j)) := by
  intro pins s σ H x y v u Q I rx ry h
  obtain ⟨i, j, rfl, rfl, q⟩ := h
  obtain ⟨t, rfl⟩ := rx
  obtain ⟨t', rfl⟩ := ry
  exact rule i j t t' s _ _ ⟨.bl (g i j), H, I, rfl, q⟩

noncomputable def CPow (i j : Int) : Prop := 0 ≤ j ∧ j ≤ 1000000 ∧ i.natAbs < 2 ^ 64
noncomputable def CMul (i j : Int) : Prop := (-(2 ^ 64) < i ∧ i < 2 ^ 64) ∨ (-(2 ^ 64) < j ∧ j < 2 ^ 64)
theorem CMul.ok {i j : Int} (h : CMul i j) : IntMulOk i j := by
  rcases h with ⟨h1, h2⟩ | ⟨h1, h2⟩
  · exact .of_left (intBits_le_64 h1 h2)
  · exact .of_right (intBits_le_64 h1 h2)
theorem op_add : OpR X (binaryOp .Add) (rI0 fun i j => .int (i + j)) := opI0 fun _ _ _ _ _ _ _ q => add_int q
theorem op_mod : OpR X (binaryOp .Mod) (rI (fun _ j => 0 < j) fun i j => .int (i % j)) := opI fun i j _ _ _ _ _ hc q => by
  have h1 : (0 : Int) < j := hc
  exact mod_int' (by omega) (by rw [Int.fmod_eq_emod_of_nonneg i (by omega)]; exact q)
theorem op_pow : OpR X (binaryOp .Pow) (rI CPow fun i j => .int (i ^ j.toNat)) := opI fun _ _ _ _ _ _ _ hc q => pow_int_small hc.1 hc.2.1 hc.2.2 q
/-! ### bools among ints: n += (a < b) -/
end

/-! ### comparisons -/
section
variable {X : Cx} {a b c : Expr} {ta tb tc : TE} {pos : Pos}
theorem op_lt : OpR X (compareOp .Lt) (rI0 fun i j => .bl (decide (i < j))) := opB0 fun _ _ _ _ _ _ _ q => lt_int q
theorem OpR.or {f : Value → Value → Sem Value} {r r' : R2} (h : OpR X f r) (h' : OpR X f r') : OpR X f (fun x y H Q => r x y H Q ∨ r' x y H Q) := by
  intro pins s σ H x y v u Q I rx ry q
  rcases q with q | q
  · exact h pins s σ H x y v u Q I rx ry q
  · exact h' pins s σ H x y v u Q I rx ry q

theorem nomark (b : Expr) {op : CmpOp} (h : op ≠ .In := by decide) (h2 : op ≠ .NotIn := by decide) : behindInMarks op b = false := by
  have e1 : (op == CmpOp.In) = false := by cases op <;> first | rfl | exact absurd rfl h
  have e2 : (op == CmpOp.NotIn) = false := by cases op <;> first | rfl | exact absurd rfl h2
  cases b <;> simp [behindInMarks, e1, e2]
theorem pe_cmpR {op : CmpOp} {r : R2} (ho : OpR X (compareOp op) r) (ha : PE X a ta) (hb : PE X b tb) (hm : behindInMarks op b = false) : PE X (.Compare a [op] [b] pos) (tOp r ta tb) := by
  intro pins s σ H Q I h
  exact wpAny_Compare1 (binT ha hb I h fun v u s2 x y H2 I2 rx ry q => ho pins s2 σ H2 x y v u Q I2 rx ry q) hm
noncomputable def tTest (t : TE) : TT := fun σ H Q => t σ H fun x H' => ∃ k, x = .bl k ∧ Q k H'
theorem pt_cmpR {op : CmpOp} {r : R2} (ho : OpR X (compareOp op) r) (ha : PE X a ta) (hb : PE X b tb) (hm : behindInMarks op b = false) : PT X (.Compare a [op] [b] pos) (tTest (tOp r ta tb)) := by
  intro pins s σ H Q I h
  refine wpAny_isTrue_Compare1 (thn (ha pins s σ H _ I h) fun v s1 ⟨x, H1, I1, r1, q1⟩ => thn (hb pins s1 σ H1 _ I1 q1) fun u s2 ⟨y, H2, I2, r2, q2⟩ =>
    thn (ho pins s2 σ H2 x y v u _ I2 r1 r2 q2) fun c s3 ⟨z, H3, I3, r3, k, e, q3⟩ => ?_) hm
  subst e
  cases r3
  exact wpAny_truthy_bool ⟨H3, I3, q3⟩
/-! ### truth -/
noncomputable def TruV (K : PySem.W.Frag) (x : V) (H : Hp) (k : Bool) : Prop :=
  match x with
  | .non => k = false
  | .bl b => k = b
  | .int i => k = (i != 0)
  | .str y => y.length ≤ sizeLine ∧ k = ((y.length : Int) != 0)
  | .byt y => y.size ≤ sizeLine ∧ k = ((y.size : Int) != 0)
  | .ref p => (∃ xs, SqL K H p xs ∧ k = !xs.isEmpty) ∨ (∃ xs, SqT K H p xs ∧ k = !xs.isEmpty) ∨ ∃ kvs, H p = some (.dK kvs) ∧ k = !kvs.isEmpty
  | _ => False
theorem isEmpty_kv {κ : Type} {kvs : List (κ × V)} {vs : List (κ × Value)} (r : KV kvs vs) : (!vs.isEmpty) = !kvs.isEmpty := by
  cases r <;> rfl
theorem isEmpty_of {xs : List V} {its : List Value} (r : Vals xs its) : (!its.toArray.isEmpty) = !xs.isEmpty := by
  cases r <;> simp
theorem line63 : (sizeLine : Nat) < 2 ^ 63 := by rw [sizeLine_eq]; decide
theorem tru_ok : TruR X (fun x H Q => ∃ k, TruV X.K x H k ∧ Q k H) := by
  intro pins s σ H x v Q I rx h
  obtain ⟨k, e, q⟩ := h
  have hl := line63
  have hs : sizeLine = 16777216 := sizeLine_eq
  cases x with
  | non =>
    cases rx
    have e' : k = false := e
    subst e'
    exact truthy_none ⟨H, I, q⟩
  | bl b =>
    cases rx
    have e' : k = b := e
    subst e'
    exact wpAny_truthy_bool ⟨H, I, q⟩
  | int i =>
    obtain ⟨t, rfl⟩ := rx
    have e' : k = (i != 0) := e
    subst e'
    exact PySem.P.truthy_int ⟨H, I, q⟩
  | str y =>
    obtain ⟨t, rfl⟩ := rx
    obtain ⟨hy, e'⟩ : y.length ≤ sizeLine ∧ k = ((y.length : Int) != 0) := e
    subst e'
    exact PySem.P.truthy_str (by omega) ⟨H, I.tok _, q⟩
  | byt y =>
    obtain ⟨t, rfl⟩ := rx
    obtain ⟨hy, e'⟩ : y.size ≤ sizeLine ∧ k = ((y.size : Int) != 0) := e
    subst e'
    exact PySem.W.truthy_bytes (by omega) ⟨H, I.tok _, q⟩
  | ref p =>
    cases rx
    have e' : (∃ xs, SqL X.K H p xs ∧ k = !xs.isEmpty) ∨ (∃ xs, SqT X.K H p xs ∧ k = !xs.isEmpty) ∨ ∃ kvs, H p = some (.dK kvs) ∧ k = !kvs.isEmpty := e
    rcases e' with ⟨xs, hx, e'⟩ | ⟨xs, hx, e'⟩ | ⟨kvs, hx, e'⟩
    · subst e'
      obtain ⟨its, r, pl, hz⟩ := I.list hx
      have hlen := r.length
      exact wpAny_truthy_list pl.isList (by simp only [List.size_toArray]; omega) ⟨H, I.tok _, by rw [isEmpty_of r]; exact q⟩
    · subst e'
      obtain ⟨its, r, pl, hz⟩ := I.tuple hx
      have hlen := r.length
      exact truthy_tuple pl (by simp only [List.size_toArray]; omega) ⟨H, I.tok _, by rw [isEmpty_of r]; exact q⟩
    · subst e'
      obtain ⟨hz, hS, vs, r, m⟩ : kvs.length ≤ sizeLine ∧ (p == sysModules) = false ∧ ∃ vs, KV kvs vs ∧ s.heap.DictOf (mixKind X.prog X.w) p vs := I.hok p _ hx
      have hlen : kvs.length = vs.length := Paired.length r
      exact wpAny_truthy_dict hS m (by omega) ⟨H, I.tok _, by rw [isEmpty_kv r]; exact q⟩
  | _ => exact (show False from e).elim
theorem pt_truth (ha : PE X a ta) (he : ∀ whole, isTrue a X.env whole = (do let v ← whole; standAt a.pos; holding [v] (truthy v))) :
    PT X a (fun σ H Q => ta σ H fun x H' => ∃ k, TruV X.K x H' k ∧ Q k H') := by
  intro pins s σ H Q I h
  exact isTrue_plain (thn (ha pins s σ H _ I h) fun v s1 ⟨x, H1, I1, r1, q1⟩ => tru_ok pins s1 σ H1 x v Q I1 r1 q1) (he _)

/-! ### strs and bytes -/
theorem op_add_str : OpR X (binaryOp .Add) (fun x y H Q => ∃ i j, x = .str i ∧ y = .str j ∧ i.length + j.length ≤ sizeLine ∧ Q (.str (i ++ j)) H) := by
  intro pins s σ H x y v u Q I rx ry h
  obtain ⟨i, j, rfl, rfl, hz, q⟩ := h
  obtain ⟨t, rfl⟩ := rx
  obtain ⟨t', rfl⟩ := ry
  exact add_str (fun t' tk => ⟨.str (i ++ j), H, I.tok _, ⟨_, rfl⟩, q⟩) hz
/-! ### scalar builtins, by CallR -/
theorem vals1 {x : V} {us : List Value} (r : Vals [x] us) : ∃ u, us = [u] ∧ RelV x u := by
  cases r with
  | cons r1 r2 => cases r2; exact ⟨_, rfl, r1⟩
theorem vals2 {x y : V} {us : List Value} (r : Vals [x, y] us) : ∃ u w', us = [u, w'] ∧ RelV x u ∧ RelV y w' := by
  cases r with
  | cons r1 r2 =>
    cases r2 with
    | cons r3 r4 => cases r4; exact ⟨_, _, rfl, r1, r3⟩
noncomputable def LenV (K : PySem.W.Frag) (x : V) (H : Hp) (n : Nat) : Prop :=
  match x with
  | .str y => y.length ≤ sizeLine ∧ n = y.length
  | .byt y => y.size ≤ sizeLine ∧ n = y.size
  | .ref p => (∃ xs, SqL K H p xs ∧ n = xs.length) ∨ ∃ xs, SqT K H p xs ∧ n = xs.length
  | _ => False
theorem call_len : CallR X (.builtin "len") (fun xs H Q => ∃ x n, xs = [x] ∧ LenV X.K x H n ∧ Q (.int n) H) := by
  intro pins s σ H xs us Q I r h
  obtain ⟨x, n, rfl, e, q⟩ := h
  obtain ⟨u, rfl, rx⟩ := vals1 r
  have hl := line63
  have hs : sizeLine = 16777216 := sizeLine_eq
  cases x with
  | str y =>
    obtain ⟨t, rfl⟩ := rx
    obtain ⟨hy, e'⟩ : y.length ≤ sizeLine ∧ n = y.length := e
    subst e'
    exact len_str (by omega) ⟨.int _, H, I.tok _, ⟨_, rfl⟩, q⟩
  | byt y =>
    obtain ⟨t, rfl⟩ := rx
    obtain ⟨hy, e'⟩ : y.size ≤ sizeLine ∧ n = y.size := e
    subst e'
    exact PySem.W.len_bytes (by omega) ⟨.int _, H, I.tok _, ⟨_, rfl⟩, q⟩
  | ref p =>
    cases rx
    have e' : (∃ xs, SqL X.K H p xs ∧ n = xs.length) ∨ ∃ xs, SqT X.K H p xs ∧ n = xs.length := e
    rcases e' with ⟨xs, hx, e'⟩ | ⟨xs, hx, e'⟩
    · subst e'
      obtain ⟨its, r', pl, hz⟩ := I.list hx
      have hlen := r'.length
      exact Calls.call_len_list pl.isList (by simp only [List.size_toArray]; omega) ⟨.int xs.length, H, I.tok _, ⟨_, by simp only [List.size_toArray]; rw [hlen]⟩, q⟩
    · subst e'
      obtain ⟨its, r', pl, hz⟩ := I.tuple hx
      have hlen := r'.length
      exact len_tuple pl (by simp only [List.size_toArray]; omega) ⟨.int xs.length, H, I.tok _, ⟨_, by simp only [List.size_toArray]; rw [hlen]⟩, q⟩
  | _ => exact (show False from e).elim
end
end L2

namespace L2
open PySem PySem.Spec PyProof.Rows

/-! ### an instance, its attributes a map -/
structure ObjM (h : Heap) (x dx C : Addr) (mA : Str → Option Value) : Prop where
  obj : h.get? x = some (PySem.W.instObj C dx)
  ns : h.Ns1 dx mA
  ne : dx ≠ x

theorem lookIn_ns {h : Heap} {dx : Addr} {mA : Str → Option Value} (n : h.Ns1 dx mA) : ∃ od, h.get? dx = some od ∧ ∀ name, PySem.W.lookIn name od = some (mA name) := by
  obtain ⟨o, es, ep, ho, hd, hk, _, hm⟩ := n
  refine ⟨o, ho, fun name => ?_⟩
  have e := hm name
  unfold nsFind findBy at e
  rw [← Array.find?_toList] at e
  unfold PySem.W.lookIn
  rw [hd]
  dsimp only
  split
  · rename_i y q
    rw [q] at e
    exact congrArg some e
  · rename_i q
    rw [q] at e
    have a : es.toList.any (·.refKey) = false := by
      rw [List.any_eq_false]
      intro y hy
      obtain ⟨z, t, hkey⟩ := hk y (Array.mem_toList_iff.mp hy)
      simp [DictEntry.refKey, hkey]
    have a' : ¬ es.toList.any (·.refKey) = true := by rw [a]; exact Bool.false_ne_true
    rw [if_neg a']
    exact congrArg some e

theorem ObjM.look {h : Heap} {x dx C : Addr} {mA : Str → Option Value} (I : ObjM h x dx C mA) : ∃ od, PySem.W.InstAt h x (PySem.W.instObj C dx) C (some od) ∧ ∀ name, PySem.W.lookIn name od = some (mA name) :=
  let ⟨od, ho, hl⟩ := lookIn_ns I.ns
  ⟨od, ⟨I.obj, rfl, rfl, ho⟩, hl⟩

section
variable {prog : Program} {w : World} {A : Around} {E : Value → Shared → Prop} {s : Shared} {K : PySem.W.Frag} {x dx C f : Addr} {mA : Str → Option Value} {name : Str} {v : Value}

end

/-! ### the attributes as a list of pairs -/
section
variable {P : Program} {w : World} {H H' : Hp} {h h' : Heap} {a C dx : Addr} {fs fs' : List (Str × V)}
end

/-! ### what of the text a class must have -/
structure Cls (K : PySem.W.Frag) (C : Addr) : Prop where
  pg : PySem.W.plainGet K C Str.empty = true
  hd : PySem.W.hasDictIn K C = true
  po : PySem.W.plainOver K C = true
  sa : PySem.W.findIn K (.ref C) "__setattr__" = some (some (.builtin "object.__setattr__"))
theorem Cls.get {K : PySem.W.Frag} {C : Addr} (c : Cls K C) (f : Str) : PySem.W.plainGet K C f = true := c.pg
structure Con (K : PySem.W.Frag) (C : Addr) (f : Str) (v : V) (u : Value) : Prop where
  at_ : PySem.W.findIn K (.ref C) f = some (some u)
  rel : RelV v u
  get : PySem.W.specialIn K u "__get__" = some none
  cp : PySem.W.copiedNames.contains f = false
structure Meth (K : PySem.W.Frag) (C : Addr) (m : Str) (f : Addr) : Prop where
  at_ : PySem.W.findIn K (.ref C) m = some (some (.ref f))
  fn : PySem.W.isFn K (.ref f) = true
  kp : PySem.W.keepIn K (.ref f) = true

section
variable {X : Cx} {pins : List (Addr × Obj)} {σ : St} {H : Hp} {s : Shared} {a C dx : Addr} {fs : List (Str × V)} {f : Str} {v : V} {A : Around} {E : Value → Shared → Prop}

theorem Inv.made (I : Inv X pins σ H s) : Inv X pins σ (upd (upd H s.heap.objs.size (.own (s.heap.objs.size + 1))) (s.heap.objs.size + 1) (.ins C s.heap.objs.size []))
    { s with heap := (s.heap.push PySem.W.emptyDict).push (PySem.W.instObj C s.heap.objs.size) } := by
  have e1 : (s.heap.push PySem.W.emptyDict).get? s.heap.objs.size = some PySem.W.emptyDict := Heap.get?_push_size s.heap rfl
  have e2 : ((s.heap.push PySem.W.emptyDict).push (PySem.W.instObj C s.heap.objs.size)).get? (s.heap.objs.size + 1) = some (PySem.W.instObj C s.heap.objs.size) := by
    have := Heap.get?_push_size (s.heap.push PySem.W.emptyDict) (o := PySem.W.instObj C s.heap.objs.size) rfl
    rwa [Heap.size_push] at this
  have e3 : (s.heap.push PySem.W.emptyDict).Ns s.heap.objs.size (fun _ => none) := ⟨PySem.W.emptyDict, #[], _, e1, rfl, (fun e he => absurd he (by simp)), fun _ => rfl⟩
  have I1 := I.laid (a := s.heap.objs.size) (o := .own (s.heap.objs.size + 1)) (h' := s.heap.push PySem.W.emptyDict) (t' := s.toks) (fun b u q => Heap.get?_push_of_some _ q) (Nat.le_refl _) ⟨_, e1⟩
  refine I1.laid (a := s.heap.objs.size + 1) (o := .ins C s.heap.objs.size []) (t' := s.toks) (fun b u q => Heap.get?_push_of_some _ q) (Nat.le_of_eq (Heap.size_push _ _)) ?_
  have ne : s.heap.objs.size ≠ s.heap.objs.size + 1 := Nat.ne_of_lt (Nat.lt_succ_self _)
  refine ⟨by rw [upd_ne ne, upd_same], Nat.zero_le _, ne, e2, fun _ => none, (Heap.Ns1.of_empty e3).at fun o q => Heap.get?_push_of_some _ q, fun _ => True.intro, fun y hy => absurd rfl hy⟩

theorem attr_of {prog : Program} {w : World} {env : Env} {e : Expr} {f : Str} {pos : Pos} {s : Shared} {Q : Value → Shared → Prop} (hb : attributeBase e f env (eval e env) = eval e env)
    (h : wpAny (model prog w) A (eval e env) (fun o s₁ => wpAny (model prog w) A (getAttr o f true) Q E s₁) E s) : wpAny (model prog w) A (eval (.Attribute e f pos) env) Q E s :=
  Attribute_any_ h (by rw [arm_eval_Attribute, hb])
end

/-! ### readings and rules -/
section
variable {X : Cx} {o e value : Expr} {f : Str} {pos pos' tpos : Pos} {ta tv : TE}
end

/-! ### isinstance -/
section
variable {X : Cx} {pins : List (Addr × Obj)} {σ : St} {H : Hp} {s : Shared} {A : Around} {E : Value → Shared → Prop} {Q : Value → Shared → Prop} {c : Value} {b : Bool}
inductive TyOf (K : PySem.W.Frag) (H : Hp) : V → Value → Prop where
  | non : TyOf K H .non (.type "NoneType")
  | bl (x : Bool) : TyOf K H (.bl x) (.type "bool")
  | int (i : Int) : TyOf K H (.int i) (.type "int")
  | str (x : Str) : TyOf K H (.str x) (.type "str")
  | flt (x : UInt64) : TyOf K H (.flt x) (.type "float")
  | lst {a : Addr} {xs : List V} (e : H a = some (.lst xs)) : TyOf K H (.ref a) (.type "list")
  | frz {a : Addr} {o : Obj} {xs : List V} (e : H a = some (.frz o (.lst xs))) : TyOf K H (.ref a) (.type "list")
  | tup {a : Addr} {xs : List V} (e : H a = some (.tup xs)) : TyOf K H (.ref a) (.type "tuple")
  | dK {a : Addr} {kvs : List (Key × V)} (e : H a = some (.dK kvs)) : TyOf K H (.ref a) (.type "dict")
  | dT {a : Addr} {kvs : List (List Key × V)} (e : H a = some (.dT kvs)) : TyOf K H (.ref a) (.type "dict")
  | ins {a C dx : Addr} {fs : List (Str × V)} (e : H a = some (.ins C dx fs)) (cl : Cls K C) (ha : PySem.W.findIn K (.ref C) "__class__" = some (some (.builtin "object.__class__")))
      (hn : PySem.W.specialIn K (.builtin "object.__class__") "__get__" = some (some (.builtin "getset_descriptor.__get__"))) (htk : PySem.W.takesIn K (.builtin "object.__class__") = some true)
      (hm : PySem.W.mroIn K C (.type "object") = some true) : TyOf K H (.ref a) (.ref C)
end
end L2

namespace L2
open PySem PySem.Spec PyProof.Rows

/-! ### room -/
structure Room (k : Nat) (A : Around) : Prop where
  hd : A.handled = none
  dp : A.depth + 3 * k + 5 < recursionLimit
  un : A.units + 16 * k + 200 < cLine
theorem Room.mono {j k : Nat} {A : Around} (r : Room k A) (h : j ≤ k) : Room j A := ⟨r.hd, by have := r.dp; omega, by have := r.un; omega⟩
theorem Room.deeper {k : Nat} {A : Around} (r : Room (k + 1) A) (env : Env) : Room k (A.deeper env) :=
  ⟨r.hd, by have := r.dp; show A.depth + 1 + 3 * k + 5 < _; omega, by have := r.un; show A.units + 3 + 16 * k + 200 < _; omega⟩
theorem make_depth {A : Around} {C : Addr} {us : List Value} {kw : List (Str × Value)} : (A.under (.builtin "type.__call__" ⟨.ref C :: us, kw⟩)).depth = A.depth + 1 := by
  first | rfl | simp [Around.under, Code.weight, Code.isCreation, Code.isGuard, Code.isCaller, Code.frames, Code.isFrame, guardIds]
theorem make_units {A : Around} {C : Addr} {us : List Value} {kw : List (Str × Value)} : (A.under (.builtin "type.__call__" ⟨.ref C :: us, kw⟩)).units = A.units + 1 := by
  first | rfl | simp [Around.under, Code.cUnits, Code.frames, Code.isFrame]
theorem Room.make {k : Nat} {A : Around} (r : Room (k + 1) A) (C : Addr) (us : List Value) (kw : List (Str × Value)) : Room k (A.under (.builtin "type.__call__" ⟨.ref C :: us, kw⟩)) :=
  ⟨r.hd, by have := r.dp; rw [make_depth]; omega, by have := r.un; rw [make_units]; omega⟩
theorem Room.depth {k : Nat} {A : Around} (r : Room k A) : A.depth < recursionLimit := by have := r.dp; omega
theorem Room.units {k : Nat} {A : Around} (r : Room k A) : A.units + 64 < cLine := by have := r.un; omega
/-! ### argument lists and displays -/
noncomputable def tNil : TA := fun _ H Q => Q [] H
noncomputable def tCons (ta : TE) (tr : TA) : TA := fun σ H Q => ta σ H fun x H1 => tr σ H1 fun xs H2 => Q (x :: xs) H2
section
variable {X : Cx} {e : Expr} {es : List Expr} {te : TE} {t : TA} {pos : Pos}
theorem pa_nil : PA X [] tNil := fun _ _ _ _ H Q I h => Calls.spliced_nil ⟨[], H, I, .nil, h⟩
theorem pa_cons (ha : PE X e te) (hr : PA X es t) (hs : starEach (e :: es) X.env = (false, eval e X.env) :: starEach es X.env := by rfl) : PA X (e :: es) (tCons te t) := by
  intro pos pins s σ H Q I h
  rw [hs]
  show wpAny _ _ (spliced ((false, eval e X.env) :: backTo pos (starEach es X.env))) _ _ s
  refine Calls.spliced_cons (thn (ha pins s σ H _ I h) fun u s1 ⟨x, H1, I1, r1, q1⟩ => ?_)
  exact thn (hr pos pins s1 σ H1 _ I1 q1) fun us s2 ⟨xs, H2, I2, r2, q2⟩ => ⟨x :: xs, H2, I2, .cons r1 r2, q2⟩

noncomputable def tLst (t : TA) : TE := fun σ H Q => t σ H fun xs H1 => xs.length ≤ sizeLine ∧ ∀ p, H1 p = none → Q (.ref p) (upd H1 p (.lst xs))
theorem pe_lst (h : PA X es t) : PE X (.List es pos) (tLst t) := by
  intro pins s σ H Q I hq
  refine wpAny_List_spliced (thn (h pos pins s σ H _ I hq) fun us s1 ⟨xs, H1, I1, r, z, q⟩ => ⟨by rw [← r.length]; exact z, ?_⟩)
  have hf : H1 s1.heap.objs.size = none := I1.hok.fresh (Nat.le_refl _)
  refine ⟨.ref s1.heap.objs.size, upd H1 s1.heap.objs.size (.lst xs), I1.laid (t' := s1.toks) (fun b u e => Heap.get?_push_of_some _ e) (Nat.le_refl _) ?_, rfl, q _ hf⟩
  exact ⟨z, us, 0, r, Heap.get?_push_size _ rfl⟩
end

/-! ### what a def promises -/
abbrev Sp := List V → Hp → VK → XK → Prop
abbrev CXT := List Env → Hp → Shared → XK → Value → Shared → Prop

structure Env0 (P : Program) (w : World) (K : PySem.W.Frag) (mg : Str → Option Value) (base : Heap) (A : Around) (outer : List Env) (s : Shared) (H : Hp) : Prop where
  frames : A.frames = some outer
  mod : Mod K mg base
  bs : ∀ b o, base.get? b = some o → s.heap.get? b = some o ∧ H b = none
  bsz : base.objs.size ≤ s.heap.objs.size
  funs : s.heap.FunFrames base outer
  frf : ∀ b ∈ frs outer, H b = none
  hok : HOk P w H s.heap
  bare : AllBare s.gens
noncomputable def CE (outer : List Env) (P : Program) (w : World) (H : Hp) (s : Shared) (Q : VK) (u : Value) (s' : Shared) : Prop :=
  ∃ v H', s'.os = s.os ∧ AllBare s'.gens ∧ Un (frs outer) [] H H' s.heap s'.heap ∧ HOk P w H' s'.heap ∧ RelV v u ∧ Q v H'
noncomputable def CR (CX : CXT) (outer : List Env) (P : Program) (w : World) (H : Hp) (s : Shared) (Q : VK) (E : XK) (r : Result) (s' : Shared) : Prop :=
  match r with
  | .ok (.ret u) => CE outer P w H s Q u s'
  | .ok _ => False
  | .error e => CX outer H s E e s'
structure FnOk (P : Program) (w : World) (K : PySem.W.Frag) (mg : Str → Option Value) (base : Heap) (CX : CXT) (k : Nat) (f : Addr) (fd : FuncData) (ps : List Str) (sp : Sp) : Prop where
  len : ∀ vs H Q E, sp vs H Q E → vs.length = ps.length
  run : ∀ (A : Around) (outer : List Env) (s : Shared) (H : Hp) (args : Args) (us : List Value) (vs : List V) (Q : VK) (E : XK), Room k A → Env0 P w K mg base A outer s H → BindsTo s fd args (ps.zip us) → Vals vs us → sp vs H Q E →
    codeAny (model P w) A (.call (.ref f) args) (CR CX outer P w H s Q E) s
theorem FnOk.mono {P : Program} {w : World} {K : PySem.W.Frag} {mg : Str → Option Value} {base : Heap} {CX : CXT} {j k : Nat} {f : Addr} {fd : FuncData} {ps : List Str} {sp : Sp} (F : FnOk P w K mg base CX j f fd ps sp) (h : j ≤ k) :
    FnOk P w K mg base CX k f fd ps sp := ⟨F.len, fun A outer s H args us vs Q E hr => F.run A outer s H args us vs Q E (hr.mono h)⟩
theorem FnOk.imp {P : Program} {w : World} {K : PySem.W.Frag} {mg : Str → Option Value} {base : Heap} {CX : CXT} {k : Nat} {f : Addr} {fd : FuncData} {ps : List Str} {sp sp' : Sp} (F : FnOk P w K mg base CX k f fd ps sp)
    (h : ∀ vs H Q E, sp' vs H Q E → sp vs H Q E) : FnOk P w K mg base CX k f fd ps sp' :=
  ⟨fun vs H Q E q => F.len vs H Q E (h _ _ _ _ q), fun A outer s H args us vs Q E hr he hb hv hs => F.run A outer s H args us vs Q E hr he hb hv (h _ _ _ _ hs)⟩

theorem Env0.make {P : Program} {w : World} {K : PySem.W.Frag} {mg : Str → Option Value} {base : Heap} {A : Around} {outer : List Env} {s : Shared} {H : Hp} (e : Env0 P w K mg base A outer s H) (C : Addr) (us : List Value) (kw : List (Str × Value)) :
    Env0 P w K mg base (A.under (.builtin "type.__call__" ⟨.ref C :: us, kw⟩)) outer s H := ⟨by first | exact e.frames | (simpa [Around.under, Code.envs, Code.isFrame, pushEnvs] using e.frames), e.mod, e.bs, e.bsz, e.funs, e.frf, e.hok, e.bare⟩
section
variable {X : Cx} {pins : List (Addr × Obj)} {σ : St} {H : Hp} {s s' : Shared}
theorem Inv.env0 (I : Inv X pins σ H s) : Env0 X.prog X.w X.K X.mg X.base X.A X.stack s H :=
  ⟨I.ok.frames, I.ok.mod, I.bs, Nat.le_trans I.ok.bsz I.sz, I.stack, I.stkFree, I.hok, I.bare⟩
theorem Inv.after {Q : VK} {u : Value} (I : Inv X pins σ H s) (h : CE X.stack X.prog X.w H s Q u s') : EP X pins σ Q u s' := by
  obtain ⟨v, H', os, bare, un, hok, r, q⟩ := h
  obtain ⟨hh, g, d, t, os'⟩ := s'
  obtain rfl : os' = s.os := os
  exact ⟨v, H', I.call (h' := hh) (g' := g) (d' := d) (t' := t) (ch := []) un hok bare (fun b z => absurd z (by simp)), r, q⟩
end

/-! ### calls -/
noncomputable def Binds (K : PySem.W.Frag) (fd : FuncData) (ps : List Str) (ds : List Value) : Prop :=
  ∀ (s : Shared) (us : List Value), K.In s.heap → (us ++ ds).length = ps.length → BindsTo s fd ⟨us, []⟩ (ps.zip (us ++ ds))
theorem Binds.all {K : PySem.W.Frag} {fd : FuncData} {ps : List Str} (h : ∀ us : List Value, us.length = ps.length → bindArgs fd ⟨us, []⟩ = pure (ps.zip us)) : Binds K fd ps [] := fun s us _ hl => by
  rw [List.append_nil] at hl ⊢
  exact .of_eq (h us hl)

noncomputable def Passes (CX : CXT) (X : Cx) (E : XK) : Prop := ∀ (pins : List (Addr × Obj)) (σ : St) (H : Hp) (s : Shared) (e : Value) (s' : Shared), Inv X pins σ H s → CX X.stack H s E e s' → X.xe e s'

section
variable {X : Cx} {CX : CXT} {k : Nat} {f C : Addr} {fd : FuncData} {ps : List Str} {sp : Sp} {dvs : List V} {ds : List Value} {E : XK} {x m : Str} {p pos apos : Pos} {e o : Expr} {es : List Expr} {ta : TE} {t : TA}

structure Mk (K : PySem.W.Frag) (C f : Addr) : Prop where
  makes : PySem.W.makesIn K C = true
  init : PySem.W.findIn K (.ref C) "__init__" = some (some (.ref f))
  fn : PySem.W.isFn K (.ref f) = true
  kp : PySem.W.keepIn K (.ref C) = true

end

/-! ### keywords -/
section
variable {X : Cx} {CX : CXT} {k : Nat} {f C : Addr} {fd : FuncData} {ps ks : List Str} {sp : Sp} {E : XK} {x m : Str} {p pos apos kpos : Pos} {e o : Expr} {es : List Expr} {kws : List Keyword} {te ta : TE} {t tk : TA} {nm : Option Str}
structure KBinds (K : PySem.W.Frag) (fd : FuncData) (ps ks : List Str) (g : List Value → List Value → List Value) (gV : List V → List V → List V) : Prop where
  to : ∀ (s : Shared) (us ws : List Value), K.In s.heap → (g us ws).length = ps.length → BindsTo s fd ⟨us, ks.zip ws⟩ (ps.zip (g us ws))
  rel : ∀ {vs : List V} {us : List Value} {zs : List V} {ws : List Value}, Vals vs us → Vals zs ws → Vals (gV vs zs) (g us ws)
variable {g : List Value → List Value → List Value} {gV : List V → List V → List V}
end

/-! ### a def's body keeps its promise -/
structure FnScope (N P : List Str) (sc : Scope) : Prop where
  kind : sc.kind = .function
  co : sc.isCoroutine = false
  gen : sc.isGenerator = false
  nd : N.Nodup
  pre : N.take P.length = P
  par : ∀ x ∈ P, sc.names.lookup x = some .local ∨ sc.names.lookup x = some .cell
  nofree : ∀ y ∈ sc.names, y.2 ≠ .free

theorem bindL_out {kindOf : Str → Option NameKind} {x : Str} : ∀ {binds : List (Str × Value)} {m : Str → Option Value}, (∀ v, (x, v) ∉ binds) → bindL kindOf binds m x = m x
  | [], _, _ => rfl
  | (n, v) :: r, m, h => by
    unfold bindL
    rw [bindL_out fun w hw => h w (List.mem_cons_of_mem _ hw)]
    split
    · have : x ≠ n := by rintro rfl; exact h v List.mem_cons_self
      simp [this]
    · rfl
theorem bindC_out {kindOf : Str → Option NameKind} {x : Str} : ∀ {binds : List (Str × Value)} {m : Str → Option Value}, (∀ v, (x, v) ∉ binds) → bindC kindOf binds m x = m x
  | [], _, _ => rfl
  | (n, v) :: r, m, h => by
    unfold bindC
    rw [bindC_out fun w hw => h w (List.mem_cons_of_mem _ hw)]
    split
    · rfl
    · have : x ≠ n := by rintro rfl; exact h v List.mem_cons_self
      simp [this]
theorem bindL_get {kindOf : Str → Option NameKind} {x : Str} {v : Value} : ∀ {P : List Str} {vs : List Value} {i : Nat} {m : Str → Option Value}, P.Nodup → P[i]? = some x → vs[i]? = some v → kindOf x = some .local →
    bindL kindOf (P.zip vs) m x = some v
  | [], _, _, _, _, h, _, _ => by simp at h
  | _ :: _, [], _, _, _, _, h, _ => by simp at h
  | p :: P, w :: vs, 0, m, nd, h1, h2, hk => by
    simp at h1 h2; subst h1; subst h2
    show bindL kindOf ((p, w) :: P.zip vs) m p = _
    unfold bindL
    rw [bindL_out fun v hv => (List.nodup_cons.mp nd).1 (List.of_mem_zip hv).1, if_pos hk]
    simp
  | p :: P, w :: vs, i + 1, m, nd, h1, h2, hk => by
    show bindL kindOf ((p, w) :: P.zip vs) m x = _
    unfold bindL
    exact bindL_get (i := i) (List.nodup_cons.mp nd).2 (by simpa using h1) (by simpa using h2) hk
theorem bindC_get {kindOf : Str → Option NameKind} {x : Str} {v : Value} : ∀ {P : List Str} {vs : List Value} {i : Nat} {m : Str → Option Value}, P.Nodup → P[i]? = some x → vs[i]? = some v → kindOf x ≠ some .local →
    bindC kindOf (P.zip vs) m x = some v
  | [], _, _, _, _, h, _, _ => by simp at h
  | _ :: _, [], _, _, _, _, h, _ => by simp at h
  | p :: P, w :: vs, 0, m, nd, h1, h2, hk => by
    simp at h1 h2; subst h1; subst h2
    show bindC kindOf ((p, w) :: P.zip vs) m p = _
    unfold bindC
    rw [bindC_out fun v hv => (List.nodup_cons.mp nd).1 (List.of_mem_zip hv).1, if_neg hk]
    simp
  | p :: P, w :: vs, i + 1, m, nd, h1, h2, hk => by
    show bindC kindOf ((p, w) :: P.zip vs) m x = _
    unfold bindC
    exact bindC_get (i := i) (List.nodup_cons.mp nd).2 (by simpa using h1) (by simpa using h2) hk

noncomputable def start (N : List Str) (vs : List V) : St := vs.map some ++ List.replicate (N.length - vs.length) none

noncomputable def cxOf (CX : CXT) (P : Program) (w : World) (K : PySem.W.Frag) (mg : Str → Option Value) (base : Heap) (N : List Str) (qual : Str) (scope : Scope) (f : Addr) (cd : Value) (A : Around) (outer : List Env) (s : Shared) (H : Hp) (E : XK) : Cx where
  prog := P
  w := w
  K := K
  mg := mg
  base := base
  A := A.deeper (envOfC qual scope s.heap.objs.size f cd)
  N := N
  s₀ := s
  H₀ := H
  env := envOfC qual scope s.heap.objs.size f cd
  outer := outer
  stack := envOfC qual scope s.heap.objs.size f cd :: outer
  ex := []
  calm := true
  fn := fun _ => true
  pn := []
  xe := fun e s' => wpAny (model P w) (A.deeper (envOfC qual scope s.heap.objs.size f cd)) (leaving (envOfC qual scope s.heap.objs.size f cd) e) (fun _ s'' => CX outer H s E e s'') (fun e' s'' => CX outer H s E e' s'') s'

theorem cell_has {sc : Scope} {n : Nat} {x : Str} (h : sc.names.lookup x = some .cell) : ∃ c, (cellsFrom n sc.names []).lookup x = some c := by
  have q := PySem.W.cellsFrom_some sc.names n [] (.inl h)
  exact Option.isSome_iff_exists.mp q

theorem inv_start {CX : CXT} {P : Program} {w : World} {K : PySem.W.Frag} {mg : Str → Option Value} {base : Heap} {N ps : List Str} {qual : Str} {scope : Scope} {f : Addr} {cd : Value} {A : Around} {outer : List Env} {s s1 : Shared} {H : Hp} {E : XK} {us : List Value} {vs : List V}
    (S : FnScope N ps scope) (hd : A.handled = none) (e0 : Env0 P w K mg base A outer s H) (hl : vs.length = ps.length) (r : Vals vs us)
    (x : InCallC s s.heap.objs.size (bindL (envOfC qual scope s.heap.objs.size f cd).kindOf (ps.zip us) fun _ => none) (cellsFrom (s.heap.objs.size + 1) scope.names []) (bindC (envOfC qual scope s.heap.objs.size f cd).kindOf (ps.zip us) fun _ => none) s1) :
    Inv (cxOf CX P w K mg base N qual scope f cd A outer s H E) [] (start N vs) H s1 := by
  have hpl : ps.length ≤ N.length := by have := congrArg List.length S.pre; rw [List.length_take] at this; omega
  obtain ⟨h1, tk, rfl, hk⟩ := x.done
  have noA : ∀ b : Addr, b ∉ (cxOf CX P w K mg base N qual scope f cd A outer s H E).ex := fun b z => absurd (show b ∈ ([] : List Addr) from z) (by simp)
  refine ⟨⟨e0.mod, S.kind, rfl, rfl, Nat.le_refl _, fun y z c h1 h2 => ?_, fun y hy => ?_, fun y c _ h => ?_, fun _ => hd, Around.frames_deeper e0.frames, .inr ⟨rfl, rfl⟩, fun b z => absurd z (noA b), e0.bs, e0.bsz, fun b _ _ => noA b, fun b z => absurd z (noA b), e0.funs, e0.frf⟩,
    rfl, e0.bare, Un.kept hk, ⟨_, x.toInCall.ns, fun i y v h1 h2 h3 => ?_⟩, fun y c h => ⟨_, x.cell y c h⟩, e0.hok.fresh (Nat.le_refl _), fun y c h => ?_, fun p hp => absurd (show p ∈ ([] : List (Addr × Obj)) from hp) (by simp), e0.hok.kept hk, ?_⟩
  · exact name_of_addr x.apart (PySem.mem_of_lookup h1) (PySem.mem_of_lookup h2)
  · have hy : scope.names.lookup y = some .cell ∨ scope.names.lookup y = some .free := hy
    rcases hy with hy | hy
    · exact cell_has hy
    · exact absurd rfl (S.nofree _ (PySem.mem_of_lookup hy))
  · exact Nat.le_of_lt (x.above y c (PySem.mem_of_lookup h))
  · have hi : i < vs.length := by
      unfold start at h2
      by_cases hi : i < vs.length
      · exact hi
      · rw [List.getElem?_append_right (by simpa using hi)] at h2
        rw [List.getElem?_replicate] at h2
        split at h2 <;> cases h2
    have ha : vs[i]? = some v := by
      unfold start at h2
      rw [List.getElem?_append_left (by simpa using hi), List.getElem?_map] at h2
      cases e : vs[i]? with
      | none => rw [e] at h2; cases h2
      | some a => rw [e] at h2; cases h2; rfl
    obtain ⟨u, hu, rv⟩ := r.get ha
    have hp : ps[i]? = some y := by
      rw [← S.pre, List.getElem?_take_of_lt (by omega)]; exact h1
    have ndP : ps.Nodup := by rw [← S.pre]; exact S.nd.sublist (List.take_sublist _ _)
    refine ⟨u, rv, ?_⟩
    rcases S.par y (List.mem_of_getElem? hp) with k | k
    · exact .inl ⟨k, bindL_get ndP hp hu k⟩
    · obtain ⟨c, e⟩ := cell_has (n := s.heap.objs.size + 1) k
      refine .inr ⟨.inl k, c, e, ?_⟩
      have q := x.cell y c e
      rw [bindC_get ndP hp hu (by show scope.names.lookup y ≠ _; rw [k]; decide)] at q
      exact q
  · exact e0.hok.fresh (Nat.le_of_lt (x.above y c (PySem.mem_of_lookup h)))
  · unfold start
    show _ = N.length
    rw [List.length_append, List.length_map, List.length_replicate]
    omega

theorem fn_of {CX : CXT} {P : Program} {w : World} {K : PySem.W.Frag} {mg : Str → Option Value} {base : Heap} {k : Nat} {f : Addr} {name qual : Str} {params : Arguments} {body : List Stmt} {scope : Scope} {dV kV doc pm cdv ct oc : Value} {an od : Option Addr}
    {osl : Array (Option Value)} {N ps : List Str} {sp : Sp} (lk : K.lookup f = some ⟨oc, od, .func (PySem.W.fnOf name qual params body scope dV kV doc pm an cdv ct), osl⟩) (hcd : PySem.W.codeIn K cdv qual = true) (S : FnScope N ps scope)
    (len : ∀ vs H Q E, sp vs H Q E → vs.length = ps.length)
    (hbody : ∀ (A : Around) (outer : List Env) (s : Shared) (H : Hp) (vs : List V) (Q : VK) (E : XK), Room k (A.deeper (envOfC qual scope s.heap.objs.size f cdv)) → sp vs H Q E →
      ∃ t, PSs (cxOf CX P w K mg base N qual scope f cdv A outer s H E) body t ∧ t { nx := fun _ H' => Q .non H', rt := Q } (start N vs) H) :
    FnOk P w K mg base CX (k + 1) f (PySem.W.fnOf name qual params body scope dV kV doc pm an cdv ct) ps sp := by
  refine ⟨len, fun A outer s H args us vs Q E hr e0 hb r hsp => ?_⟩
  have hl := len _ _ _ _ hsp
  have KX : K.In s.heap := e0.mod.kin.keeps fun b o e => (e0.bs b o e).1
  have lim : s.heap.NoLimit := e0.mod.nolimit.keeps fun b o e => (e0.bs b o e).1
  have hkind : ∀ y ∈ ps.zip us, scope.names.lookup y.1 = some .local ∨ (scope.names.lookup y.1 = some .cell ∧ ((cellsFrom (s.heap.objs.size + 1) scope.names []).lookup y.1).isSome = true) := fun ⟨n, v⟩ hy => by
    rcases S.par n (List.of_mem_zip hy).1 with q | q
    · exact .inl q
    · exact .inr ⟨q, PySem.W.cellsFrom_some _ _ _ (.inl q)⟩
  refine codeAny_call_function hr.depth (KX _ _ lk) rfl S.co S.gen rfl (PySem.W.codeRec_of KX hcd) (hb _ _ _ _ ?_)
  refine wpAny_newFunctionEnv_cells S.kind hkind fun env he s1 x => ?_
  subst he
  refine ⟨lim.keeps x.toInCall.keep, codeAny_func ?_⟩
  obtain ⟨t, ht, hq⟩ := hbody A outer s H vs Q E (hr.deeper _) hsp
  have I : Inv (cxOf CX P w K mg base N qual scope f cdv A outer s H E) [] (start N vs) H s1 := inv_start S hr.hd e0 hl r x
  refine wpAny_mono (ht [] s1 (start N vs) H _ I hq) (fun fl s' hs => ?_) fun e s' hs => hs
  have fin : ∀ {σ' : St} {H' : Hp} {v : V} {u : Value}, Inv (cxOf CX P w K mg base N qual scope f cdv A outer s H E) [] σ' H' s' → RelV v u → Q v H' → CE outer P w H s Q u s' :=
    fun {σ' H' v u} J rv q => ⟨v, H', J.os, J.bare, J.base, J.hok, rv, q⟩
  cases fl with
  | ret u =>
    obtain ⟨v, σ', H', J, rv, q⟩ := hs
    exact fin J rv q
  | next =>
    obtain ⟨σ', H', J, q⟩ := hs
    exact fin (v := V.non) (u := Value.none) J rfl q
  | brk =>
    obtain ⟨_, _, _, q⟩ := hs
    exact False.elim q
  | cont =>
    obtain ⟨_, _, _, q⟩ := hs
    exact False.elim q
end L2

namespace L2
open PySem PySem.Spec PyProof.Rows
section
variable {X : Cx} {x : Str} {p pos : Pos} {e : Expr} {es : List Expr} {t : TA} {id T : String} {r : List V → Hp → VK → Prop}

noncomputable def tCB (r : List V → Hp → VK → Prop) (t : TA) : TE := fun σ H Q => t σ H fun vs H1 => r vs H1 Q
theorem pe_callB (hc : CallR X (.builtin id) r) (hg : Gl X x) (hm : X.mg x = none) (hv : bootBuiltins x = some (.builtin id)) (ha : PA X (e :: es) t) (hn : x ≠ "__name__" := by decide) (hdb : (x == ("__debug__" : Str)) = false := by decide)
    (he : starEach (e :: es) X.env = (false, eval e X.env) :: starEach es X.env := by rfl) (hpl : (backTo pos (starEach es X.env)).any (·.1) = false := by rfl) : PE X (.Call (.Name x p) (e :: es) [] pos) (tCB r t) := by
  intro pins s σ H Q I h
  refine wpAny_Call_Name_kw (ld_blt I hg hm hv ?_ hn hdb)
  exact PyProof.Rows.callWith_builtin1 (thn (ha pos pins s σ H _ I h) fun us s1 ⟨vs, H1, I1, r1, q1⟩ => hc pins s1 σ H1 vs us Q I1 r1 q1) he hpl
end
end L2

namespace HT
open PySem PyProof.Rows

section
open PySem.SeqAt
open PySem.AutoSeq1 (wpAny_loadPart')
open PySem.MeetsSeq PySem.MeetsSeq2 PySem.MeetsSeq3

end

section
variable {prog : Program} {w : World} {A : Around} {E : Value → Shared → Prop} {s : Shared}

/-! ### t[a:b], not the whole -/
noncomputable def sIx (n d : Nat) : Option Int → Nat
  | none => d
  | some v => if v < 0 then (v + (n : Int)).toNat else min v.toNat n
theorem sIx_le (n d : Nat) (hd : d ≤ n) (o : Option Int) : sIx n d o ≤ n := by
  cases o with
  | none => exact hd
  | some v =>
    show (if v < 0 then (v + (n : Int)).toNat else min v.toNat n) ≤ n
    by_cases hv : v < 0
    · rw [if_pos hv]; omega
    · rw [if_neg hv]; exact Nat.min_le_right _ _
theorem clip_eq (v : Int) (n d : Nat) : (if v < 0 then max (v + (n : Int)) 0 else min v (n : Int)) = ((sIx n d (some v) : Nat) : Int) := by
  show (if v < 0 then max (v + (n : Int)) 0 else min v (n : Int)) = (((if v < 0 then (v + (n : Int)).toNat else min v.toNat n) : Nat) : Int)
  by_cases hv : v < 0
  · simp only [if_pos hv]; omega
  · simp only [if_neg hv]; omega
theorem adjust_gen (lo hi : Option Int) (n : Nat) : Builtin.Slice.sliceAdjust lo hi 1 (n : Int) = (((sIx n 0 lo : Nat) : Int), ((sIx n n hi : Nat) : Int)) := by
  have h1 : ¬ ((1 : Int) < 0) := by omega
  unfold Builtin.Slice.sliceAdjust
  simp only [h1, if_false]
  refine Prod.ext ?_ ?_
  · cases lo with
    | none => rfl
    | some v => exact clip_eq v n 0
  · cases hi with
    | none => rfl
    | some v => exact clip_eq v n n
theorem places_gen (i j : Nat) : Builtin.Slice.slicePlaces (i : Int) (j : Int) 1 = j - i := by
  unfold Builtin.Slice.slicePlaces
  have h1 : (1 : Int) > 0 := by omega
  simp only [h1, if_true, Int.ediv_one]
  split <;> omega
theorem slicePart_ {v : Value} {o : Option Int} {Q : Option Int → Shared → Prop} (p : IsPart v o) (h : Q o s) : wpAny (model prog w) A (Builtin.Slice.slicePartIndex v) Q E s := by
  cases p with
  | none => exact slicePart_none h
  | int i t => exact slicePart_int h
theorem sliceApplied_gen {sl : Addr} {vl vu : Value} {lo hi : Option Int} {n : Nat} {Q : Int × Int × Nat → Shared → Prop} (hs : s.heap.IsSliceOf sl vl vu .none) (pl : IsPart vl lo) (pu : IsPart vu hi)
    (h : Q (((sIx n 0 lo : Nat) : Int), 1, sIx n n hi - sIx n 0 lo) s) : wpAny (model prog w) A (Builtin.Slice.sliceApplied (.ref sl) (pure (n : Int))) Q E s := by
  obtain ⟨os, hos, hcs, hds⟩ := id hs
  unfold Builtin.Slice.sliceApplied Builtin.Slice.sliceFields
  refine wpAny_bind (wpAny_bind (wpAny_field hos hds (x := vl) rfl (wpAny_bind (wpAny_field hos hds (x := vu) rfl (wpAny_bind (wpAny_field hos hds (x := .none) rfl (wpAny_pure ?_)))))))
  refine wpAny_bind (slicePart_none ?_)
  show wpAny _ _ (if ((1 : Int) == 0) = true then _ else _) _ _ s
  rw [if_neg (by decide)]
  refine wpAny_bind (slicePart_ pl (wpAny_bind (slicePart_ pu (wpAny_bind (wpAny_pure ?_)))))
  show wpAny _ _ (match Builtin.Slice.sliceAdjust lo hi 1 (n : Int) with | (lo, hi) => pure (lo, (1 : Int), Builtin.Slice.slicePlaces lo hi 1)) _ _ s
  rw [adjust_gen lo hi n]
  show wpAny _ _ (pure (((sIx n 0 lo : Nat) : Int), (1 : Int), Builtin.Slice.slicePlaces ((sIx n 0 lo : Nat) : Int) ((sIx n n hi : Nat) : Int) 1)) _ _ s
  rw [places_gen]
  exact wpAny_pure h
theorem pick_gen (xs : Array Value) (i k : Nat) : ((List.range k).filterMap fun (m : Nat) => xs[((i : Int) + (m : Int) * 1).toNat]?).toArray = ((xs.toList.drop i).take k).toArray := by
  have e : (fun (m : Nat) => xs[((i : Int) + (m : Int) * 1).toNat]?) = fun m => xs[i + m]? := by
    funext m
    have : ((i : Int) + (m : Int) * 1).toNat = i + m := by omega
    rw [this]
  rw [e]
  have := pick_run xs i k
  rw [List.filterMap_map] at this
  have e2 : ((fun x => xs[x]?) ∘ fun x => i + x) = fun m => xs[i + m]? := rfl
  rw [e2] at this
  rw [this]

theorem getItem_tuple_cut {t sl : Addr} {items : Array Value} {vl vu : Value} {lo hi : Option Int} {Q : Value → Shared → Prop} (ht : IsTup s.heap t items) (hs : s.heap.IsSliceOf sl vl vu .none) (pl : IsPart vl lo) (pu : IsPart vu hi)
    (hw : ¬ (sIx items.size 0 lo = 0 ∧ sIx items.size items.size hi = items.size))
    (h : Q (.ref s.heap.objs.size) { s with heap := s.heap.push { cls := .type "tuple", data := .seq ((items.toList.drop (sIx items.size 0 lo)).take (sIx items.size items.size hi - sIx items.size 0 lo)).toArray } })
    (hsz : items.size ≤ sizeLine) : wpAny (model prog w) A (getItem (.ref t) (.ref sl)) Q E s := by
  have htake : sizeOk (.seq ((items.toList.drop (sIx items.size 0 lo)).take (sIx items.size items.size hi - sIx items.size 0 lo)).toArray) := by
    show ((items.toList.drop (sIx items.size 0 lo)).take (sIx items.size items.size hi - sIx items.size 0 lo)).toArray.size ≤ sizeLine
    rw [List.size_toArray, List.length_take, List.length_drop, Array.length_toList]
    omega
  have hj : sIx items.size items.size hi ≤ items.size := sIx_le _ _ (Nat.le_refl _) hi
  obtain ⟨os, hos, hcs, hds⟩ := id hs
  have hTs : s.TypeIs (.ref sl) "slice" := ⟨os, hos, hcs⟩
  unfold getItem
  try with_reducible refine wpAny_holding ?_
  first | refine wpAny_bind (wpAny_pure ?_) | skip
  refine wpAny_bind (wpAny_sequenceKey ht.typeIs (by decide) ?_)
  refine wpAny_bind (wpAny_callSpecial?_slot (name := Str.ofString "__getitem__") ht.typeIs PyProof.Rows.slot_tuple_getitem
    (wpAny_call_entry PyProof.Rows.slot_tuple_getitem ht.typeIs entry_tuple_getitem ?_ (args_tuple_getitem _ _)))
  show wpAny _ _ (Builtin.Tuple.tupleItemsOf (.ref t) >>= _) _ _ s
  refine wpAny_bind (tupleItemsOf_ ht ?_)
  refine wpAny_bind (wpAny_typeOf hTs ?_)
  rw [if_pos (by decide)]
  refine wpAny_bind (sliceApplied_gen hs pl pu ?_)
  have hno : ¬ ((((sIx items.size 0 lo : Nat) : Int) == 0 && (1 : Int) == 1 && (sIx items.size items.size hi - sIx items.size 0 lo) == items.size) = true) := by
    intro q
    rw [Bool.and_eq_true, Bool.and_eq_true] at q
    have q1 : ((sIx items.size 0 lo : Nat) : Int) = 0 := eq_of_beq q.1.1
    have q2 : sIx items.size items.size hi - sIx items.size 0 lo = items.size := eq_of_beq q.2
    exact hw ⟨by omega, by omega⟩
  show wpAny _ _ (if (((sIx items.size 0 lo : Nat) : Int) == 0 && (1 : Int) == 1 && (sIx items.size items.size hi - sIx items.size 0 lo) == items.size) = true then _ else _) _ _ s
  rw [if_neg hno, pick_gen]
  first
    | exact wpAny_bind (m := Builtin.Tuple.tupleExact _) (wpAny_newObj_type (wpAny_pure ⟨_, rfl, wpAny_pure h⟩) htake)
    | exact wpAny_bind (m := Builtin.Tuple.tupleExact _) (wpAny_newObj_type (wpAny_bind (wpAny_pure (wpAny_pure ⟨_, rfl, wpAny_pure h⟩))) htake)
    | exact wpAny_bind (wpAny_bind (m := Builtin.Tuple.tupleExact _) (wpAny_newObj_type (wpAny_pure (wpAny_pure ⟨_, rfl, wpAny_pure h⟩)) htake))
    | exact wpAny_bind (wpAny_bind (m := Builtin.Tuple.tupleExact _) (wpAny_newObj_type (wpAny_pure ⟨_, rfl, wpAny_pure h⟩) htake))
end
end HT

namespace L2
open PySem PySem.Spec PyProof.Rows

/-! ### the parts of a slice -/
abbrev TO := St → Hp → (Option Int → Hp → Prop) → Prop
noncomputable def PO (X : Cx) (e : Option Expr) (t : TO) : Prop :=
  ∀ (pins : List (Addr × Obj)) (s : Shared) (σ : St) (H : Hp) (Q : Option Int → Hp → Prop), Inv X pins σ H s → t σ H Q →
    wpAny (model X.prog X.w) X.A (evalPart e X.env) (fun u s' => ∃ o H', Inv X pins σ H' s' ∧ IsPart u o ∧ Q o H') X.xe s
noncomputable def tNoPart : TO := fun _ H Q => Q none H
noncomputable def tPart (t : TE) : TO := fun σ H Q => t σ H fun x H1 => ∃ i, x = .int i ∧ Q (some i) H1

section
variable {X : Cx} {e : Expr} {te : TE} {lo hi : Option Expr} {tl th : TO} {pos p2 : Pos}

theorem po_none : PO X none tNoPart := by
  intro pins s σ H Q I h
  rw [evalPart_none]
  exact wpAny_pure ⟨none, H, I, .none, h⟩
theorem po_some (h : PE X e te) : PO X (some e) (tPart te) := by
  intro pins s σ H Q I hw
  rw [evalPart_some]
  refine thn (h pins s σ H _ I hw) fun u s1 ⟨x, H1, I1, r1, q1⟩ => ?_
  obtain ⟨i, rfl, q⟩ := q1
  obtain ⟨t, rfl⟩ := r1
  exact ⟨some i, H1, I1, .int i t, q⟩

noncomputable def SlR (X : Cx) (r : V → Option Int → Option Int → Hp → VK → Prop) : Prop :=
  ∀ (pins : List (Addr × Obj)) (s : Shared) (σ : St) (H : Hp) (x : V) (v vl vu : Value) (lo hi : Option Int) (sl : Addr) (Q : VK), Inv X pins σ H s → RelV x v → s.heap.IsSliceOf sl vl vu .none → IsPart vl lo → IsPart vu hi → r x lo hi H Q →
    ∃ T id, typeLookup (.type T) "__getitem__" = pure (some (.builtin id)) ∧ s.TypeIs v T ∧ wpAny (model X.prog X.w) X.A (getItem v (.ref sl)) (EP X pins σ Q) X.xe s
theorem SlR.or {r r' : V → Option Int → Option Int → Hp → VK → Prop} (h : SlR X r) (h' : SlR X r') : SlR X (fun x lo hi H Q => r x lo hi H Q ∨ r' x lo hi H Q) := by
  intro pins s σ H x v vl vu lo hi sl Q I rx hs pl pu q
  rcases q with q | q
  · exact h pins s σ H x v vl vu lo hi sl Q I rx hs pl pu q
  · exact h' pins s σ H x v vl vu lo hi sl Q I rx hs pl pu q
noncomputable def tSl (r : V → Option Int → Option Int → Hp → VK → Prop) (te : TE) (tl th : TO) : TE := fun σ H Q => te σ H fun x H1 => tl σ H1 fun l H2 => th σ H2 fun u H3 => r x l u H3 Q
theorem pe_slice {r : V → Option Int → Option Int → Hp → VK → Prop} (hr : SlR X r) (he : PE X e te) (hl : PO X lo tl) (hu : PO X hi th) : PE X (.Subscript e (.Slice lo hi none p2) pos) (tSl r te tl th) := by
  intro pins s σ H Q I h
  refine Subscript_ (thn (he pins s σ H _ I h) fun v s1 ⟨x, H1, I1, r1, q1⟩ => ?_)
  refine wpAny_Slice (thn (hl pins s1 σ H1 _ I1 q1) fun vl s2 ⟨l, H2, I2, pl, q2⟩ => thn (hu pins s2 σ H2 _ I2 q2) fun vu s3 ⟨u, H3, I3, pu, q3⟩ => ?_)
  rw [evalPart_none]
  refine wpAny_pure ?_
  have I4 : Inv X pins σ H3 { s3 with heap := s3.heap.push { cls := .type "slice", data := .fields #[vl, vu, .none] } } := I3.kept (t' := s3.toks) fun b ob q => Heap.get?_push_of_some _ q
  obtain ⟨T, id, hT, ht, hg⟩ := hr pins { s3 with heap := s3.heap.push { cls := .type "slice", data := .fields #[vl, vu, .none] } } σ H3 x v vl vu l u s3.heap.objs.size Q I4 r1 (Heap.IsSliceOf.new ..) pl pu q3
  show wpAny (model X.prog X.w) X.A (subscriptTail e (.Slice lo hi none p2) v (.ref s3.heap.objs.size)) (EP X pins σ Q) X.xe { s3 with heap := s3.heap.push { cls := .type "slice", data := .fields #[vl, vu, .none] } }
  exact tail_any (ops := [.ref s3.heap.objs.size, v]) ht hT hg (by with_unfolding_all rfl)

noncomputable def cutV (xs : List V) (lo hi : Option Int) : List V := (xs.drop (HT.sIx xs.length 0 lo)).take (HT.sIx xs.length xs.length hi - HT.sIx xs.length 0 lo)
theorem cutV_length (xs : List V) (lo hi : Option Int) : (cutV xs lo hi).length ≤ xs.length := by
  unfold cutV
  rw [List.length_take, List.length_drop]
  omega
noncomputable def rSlT (K : PySem.W.Frag) : V → Option Int → Option Int → Hp → VK → Prop := fun x lo hi H Q => ∃ a xs, x = .ref a ∧ SqT K H a xs ∧
  ¬ (HT.sIx xs.length 0 lo = 0 ∧ HT.sIx xs.length xs.length hi = xs.length) ∧ ∀ p, H p = none → Q (.ref p) (upd H p (.tup (cutV xs lo hi)))
theorem sl_tup : SlR X (rSlT X.K) := by
  intro pins s σ H x v vl vu lo hi sl Q I rx hs pl pu h
  obtain ⟨a, xs, rfl, hx, hw, q⟩ := h
  cases rx
  obtain ⟨its, r, ht, hz⟩ := I.tuple hx
  have hlen : its.toArray.size = xs.length := by rw [List.size_toArray]; exact r.length.symm
  refine ⟨"tuple", _, PyProof.Rows.slot_tuple_getitem.lookup, ht.typeIs, ?_⟩
  refine HT.getItem_tuple_cut ht hs pl pu (by rw [hlen]; exact hw) ?_ (by rw [hlen]; exact hz)
  rw [hlen]
  refine ⟨.ref s.heap.objs.size, _, I.laid (t' := s.toks) (o := .tup (cutV xs lo hi)) (fun b ob q => Heap.get?_push_of_some _ q) (Nat.le_refl _) ?_, rfl, q _ (I.hok.fresh (Nat.le_refl _))⟩
  exact ⟨Nat.le_trans (cutV_length xs lo hi) hz, _, (r.drop (HT.sIx xs.length 0 lo)).take (HT.sIx xs.length xs.length hi - HT.sIx xs.length 0 lo), IsTup.new _ _⟩

/-! ### t < u, t + u -/
end
end L2

namespace L2
open PySem PySem.Spec PyProof.Rows

/-! ### places -/
noncomputable def ixN (n : Nat) (i : Int) : Option Nat := if 0 ≤ i then (if i < n then some i.toNat else none) else if -(n : Int) ≤ i then some (i + n).toNat else none
noncomputable def atI {α : Type} (xs : List α) (i : Int) : Option α := (ixN xs.length i).bind fun j => xs[j]?
theorem ixN_seq {n : Nat} {i : Int} {j : Nat} (h : ixN n i = some j) : seqIndex? i n = some j ∧ j < n ∧ -(n : Int) ≤ i ∧ i < n := by
  unfold ixN at h
  by_cases h0 : 0 ≤ i
  · rw [if_pos h0] at h
    by_cases h1 : i < n
    · rw [if_pos h1] at h
      have e : i.toNat = j := Option.some.inj h
      exact ⟨by rw [seqIndex_of h0 h1, e], by omega, by omega, h1⟩
    · rw [if_neg h1] at h; cases h
  · rw [if_neg h0] at h
    by_cases h1 : -(n : Int) ≤ i
    · rw [if_pos h1] at h
      have e : (i + n).toNat = j := Option.some.inj h
      exact ⟨by rw [seqIndex_neg (by omega) h1, e], by omega, h1, by omega⟩
    · rw [if_neg h1] at h; cases h
theorem atI_get {α : Type} {xs : List α} {i : Int} {v : α} (h : atI xs i = some v) : ∃ j, seqIndex? i xs.length = some j ∧ xs[j]? = some v ∧ j < xs.length ∧ -(xs.length : Int) ≤ i ∧ i < xs.length := by
  unfold atI at h
  cases e : ixN xs.length i with
  | none => rw [e] at h; cases h
  | some j =>
    rw [e] at h
    obtain ⟨h1, h2, h3, h4⟩ := ixN_seq e
    exact ⟨j, h1, h, h2, h3, h4⟩
/-! ### what may be subscripted -/
noncomputable def PlainIx (b : Expr) : Prop := ∀ o i, subscripted b false o i = operate [o, i] (getItem o i)
noncomputable def IxR (X : Cx) (r : R2) : Prop :=
  ∀ (value slice : Expr) (pins : List (Addr × Obj)) (s : Shared) (σ : St) (H : Hp) (x y : V) (v u : Value) (Q : VK), Inv X pins σ H s → RelV x v → RelV y u → r x y H Q →
    subscripted slice false v u = operate [v, u] (getItem v u) → wpAny (model X.prog X.w) X.A (subscriptTail value slice v u) (EP X pins σ Q) X.xe s
noncomputable def MtR (X : Cx) (id : String) (r : V → List V → Hp → VK → Prop) : Prop :=
  ∀ (pins : List (Addr × Obj)) (s : Shared) (σ : St) (H : Hp) (x : V) (xs : List V) (v : Value) (us : List Value) (Q : VK), Inv X pins σ H s → RelV x v → Vals xs us → r x xs H Q →
    wpAny (model X.prog X.w) X.A (call (.builtin id) (v :: us)) (EP X pins σ Q) X.xe s
section
variable {X : Cx} {a b : Expr} {ta tb : TE} {pos : Pos}
theorem IxR.or {r r' : R2} (h : IxR X r) (h' : IxR X r') : IxR X (fun x y H Q => r x y H Q ∨ r' x y H Q) := by
  intro value slice pins s σ H x y v u Q I rx ry q hs
  rcases q with q | q
  · exact h value slice pins s σ H x y v u Q I rx ry q hs
  · exact h' value slice pins s σ H x y v u Q I rx ry q hs
theorem MtR.or {id : String} {r r' : V → List V → Hp → VK → Prop} (h : MtR X id r) (h' : MtR X id r') : MtR X id (fun x xs H Q => r x xs H Q ∨ r' x xs H Q) := by
  intro pins s σ H x xs v us Q I rx rs q
  rcases q with q | q
  · exact h pins s σ H x xs v us Q I rx rs q
  · exact h' pins s σ H x xs v us Q I rx rs q
theorem pe_ix {r : R2} (hr : IxR X r) (ha : PE X a ta) (hb : PE X b tb) (hs : PlainIx b) : PE X (.Subscript a b pos) (tOp r ta tb) := by
  intro pins s σ H Q I h
  exact Subscript_ (binT ha hb I h fun v u s2 x y H2 I2 rx ry q => hr a b pins s2 σ H2 x y v u Q I2 rx ry q (hs _ _))

noncomputable def rIxL (K : PySem.W.Frag) : R2 := fun x y H Q => ∃ p xs i v, x = .ref p ∧ y = .int i ∧ SqL K H p xs ∧ atI xs i = some v ∧ Q v H
noncomputable def rIxT (K : PySem.W.Frag) : R2 := fun x y H Q => ∃ p xs i v, x = .ref p ∧ y = .int i ∧ SqT K H p xs ∧ atI xs i = some v ∧ Q v H
noncomputable def rIxS : R2 := fun x y H Q => ∃ z i c, x = .str z ∧ y = .int i ∧ z.length ≤ sizeLine ∧ atI z.cps.toList i = some c ∧ Q (.str ⟨#[c]⟩) H
theorem ix_list : IxR X (rIxL X.K) := by
  intro value slice pins s σ H x y v u Q I rx ry h hs
  obtain ⟨p, xs, i, z, rfl, rfl, hq, he, q⟩ := h
  cases rx
  obtain ⟨t, rfl⟩ := ry
  obtain ⟨its, r, pl, hz⟩ := I.list hq
  obtain ⟨j, h1, h2, h3, h4, h5⟩ := atI_get he
  obtain ⟨w, ew, rw'⟩ := r.get h2
  have hl := r.length
  have hn := line63
  have fin : EP X pins σ Q w s := ⟨z, H, I, rw', q⟩
  by_cases h0 : 0 ≤ i
  · have hj : i.toNat = j := by
      rw [seqIndex_of h0 h5] at h1
      exact Option.some.inj h1
    exact item_listR pl.isList h0 (by omega) (by rw [hj]; simpa using ew) fin hs
  · have hj : (i + (its.toArray.size : Int)).toNat = j := by
      rw [seqIndex_neg (by omega) h4] at h1
      rw [List.size_toArray, ← hl]
      exact Option.some.inj h1
    exact subscriptTail_builtinR (x := w) pl.isList.typeIs slot_list_getitem.lookup
      (wpAny_getItem_list_neg (Q := fun r s' => r = w ∧ EP X pins σ Q r s') pl.isList (by omega) (by rw [List.size_toArray] <;> omega) (by omega) (by rw [hj]; simpa using ew) ⟨rfl, fin⟩) hs
theorem ix_tup : IxR X (rIxT X.K) := by
  intro value slice pins s σ H x y v u Q I rx ry h hs
  obtain ⟨p, xs, i, z, rfl, rfl, hq, he, q⟩ := h
  cases rx
  obtain ⟨t, rfl⟩ := ry
  obtain ⟨its, r, pl, hz⟩ := I.tuple hq
  obtain ⟨j, h1, h2, h3, h4, h5⟩ := atI_get he
  obtain ⟨w, ew, rw'⟩ := r.get h2
  have hl := r.length
  have hn := line63
  have fin : EP X pins σ Q w s := ⟨z, H, I, rw', q⟩
  exact subscriptTail_builtinR (x := w) pl.typeIs slot_tuple_getitem.lookup
    (getItem_tuple (j := j) (Q := fun r s' => r = w ∧ EP X pins σ Q r s') pl (by omega) (by omega) (by rw [List.size_toArray, ← hl]; exact h1) (by simpa using ew) ⟨rfl, fin⟩) hs
theorem ix_str : IxR X rIxS := by
  intro value slice pins s σ H x y v u Q I rx ry h hs
  obtain ⟨z, i, c, rfl, rfl, hz, he, q⟩ := h
  obtain ⟨t, rfl⟩ := rx
  obtain ⟨t', rfl⟩ := ry
  obtain ⟨j, h1, h2, h3, h4, h5⟩ := atI_get he
  have hl : z.cps.toList.length = z.length := by simp [Str.length]
  rw [hl] at h1 h4 h5
  have hn := line63
  exact tail_any (typeIs_str s z t) slot_str_getitem.lookup (getItem_str (c := c) (by
    have e1 : decide (i < -(2 ^ 63 : Int)) = false := decide_eq_false (by omega)
    have e2 : decide (i ≥ 2 ^ 63) = false := decide_eq_false (by omega)
    rw [e1, e2, Bool.or_false]) (by rw [h1]; simpa using h2) ⟨.str ⟨#[c]⟩, H, I.tok _, ⟨_, rfl⟩, q⟩) hs
noncomputable def rIx (K : PySem.W.Frag) : R2 := fun x y H Q => rIxL K x y H Q ∨ rIxT K x y H Q ∨ rIxS x y H Q
theorem ix_seq : IxR X (rIx X.K) := ix_list.or (ix_tup.or ix_str)

/-! ### xs[i] = v, any sign -/
theorem Inv.lst {pins : List (Addr × Obj)} {σ : St} {H : Hp} {s : Shared} {p : Addr} {xs : List V} (I : Inv X pins σ H s) (h : H p = some (.lst xs)) :
    ∃ (its : List Value) (n : Nat), Vals xs its ∧ s.heap.get? p = some { cls := .type "list", data := .seq its.toArray n } ∧ xs.length ≤ sizeLine := by
  obtain ⟨z, its, n, r, e⟩ := I.hok p _ h
  exact ⟨its, n, r, e, z⟩
/-! ### slices -/
theorem slice_bounds (lo hi : Option Int) (n : Nat) : (sliceBounds lo hi none n).1 = ((HT.sIx n 0 lo : Nat) : Int) ∧ (sliceBounds lo hi none n).2.1 = ((HT.sIx n n hi : Nat) : Int) ∧ (sliceBounds lo hi none n).2.2 = 1 := by
  refine ⟨?_, ?_, rfl⟩
  · cases lo with
    | none => simp [sliceBounds, HT.sIx]
    | some i =>
      simp only [sliceBounds, HT.sIx, Option.getD_none, show (1 : Int) > 0 by decide, if_true]
      by_cases h : i < 0
      · simp only [h, if_true] <;> omega
      · simp only [h, if_false] <;> omega
  · cases hi with
    | none => simp [sliceBounds, HT.sIx]
    | some i =>
      simp only [sliceBounds, HT.sIx, Option.getD_none, show (1 : Int) > 0 by decide, if_true]
      by_cases h : i < 0
      · simp only [h, if_true] <;> omega
      · simp only [h, if_false] <;> omega
theorem slicePick_cut (its : List Value) (lo hi : Option Int) : slicePick its.toArray lo hi none = ((its.drop (HT.sIx its.length 0 lo)).take (HT.sIx its.length its.length hi - HT.sIx its.length 0 lo)).toArray := by
  obtain ⟨h1, h2, h3⟩ := slice_bounds lo hi its.toArray.size
  unfold slicePick
  rw [h1, h2, h3]
  simp only [sliceRange_one, pick_run, List.size_toArray] <;> rfl
noncomputable def rSlL (K : PySem.W.Frag) : V → Option Int → Option Int → Hp → VK → Prop := fun x lo hi H Q => ∃ a xs, x = .ref a ∧ SqL K H a xs ∧ ∀ p, H p = none → Q (.ref p) (upd H p (.lst (cutV xs lo hi)))
theorem sl_list : SlR X (rSlL X.K) := by
  intro pins s σ H x v vl vu lo hi sl Q I rx hs pl pu h
  obtain ⟨a, xs, rfl, hx, q⟩ := h
  cases rx
  obtain ⟨its, r, ht, hz⟩ := I.list hx
  have hlen := r.length
  refine ⟨"list", _, slot_list_getitem.lookup, ht.isList.typeIs, ?_⟩
  refine wpAny_getItem_list_slice ht.isList hs pl pu .none (by simp) ?_ (by rw [List.size_toArray] <;> omega)
  rw [slicePick_cut, ← hlen]
  refine ⟨.ref s.heap.objs.size, _, I.laid (t' := s.toks) (o := .lst (cutV xs lo hi)) (fun b ob q => Heap.get?_push_of_some _ q) (Nat.le_refl _) ?_, rfl, q _ (I.hok.fresh (Nat.le_refl _))⟩
  exact ⟨Nat.le_trans (cutV_length xs lo hi) hz, _, 0, (r.drop (HT.sIx xs.length 0 lo)).take (HT.sIx xs.length xs.length hi - HT.sIx xs.length 0 lo), Heap.get?_push_size _ rfl⟩

/-! ### in, not in: flat items -/
/-! ### len, list(x), tuple(x) of any list or tuple that is read -/
theorem CallR.or {f : Value} {r r' : List V → Hp → VK → Prop} (h : CallR X f r) (h' : CallR X f r') : CallR X f (fun xs H Q => r xs H Q ∨ r' xs H Q) := by
  intro pins s σ H xs us Q I rs q
  rcases q with q | q
  · exact h pins s σ H xs us Q I rs q
  · exact h' pins s σ H xs us Q I rs q
/-! ### the call of a builtin's method: o.m(..) -/
variable {o e : Expr} {es : List Expr} {to : TE} {t : TA} {name : Str} {apos cpos : Pos} {T id : String} {r : V → List V → Hp → VK → Prop}
/- xs.append(e), list.index on a module's tuple .. are MtR facts of 06m -/
end
end L2

namespace L2
open PySem PySem.Spec PyProof.Rows

noncomputable def MtM (X : Cx) (id : String) (r : V → List V → Hp → VK → Prop) : Prop :=
  ∀ (pins : List (Addr × Obj)) (s : Shared) (σ : St) (H : Hp) (x : V) (xs : List V) (v : Value) (us : List Value) (Q : VK), Inv X pins σ H s → RelV x v → Vals xs us → r x xs H Q →
    wpAny (model X.prog X.w) X.A (call (.builtin id) (v :: us)) (EP X pins σ Q) X.xe s

/-! ### lists of values -/
theorem Vals.one : ∀ {x : V} {us : List Value}, Vals [x] us → ∃ u, us = [u] ∧ RelV x u
  | _, _, .cons r .nil => ⟨_, rfl, r⟩
theorem Vals.two : ∀ {x y : V} {us : List Value}, Vals [x, y] us → ∃ u v, us = [u, v] ∧ RelV x u ∧ RelV y v
  | _, _, _, .cons r (.cons q .nil) => ⟨_, _, rfl, r, q⟩
theorem Vals.zero : ∀ {us : List Value}, Vals [] us → us = []
  | _, .nil => rfl
theorem Vals.rep {xs : List V} {us : List Value} (h : Vals xs us) : ∀ k : Nat, Vals (List.replicate k xs).flatten (List.replicate k us).flatten
  | 0 => .nil
  | k + 1 => by
    rw [List.replicate_succ, List.replicate_succ, List.flatten_cons, List.flatten_cons]
    exact Vals.append h (Vals.rep h k)
section
variable {X : Cx} {pins : List (Addr × Obj)} {σ : St} {H : Hp} {s : Shared} {l b : Addr} {xs ys zs : List V}

/-! ### the two steps: a tracked list is rewritten, a new list is laid -/
theorem Inv.lset {its its' : List Value} {n : Nat} {f : Array Value → Array Value} {t' : Nat} (I : Inv X pins σ H s) (hH : H l = some (.lst xs))
    (e : s.heap.get? l = some { cls := .type "list", data := .seq its.toArray n }) (hf : f its.toArray = its'.toArray) (hv : Vals ys its') (hz : ys.length ≤ sizeLine) :
    Inv X pins σ (upd H l (.lst ys)) { s with heap := s.heap.update l (Obj.mapSeq f), toks := t' } := by
  have q := PySem.IsL.update e f
  rw [hf] at q
  refine I.write (x := l) (e := l) (by rw [hH]; exact trivial) (.inl rfl) (fun b' u hb hu => (Heap.get?_update_other s.heap (Obj.mapSeq f) (Ne.symm hb)).trans hu) ⟨_, q⟩ ?_
  exact ⟨hz, its', _, hv, q⟩
theorem Inv.lnew {its : List Value} {t' : Nat} (I : Inv X pins σ H s) (hv : Vals ys its) (hz : ys.length ≤ sizeLine) :
    Inv X pins σ (upd H s.heap.objs.size (.lst ys)) { s with heap := s.heap.push { cls := .type "list", data := .seq its.toArray }, toks := t' } :=
  I.laid (fun _ _ q => Heap.get?_push_of_some _ q) (Nat.le_refl _) ⟨hz, its, 0, hv, Heap.get?_push_size _ rfl⟩
theorem Inv.fresh (I : Inv X pins σ H s) : H s.heap.objs.size = none := I.hok.fresh (Nat.le_refl _)
theorem Inv.lstM (I : Inv X pins σ H s) (hH : H l = some (.lst xs)) : xs.length ≤ sizeLine ∧ ∃ (its : List Value) (n : Nat), Vals xs its ∧ xs.length = its.length ∧ s.heap.get? l = some { cls := .type "list", data := .seq its.toArray n } := by
  obtain ⟨z, its, n, r, e⟩ := I.hok l _ hH
  exact ⟨z, its, n, r, r.length, e⟩

end

section
variable {X : Cx}

/-! ### methods -/
noncomputable def rAppend : V → List V → Hp → VK → Prop := fun x vs H Q => ∃ l xs y, x = .ref l ∧ vs = [y] ∧ H l = some (.lst xs) ∧ xs.length < sizeLine ∧ Q .non (upd H l (.lst (xs ++ [y])))
theorem mt_append : MtM X "list.append" rAppend := by
  intro pins s σ H x vs v us Q I rx rv h
  obtain ⟨l, xs, y, rfl, rfl, hH, hz, q⟩ := h
  cases rx
  obtain ⟨u, rfl, ru⟩ := rv.one
  obtain ⟨z, its, n, r, hl, e⟩ := I.lstM hH
  refine call_meets F.slot_list_append ⟨_, e, rfl⟩ F.entry_list_append (F.args_list_append_2 _ _) (PySem.list_append l its.toArray n u (by rw [List.size_toArray]; omega)) ⟨e, ?_⟩
  refine ⟨.non, _, I.lset (its' := its ++ [u]) hH e (by simp) (r.append (.cons ru .nil)) ?_, rfl, q⟩
  rw [List.length_append, List.length_singleton]
  omega

/-! ### list + list, list += list, list * int -/
/-! ### del xs[i] -/
end

/-! ### xs[a:b] = ys -/
section
variable {prog : Program} {w : World} {A : Around} {E : Value → Shared → Prop} {s : Shared}
set_option maxRecDepth 100000 in
end

section
variable {X : Cx}
end
end L2

namespace Att
open PySem PySem.W PySem.Calls PyProof.Rows

/-! ### the script -/
theorem ints_of_wellAll {P : Params} {h : Heap} : ∀ (ns : List Int) (vs : List Value), WellAll P h vs (ns.map WData.int) → IntsAre vs ns := by
  intro ns
  induction ns with
  | nil =>
    intro vs w
    rw [List.map_nil] at w
    cases w
    exact .nil
  | cons n ns ih =>
    intro vs w
    rw [List.map_cons] at w
    cases w with
    | cons a b =>
      cases a
      exact .cons _ _ (ih _ b)

theorem script_of {l : OpenLaw} {n : Nat} (hn : l.most = some n) {P : Params} {h : Heap} {args : List WData} {vals : List Value}
    (hpre : l.row.toRowW.claim.pre args = true) (hwl : WellAll P h vals args) :
    ∃ a vs ns, vals = [Value.ref a] ∧ args = [WData.list (ns.map WData.int)] ∧ h.get? a = some { cls := .type "list", data := .seq vs.toArray } ∧ IntsAre vs ns ∧ ns.length ≤ n := by
  have hsh : WShape.hasAll [] args [.list .int] = true := (pre_splitW hpre).1
  have hc : l.pre.holds [] { args := args } = true := (pre_splitW hpre).2
  obtain ⟨d, r, rfl, h1, h2⟩ := hasAllW_cons hsh
  obtain rfl := hasAllW_nil h2
  obtain ⟨xs, rfl, h3⟩ := hasW_list h1
  obtain ⟨ns, rfl⟩ := items_int h3
  have hlen : ns.length ≤ n := by
    unfold OpenLaw.pre at hc
    have h4 : (WTm.not (.lt (.lit (.int (n : Int))) (.len (.arg 0)))).holds [] { args := [.list (ns.map .int)] } = true := by
      have h4 := (holds_andW hc).1
      rw [hn] at h4
      exact h4
    have h5 := condW_of h4 (w_not (w_lt w_lit (w_len_list (w_arg rfl))))
    rw [List.length_map] at h5
    refine Nat.le_of_not_lt fun q => ?_
    have q' : (n : Int) < ((ns.length : Nat) : Int) := by omega
    first
      | (rw [decide_eq_true q'] at h5; exact absurd h5 (by decide))
      | (simp at h5; omega)
  cases hwl with
  | cons w1 w2 =>
    cases w2
    cases w1 with
    | list ho hall => exact ⟨_, _, ns, rfl, rfl, ho, ints_of_wellAll ns _ hall, hlen⟩

theorem post_true (l : OpenLaw) (args : List WData) : l.row.toRowW.claim.post args (.bool true) args = true :=
  postW_of (r := l.row.toRowW) (X := (true == true))
    (show WShape.has [] (.bool true) .bool = true by first | rfl | decide | simp [WShape.has, WShape.arms, WShape.armsAll])
    (show (WTm.eq .res (.lit (.bool true))).value [] { args := args, res := some (.bool true), after := args } = some (.bool (true == true)) from w_eq_bool (w_res rfl) w_lit) rfl

/-! ### the attachment: holds_open's last premise (the goal 'hc' behind k_head) from a wpAny of the law's body -/
theorem attach_call {l : OpenLaw} {n : Nat} {q : Program} {loose : List Str} {XP : (Str → Option Value) → Heap → Prop} {YP : World → Heap → Prop} {d : DefRec}
    (hn : l.most = some n) (hdf : d.params.defaults = [])
    (call : ∀ (w : World) (s₀ s₁ : Shared) (mg mb : Str → Option Value) (fa : Addr) (o : Obj) (pm cd doc : Value) (a : Addr) (vs : List Value) (ns : List Int),
      Ground q loose [] XP w s₀ mg mb s₁.heap → YP w s₁.heap →
      s₁.heap.get? fa = some o → o.data = .func (docDef d.name d.params d.body d.scope pm cd doc) → s₁.heap.CodeRec cd d.name → mg d.name = some (.ref fa) →
      s₁.heap.get? a = some { cls := .type "list", data := .seq vs.toArray } → IntsAre vs ns → ns.length ≤ n → s₁.gens = #[] →
      codeAny (model l.prog w) callerA (.call (.ref fa) ⟨[.ref a], []⟩) (fun r s' => r = .ok (.ret (.bool true)) ∧ OldK s₁.heap s'.heap ∧ s'.os = s₁.os ∧ AllBare s'.gens) s₁) :
    WalkO q loose XP YP l.row.toRowW d [] (fun f vs => PySem.call f vs) := by
  intro w s₀ s₁ mg mb G Y fa o pm cd doc dV kV ho hd hcd hD hmg hg args vals as hpre hlay hrd hwl hlo
  obtain rfl : dV = .none := Dflts.none hD hdf
  obtain rfl : kV = .none := Dflts.noKw hD
  obtain ⟨a, vs, ns, rfl, rfl, hobj, hints, hlen⟩ := script_of hn hpre hwl
  refine enter_call (codeAny_mono (call w s₀ s₁ mg mb fa o pm cd doc a vs ns G Y ho (fd_plain hd) hcd hmg hobj hints hlen hg) fun r s' hq => ?_)
  obtain ⟨rfl, h2, h3, h4⟩ := hq
  exact ⟨.inl ⟨.bool true, .bool true, [], rfl, fun _ => rfl, .bool true, post_true l _, fun _ => ⟨List.Pairwise.nil, fun _ hm => (nomatch hm)⟩⟩, h2, h3, h4⟩

/-! ### rules over ANY heap (no ledger) from facts about the written part K: the library's own take a ledger (News) for what they write -/
section
variable {prog : Program} {w : World} {A : Around} {E : Value → Shared → Prop} {s : Shared} {K : Frag}

/-! the whole heap as the ledger: makes every rule that writes through a ledger a rule over any heap -/
end
end Att

namespace L2
open PySem PySem.Spec PyProof.Rows

theorem vals_ints : ∀ {vs : List Value} {ns : List Int}, IntsAre vs ns → Vals (ns.map V.int) vs
  | _, _, .nil => .nil
  | _, _, .cons n t h => .cons ⟨t, rfl⟩ (vals_ints h)

noncomputable def Only (H : Hp) : Prop := ∀ b, H b = none ∨ ∃ o xs, H b = some (.frz o (.lst xs))

end L2

namespace L2
open PySem PySem.Spec PyProof.Rows

end L2

/- THE LAST THEOREM (shape; LID, My.* are yours):
   My.Adr: a structure of the addresses that your layer names (classes, functions); My.Txt K t: a structure (Prop) of the equations over K;
   My.txt_mk : {K} {implicit addresses ..} (e1 : nsIn K mainGlobals "law" = some (some (.ref f))) (e2 : K.lookup f = some ⟨oc, od, .func (fnOf "law" "law" params body scope dV kV doc pm an cdv ct), sl⟩) (e3 : codeIn K cdv "law" = true) .. : ∃ t, My.Txt K t

set_option maxRecDepth 100000 in
set_option maxHeartbeats 0 in
theorem PySem.Challenge.cw_LID_holds : PySem.Challenge.rw_LID.Holds := by
  w_on; o_law; k_head; (case hw => w_witness2)
  k_fill
  refine L2.walk_of (l := PySem.Challenge.rw_LID) (n := 63) (k := 40) (x := "script") (CX := fun w => ..) (sp := fun _ => My.sp_law) rfl (by decide) rfl ⟨rfl, by decide, by decide⟩ (fun w h Y => PySem.W.kIn_of Y) ?F ?S ?C
  case F =>
    intro w mg fa h KX G hmg
    have T : ∃ t, My.Txt (L2.KOf KX) t := by
      dsimp only [L2.KOf]                          -- K must stand as «<heap const> w.params» for k_is
      refine' My.txt_mk ?e1 ?e2 ?e3 ..
      (case e1 => PySem.W.k_is)                    -- in the order: a name -> its address -> its object -> its parts
      (case e2 => PySem.W.k_is)
      ..
    obtain ⟨t, T⟩ := T
    have e0 := hmg.symm.trans (PySem.W.mg_of KX G T.law)
    cases e0                                       -- fa is the law's own address
    exact ⟨_, fun s u => .of_eq rfl, fun base kb nb => My.law_fn T kb nb⟩     -- if «.of_eq rfl» comes too early: refine' ⟨_, ?b, fun base kb nb => My.law_fn T kb nb⟩; exact fun s u => .of_eq rfl
  case S => exact fun w H a ns hl hO hS => ..
  case C => exact ..
(the tactic k_is has no namespace: write k_is) -/

/-! SHORT WORDS over the layer: a def of the text, its body, what a loop and a test want. -/
namespace L2
open PySem PySem.Spec PyProof.Rows

/-! ### the text by places -/
noncomputable def defArgs (s : Stmt) : Arguments := match s with
  | .FunctionDef _ a _ _ _ _ _ _ _ _ => a
  | _ => { posonlyargs := [], args := [], vararg := none, kwonlyargs := [], kw_defaults := [], kwarg := none, defaults := [] }
noncomputable def defBody (s : Stmt) : List Stmt := match s with
  | .FunctionDef _ _ b _ _ _ _ _ _ _ => b
  | _ => []
noncomputable def defScope (s : Stmt) : Scope := match s with
  | .FunctionDef _ _ _ _ _ _ sc _ _ _ => sc
  | _ => { kind := .function, names := [], isGenerator := false, isCoroutine := false }

/-! ### no exception leaves a def -/
abbrev CX0 : CXT := fun _ _ _ _ _ _ => False
/-! ### a def (or method) of the text as it stands behind the top -/
structure Fun (K : PySem.W.Frag) (x qual : Str) (st : Stmt) (f : Addr) (fd : FuncData) : Prop where
  ex : ∃ (oc : Value) (od : Option Addr) (kV doc pm : Value) (an : Option Addr) (cdv ct : Value) (osl : Array (Option Value)),
    fd = PySem.W.fnOf x qual (defArgs st) (defBody st) (defScope st) .none kV doc pm an cdv ct ∧ K.lookup f = some ⟨oc, od, .func fd, osl⟩ ∧ PySem.W.codeIn K cdv qual = true
  kp : PySem.W.keepIn K (.ref f) = true
section
variable {P : Program} {w : World} {K : PySem.W.Frag} {mg : Str → Option Value} {base : Heap}
theorem Fun.ok {x qual : Str} {st : Stmt} {f : Addr} {fd : FuncData} {N ps : List Str} {k : Nat} {sp : Sp} (F : Fun K x qual st f fd) (S : FnScope N ps (defScope st)) (len : ∀ vs H Q E, sp vs H Q E → vs.length = ps.length)
    (hbody : ∀ (cdv : Value) (A : Around) (outer : List Env) (s : Shared) (H : Hp) (vs : List V) (Q : VK) (E : XK), Room k (A.deeper (envOfC qual (defScope st) s.heap.objs.size f cdv)) → sp vs H Q E →
      ∃ t, PSs (cxOf CX0 P w K mg base N qual (defScope st) f cdv A outer s H E).nox (defBody st) t ∧ t { nx := fun _ H' => Q .non H', rt := Q } (start N vs) H) : FnOk P w K mg base CX0 (k + 1) f fd ps sp := by
  obtain ⟨oc, od, kV, doc, pm, an, cdv, ct, osl, rfl, lk, hcd⟩ := F.ex
  refine fn_of lk hcd S len fun A outer s H vs Q E hr hsp => ?_
  obtain ⟨t, h, q⟩ := hbody cdv A outer s H vs Q E hr hsp
  exact ⟨t, h.nox, q⟩
theorem Fun.binds {x qual : Str} {st : Stmt} {f : Addr} {fd : FuncData} {ps : List Str} (F : Fun K x qual st f fd)
    (h : ∀ (kV doc pm : Value) (an : Option Addr) (cdv ct : Value) (us : List Value), us.length = ps.length → bindArgs (PySem.W.fnOf x qual (defArgs st) (defBody st) (defScope st) .none kV doc pm an cdv ct) ⟨us, []⟩ = pure (ps.zip us)) : Binds K fd ps [] := by
  obtain ⟨oc, od, kV, doc, pm, an, cdv, ct, osl, rfl, lk, hcd⟩ := F.ex
  exact .all (h kV doc pm an cdv ct)
theorem fun_mk {x qual : Str} {st : Stmt} {f : Addr} {oc : Value} {od an : Option Addr} {osl : Array (Option Value)} {kV doc pm cdv ct : Value} (l : K.lookup f = some ⟨oc, od, .func (PySem.W.fnOf x qual (defArgs st) (defBody st) (defScope st) .none kV doc pm an cdv ct), osl⟩)
    (c : PySem.W.codeIn K cdv qual = true) (k : PySem.W.keepIn K (.ref f) = true) : Fun K x qual st f (PySem.W.fnOf x qual (defArgs st) (defBody st) (defScope st) .none kV doc pm an cdv ct) := ⟨⟨oc, od, kV, doc, pm, an, cdv, ct, osl, rfl, l, c⟩, k⟩
end
/-! ### expressions in short: the name that stands in the i-th slot -/
section
variable {X : Cx}
theorem pv (i : Nat) {x : Str} {pos : Pos} (hN : X.N[i]? = some x := by rfl) (hv : Vis X.env.scope x := by first | exact Or.inl rfl | exact Or.inr (Or.inl rfl) | exact Or.inr (Or.inr rfl)) (hd : (x == ("__debug__" : Str)) = false := by decide)
    (hcd : (x == ("__classdict__" : Str)) = false := by decide) : PE X (.Name x pos) (tVar i) := pe_var hN hv hd hcd
end

/-! ### tests -/
/-! ### heaps -/
noncomputable def Same (H H' : Hp) : Prop := ∀ b o, H b = some o → H' b = some o
theorem Same.refl (H : Hp) : Same H H := fun _ _ h => h
theorem Same.trans {H H1 H2 : Hp} (a : Same H H1) (b : Same H1 H2) : Same H H2 := fun c o h => b c o (a c o h)
theorem Same.free {H H' : Hp} (e : Same H H') {l : Addr} (h : H' l = Option.none) : H l = Option.none := by
  cases q : H l with
  | none => rfl
  | some o =>
    rw [e l o q] at h
    cases h
theorem Same.seq {K : PySem.W.Frag} {H H' : Hp} {a : Addr} {xs : List V} (e : Same H H') (h : SqL K H a xs) : SqL K H' a xs := by
  rcases h with (h | ⟨o, h⟩) | h
  · exact .inl (.inl (e _ _ h))
  · exact .inl (.inr ⟨o, e _ _ h⟩)
  · exact .inr h

end L2


namespace L4
open PySem L2

inductive D where
  | non | bl (b : Bool) | int (i : Int) | str (x : Str) | ty (n : String) | tup (ds : List D) | lst (ds : List D) | dct (ks vs : List D) | exc (c : Str) | emp | exa (c : Str) (i : Int) | exo (c : Str)
noncomputable def isI : D → Bool
  | .int _ => true
  | _ => false
noncomputable def allI (ds : List D) : Bool := !ds.isEmpty && ds.all isI
structure XD where
  c : Str
  fs : List (Str × D)
noncomputable def keyD : Key → D
  | .inl i => .int i
  | .inr x => .str x

noncomputable def LsK (K : PySem.W.Frag) (H : Hp) (a : Addr) (xs : List V) : Prop :=
  Rd H a (.lst xs) ∨ ∃ (its : Array Value) (n : Nat), K.lookup a = some { cls := .type "list", data := .seq its n } ∧ its.size ≤ sizeLine ∧ Vals xs its.toList
theorem LsK.sq {K : PySem.W.Frag} {H : Hp} {a : Addr} {xs : List V} (h : LsK K H a xs) : SqL K H a xs := by
  rcases h with h | ⟨its, n, h1, h2, h3⟩
  · exact .inl h
  · exact .inr ⟨_, its, n, h1, rfl, rfl, rfl, h2, h3⟩
theorem LsK.of {K : PySem.W.Frag} {H : Hp} {a : Addr} {xs : List V} (h : H a = some (.lst xs)) : LsK K H a xs := .inl (.inl h)
noncomputable def DcK (H : Hp) (a : Addr) (ks : List D) (vs : List V) : Prop :=
  ∃ kvs : List (List Key × V), Rd H a (.dT kvs) ∧ ks = kvs.map (fun kv => D.tup (kv.1.map keyD)) ∧ vs = kvs.map (·.2)
noncomputable def DcO (H : Hp) (a : Addr) (ks : List D) (vs : List V) : Prop :=
  ∃ kvs : List (List Key × V), H a = some (.dT kvs) ∧ ks = kvs.map (fun kv => D.tup (kv.1.map keyD)) ∧ vs = kvs.map (·.2)
theorem DcO.k {H : Hp} {a : Addr} {ks : List D} {vs : List V} (h : DcO H a ks vs) : DcK H a ks vs := by
  obtain ⟨kvs, h, e⟩ := h
  exact ⟨kvs, .inl h, e⟩

noncomputable def XObj (a : Addr) (C : Value) (h : Heap) : Prop := ∃ oe vs, h.get? a = some oe ∧ oe.cls = C ∧ oe.data = .fields vs
noncomputable def ExN (K : PySem.W.Frag) (c : Str) (C : Value) : Prop := PySem.W.nsIn K mainGlobals c = some (some C)
noncomputable def XObj0 (a : Addr) (C : Value) (h : Heap) : Prop := ∃ oe vs, h.get? a = some oe ∧ oe.cls = C ∧ oe.data = .fields vs ∧ oe.dict = none
noncomputable def XAObj (a : Addr) (C : Value) (dx : Addr) (h : Heap) : Prop := dx ≠ a ∧ ∃ o, h.get? a = some o ∧ o.cls = C ∧ (∃ vs, o.data = .fields vs) ∧ o.dict = some dx
noncomputable def XADict (dx : Addr) (i : Int) (h : Heap) : Prop := ∃ t, h.Ns1 dx (fun y => if y = "at" then some (.int i t) else none)
noncomputable def EmpObj (a : Addr) (h : Heap) : Prop := (a == sysModules) = false ∧ h.get? a = some { cls := .type "dict", data := .dict #[] }
mutual
inductive Rep (K : PySem.W.Frag) (G : Hp) : V → D → Prop where
  | non : Rep K G .non .non
  | bl (b : Bool) : Rep K G (.bl b) (.bl b)
  | int (i : Int) : Rep K G (.int i) (.int i)
  | str (x : Str) : Rep K G (.str x) (.str x)
  | ty (n : String) : Rep K G (.ty n) (.ty n)
  | tup {a : Addr} {vs : List V} {ds : List D} : SqT K G a vs → (allI ds = true → G a = some (.tup vs)) → RepL K G vs ds → Rep K G (.ref a) (.tup ds)
  | lst {a : Addr} {vs : List V} {ds : List D} : LsK K G a vs → RepL K G vs ds → Rep K G (.ref a) (.lst ds)
  | dct {a : Addr} {vs : List V} {ks ds : List D} : DcK G a ks vs → RepL K G vs ds → Rep K G (.ref a) (.dct ks ds)
  | exc {a : Addr} {C : Value} {c : Str} : ExN K c C → G a = some (.ext (XObj a C)) → Rep K G (.ref a) (.exc c)
  | emp {a : Addr} : G a = some (.ext (EmpObj a)) → Rep K G (.ref a) .emp
  | exa {a dx : Addr} {C : Value} {c : Str} {i : Int} : ExN K c C → G a = some (.ext (XAObj a C dx)) → G dx = some (.ext (XADict dx i)) → Rep K G (.ref a) (.exa c i)
  | exo {a : Addr} {C : Value} {c : Str} : ExN K c C → G a = some (.ext (XObj0 a C)) → Rep K G (.ref a) (.exo c)
inductive RepL (K : PySem.W.Frag) (G : Hp) : List V → List D → Prop where
  | nil : RepL K G [] []
  | cons {v : V} {vs : List V} {d : D} {ds : List D} : Rep K G v d → RepL K G vs ds → RepL K G (v :: vs) (d :: ds)
end

theorem same_rd {H H' : Hp} {a : Addr} {u : HO} (e : Same H H') (h : Rd H a u) : Rd H' a u := by
  rcases h with h | ⟨o, h⟩
  · exact .inl (e _ _ h)
  · exact .inr ⟨o, e _ _ h⟩
theorem same_ls {K : PySem.W.Frag} {H H' : Hp} {a : Addr} {xs : List V} (e : Same H H') (h : LsK K H a xs) : LsK K H' a xs := by
  rcases h with h | h
  · exact .inl (same_rd e h)
  · exact .inr h
theorem same_dc {H H' : Hp} {a : Addr} {ks : List D} {vs : List V} (e : Same H H') (h : DcK H a ks vs) : DcK H' a ks vs := by
  obtain ⟨kvs, h, q⟩ := h
  exact ⟨kvs, same_rd e h, q⟩
theorem same_sqT {K : PySem.W.Frag} {H H' : Hp} {a : Addr} {xs : List V} (e : Same H H') (h : SqT K H a xs) : SqT K H' a xs := by
  rcases h with h | h
  · exact .inl (same_rd e h)
  · exact .inr h

mutual
theorem Rep.mono {K : PySem.W.Frag} {G G' : Hp} (e : Same G G') : ∀ {v : V} {d : D}, Rep K G v d → Rep K G' v d
  | _, _, .non => .non
  | _, _, .bl b => .bl b
  | _, _, .int i => .int i
  | _, _, .str x => .str x
  | _, _, .ty n => .ty n
  | _, _, .tup h x r => .tup (same_sqT e h) (fun z => e _ _ (x z)) (RepL.mono e r)
  | _, _, .lst h r => .lst (same_ls e h) (RepL.mono e r)
  | _, _, .dct h r => .dct (same_dc e h) (RepL.mono e r)
  | _, _, .exc n h => .exc n (e _ _ h)
  | _, _, .emp h => .emp (e _ _ h)
  | _, _, .exa n h1 h2 => .exa n (e _ _ h1) (e _ _ h2)
  | _, _, .exo n h => .exo n (e _ _ h)
theorem RepL.mono {K : PySem.W.Frag} {G G' : Hp} (e : Same G G') : ∀ {vs : List V} {ds : List D}, RepL K G vs ds → RepL K G' vs ds
  | _, _, .nil => .nil
  | _, _, .cons h r => .cons (Rep.mono e h) (RepL.mono e r)
end

theorem RepL.len {K : PySem.W.Frag} {G : Hp} : ∀ {vs : List V} {ds : List D}, RepL K G vs ds → vs.length = ds.length
  | _, _, .nil => rfl
  | _, _, .cons _ r => congrArg (· + 1) (RepL.len r)
theorem RepL.app {K : PySem.W.Frag} {G : Hp} : ∀ {vs ws : List V} {ds es : List D}, RepL K G vs ds → RepL K G ws es → RepL K G (vs ++ ws) (ds ++ es)
  | _, _, _, _, .nil, s => s
  | _, _, _, _, .cons h r, s => .cons h (RepL.app r s)
theorem RepL.at {K : PySem.W.Frag} {G : Hp} : ∀ {vs : List V} {ds : List D} {i : Nat} {d : D}, RepL K G vs ds → ds[i]? = some d → ∃ v, vs[i]? = some v ∧ Rep K G v d
  | _, _, _, _, .nil, e => by simp at e
  | _, _, 0, _, .cons h _, e => by simp at e; subst e; exact ⟨_, rfl, h⟩
  | _, _, i + 1, d, .cons _ r, e => by
    obtain ⟨v, h1, h2⟩ := RepL.at (i := i) (d := d) r (by simpa using e)
    exact ⟨v, by simpa using h1, h2⟩
theorem RepL.take {K : PySem.W.Frag} {G : Hp} : ∀ (n : Nat) {vs : List V} {ds : List D}, RepL K G vs ds → RepL K G (vs.take n) (ds.take n)
  | 0, _, _, _ => .nil
  | _ + 1, _, _, .nil => .nil
  | n + 1, _, _, .cons h r => .cons h (RepL.take n r)
theorem RepL.drop {K : PySem.W.Frag} {G : Hp} : ∀ (n : Nat) {vs : List V} {ds : List D}, RepL K G vs ds → RepL K G (vs.drop n) (ds.drop n)
  | 0, _, _, r => r
  | _ + 1, _, _, .nil => .nil
  | n + 1, _, _, .cons _ r => RepL.drop n r
theorem RepL.set {K : PySem.W.Frag} {G : Hp} {v : V} {d : D} (h : Rep K G v d) : ∀ (n : Nat) {vs : List V} {ds : List D}, RepL K G vs ds → RepL K G (vs.set n v) (ds.set n d)
  | _, _, _, .nil => .nil
  | 0, _, _, .cons _ r => .cons h r
  | n + 1, _, _, .cons q r => .cons q (RepL.set h n r)
theorem RepL.map {K : PySem.W.Frag} {G : Hp} {α : Type} {f : α → V} {g : α → D} (h : ∀ a, Rep K G (f a) (g a)) : ∀ l : List α, RepL K G (l.map f) (l.map g)
  | [] => .nil
  | a :: l => .cons (h a) (RepL.map h l)

inductive Sl where
  | val (d : D) | own (d : D) | lnt (d : D)
noncomputable def Sl.fz : Sl → D
  | .val d => d
  | .own d => d
  | .lnt d => d
abbrev DEnv := List (Option Sl)

noncomputable def OwnAt (K : PySem.W.Frag) (G H : Hp) (p : Addr) : D → Prop
  | .lst ds => ∃ vs, H p = some (.lst vs) ∧ RepL K G vs ds
  | .dct ks ds => ∃ vs, DcO H p ks vs ∧ RepL K G vs ds
  | _ => False
noncomputable def RepS (K : PySem.W.Frag) (G H : Hp) (v : V) : Sl → Prop
  | .val d => Rep K G v d
  | .own d => ∃ p, v = .ref p ∧ G p = none ∧ OwnAt K G H p d
  | .lnt d => ∃ p, v = .ref p ∧ G p = none ∧ OwnAt K G H p d
noncomputable def Sl.isO : Sl → Bool
  | .val _ => false
  | _ => true
theorem RepS.own {K : PySem.W.Frag} {G H : Hp} {v : V} {s : Sl} (h : RepS K G H v s) (o : s.isO = true) : ∃ p, v = .ref p ∧ G p = none ∧ OwnAt K G H p s.fz := by
  cases s with
  | val d => cases o
  | own d => exact h
  | lnt d => exact h
theorem OwnAt.some {K : PySem.W.Frag} {G H : Hp} {p : Addr} {d : D} (h : OwnAt K G H p d) : ∃ o, H p = Option.some o := by
  cases d with
  | lst ds => obtain ⟨vs, h, _⟩ := h; exact ⟨_, h⟩
  | dct ks ds =>
    obtain ⟨vs, ⟨kvs, h, _⟩, _⟩ := h
    exact ⟨_, h⟩
  | _ => exact h.elim
theorem OwnAt.keep {K : PySem.W.Frag} {G H G' H' : Hp} {p : Addr} {d : D} (h : OwnAt K G H p d) (e : H' p = H p) (g : Same G G') : OwnAt K G' H' p d := by
  cases d with
  | lst ds => obtain ⟨vs, h, r⟩ := h; exact ⟨vs, by rw [e]; exact h, RepL.mono g r⟩
  | dct ks ds =>
    obtain ⟨vs, h, r⟩ := h
    obtain ⟨kvs, h, q⟩ := h
    exact ⟨vs, ⟨kvs, by rw [e]; exact h, q⟩, RepL.mono g r⟩
  | _ => exact h.elim
theorem OwnAt.shown {K : PySem.W.Frag} {G H : Hp} {p : Addr} {d : D} (h : OwnAt K G H p d) (hg : G p = Option.none) {o : HO} (ho : H p = Option.some o) : Rep K (upd G p o) (.ref p) d := by
  have hs : Same G (upd G p o) := fun b u q => by rw [upd_ne (ne_of_none q hg)]; exact q
  cases d with
  | lst ds => obtain ⟨vs, h, r⟩ := h; rw [ho] at h; cases h; exact .lst (.of upd_same) (RepL.mono hs r)
  | dct ks ds =>
    obtain ⟨vs, h, r⟩ := h
    refine .dct ?_ (RepL.mono hs r)
    obtain ⟨kvs, h, q⟩ := h
    rw [ho] at h; cases h; exact ⟨kvs, .inl upd_same, q⟩
  | _ => exact h.elim
noncomputable def Ow (σ : St) (δ : DEnv) (p : Addr) : Prop := ∃ (i : Nat) (s : Sl), δ[i]? = some (some s) ∧ s.isO = true ∧ σ[i]? = some (some (V.ref p))

structure EnvOk (K : PySem.W.Frag) (G H : Hp) (σ : St) (δ : DEnv) : Prop where
  len : δ.length = σ.length
  at' : ∀ (i : Nat) (s : Sl), δ[i]? = some (some s) → ∃ v, σ[i]? = some (some v) ∧ RepS K G H v s
  sep : ∀ (i j : Nat) (p : Addr) (s s' : Sl), δ[i]? = some (some s) → δ[j]? = some (some s') → s.isO = true → s'.isO = true → σ[i]? = some (some (.ref p)) → σ[j]? = some (some (.ref p)) → i = j

structure StOk (K : PySem.W.Frag) (M : Nat → Option Addr) (G0 H0 G H : Hp) (σ : St) (δ : DEnv) : Prop where
  gh : Same G H
  env : EnvOk K G H σ δ
  h0 : Same H0 H
  g0 : Same G0 G
  fr : ∀ b, H0 b ≠ none → G0 b = none → G b = none
  own0 : ∀ p, Ow σ δ p → H0 p = none
  mt : ∀ (i : Nat) (d : D), δ[i]? = some (some (.lnt d)) → ∃ p, M i = some p ∧ σ[i]? = some (some (.ref p))

structure Gr (G H : Hp) (σ : St) (δ : DEnv) (G' H' : Hp) (δ' : DEnv) : Prop where
  hs : ∀ b o, H b = some o → ¬ Ow σ δ b → H' b = some o
  hd : ∀ b, H b ≠ none → H' b ≠ none
  gg : Same G G'
  fr : ∀ b, H b ≠ none → G b = none → ¬ Ow σ δ b → G' b = none
  shr : ∀ p, Ow σ δ' p → Ow σ δ p

theorem Gr.refl (G H : Hp) (σ : St) (δ : DEnv) : Gr G H σ δ G H δ := ⟨fun _ _ h _ => h, fun _ h => h, Same.refl _, fun _ _ h _ => h, fun _ h => h⟩
theorem same_ne {H H' : Hp} (e : Same H H') {b : Addr} (h : H b ≠ none) : H' b ≠ none := by
  cases q : H b with
  | none => exact absurd q h
  | some o => rw [e b o q]; simp
theorem Gr.of {G H G' H' : Hp} {σ : St} {δ δ' : DEnv} (hh : Same H H') (gg : Same G G') (fr : ∀ b, H b ≠ none → G b = none → ¬ Ow σ δ b → G' b = none) (shr : ∀ p, Ow σ δ' p → Ow σ δ p) : Gr G H σ δ G' H' δ' :=
  ⟨fun b o h _ => hh b o h, fun _ h => same_ne hh h, gg, fr, shr⟩
theorem Gr.trans {G H G1 H1 G2 H2 : Hp} {σ : St} {δ δ1 δ2 : DEnv} (a : Gr G H σ δ G1 H1 δ1) (b : Gr G1 H1 σ δ1 G2 H2 δ2) : Gr G H σ δ G2 H2 δ2 :=
  ⟨fun c o h n => b.hs c o (a.hs c o h n) fun z => n (a.shr c z), fun c h => b.hd c (a.hd c h), a.gg.trans b.gg, fun c h n o => b.fr c (a.hd c h) (a.fr c h n o) fun z => o (a.shr c z), fun p z => a.shr p (b.shr p z)⟩
theorem Gr.free {G H G' H' : Hp} {σ : St} {δ δ' : DEnv} (g : Gr G H σ δ G' H' δ') {p : Addr} (h : H' p = none) : H p = none := by
  cases q : H p with
  | none => rfl
  | some o => exact absurd h (g.hd p (by rw [q]; simp))
theorem StOk.noOw {K : PySem.W.Frag} {M : Nat → Option Addr} {G0 H0 G H : Hp} {σ : St} {δ : DEnv} (S : StOk K M G0 H0 G H σ δ) {p : Addr} (hp : H p = none) : ¬ Ow σ δ p := fun ⟨i, s, z1, o, z2⟩ => by
  obtain ⟨v, z3, r⟩ := S.env.at' i _ z1
  rw [z2] at z3
  cases z3
  obtain ⟨q, z4, _, z5⟩ := r.own o
  cases z4
  obtain ⟨o', z6⟩ := z5.some
  rw [hp] at z6; cases z6

noncomputable def RepR (K : PySem.W.Frag) (H G' H' : Hp) (v : V) (s : Sl) : Prop := RepS K G' H' v s ∧ (s.isO = true → (∃ d, s = .own d) ∧ ∃ p, v = .ref p ∧ H p = none)

noncomputable def New (X : Cx) (pins : List (Addr × Obj)) (b : Addr) : Prop := (b ∉ X.ex → X.s₀.heap.get? b = none) ∧ ∀ p ∈ X.pn ++ pins, p.1 ≠ b
structure Air (N : Addr → Prop) (H : Hp) (h : Heap) (e : Addr) (C : Value) : Prop where
  n : N e
  f : H e = none
  ex : ∃ oe vs, h.get? e = some oe ∧ oe.cls = C ∧ oe.data = .fields vs ∧ (vs[1]? = some .none ∨ ∃ T oT ts, vs[1]? = some (.ref T) ∧ N T ∧ H T = none ∧ T ≠ e ∧ h.get? T = some oT ∧ oT.data = .fields ts ∧ ts[3]? = some .none)
noncomputable def XRep (X : Cx) (C : Value) (dx : Option Addr) (_ _ : Hp) (x : XD) : Prop := ExN X.K x.c C ∧ x.fs = [] ∧ dx = none
noncomputable def EX (X : Cx) (σ : St) (C : Value) (_ : Option Addr) (H : Hp) : Prop := ∀ pins e s, Inv X pins σ H s → Air (New X pins) H s.heap e C → X.xe (.ref e) s

abbrev Rs (α : Type) := Option (Except XD α × DEnv)
noncomputable def Rs.bind {α β : Type} (r : Rs α) (k : α → DEnv → Rs β) : Rs β := match r with
  | some (.ok a, δ) => k a δ
  | some (.error x, δ) => some (.error x, δ)
  | none => none
theorem Rs.inv {α β : Type} {r : Rs α} {k : α → DEnv → Rs β} {q : Except XD β} {δ' : DEnv} (h : r.bind k = some (q, δ')) : (∃ a δ1, r = some (.ok a, δ1) ∧ k a δ1 = some (q, δ')) ∨ ∃ x, r = some (.error x, δ') ∧ q = .error x := by
  unfold Rs.bind at h
  split at h
  · exact .inl ⟨_, _, rfl, h⟩
  · cases h; exact .inr ⟨_, rfl, rfl⟩
  · cases h
abbrev FE := DEnv → Rs Sl
abbrev FL := DEnv → Rs (List D)
abbrev FT := DEnv → Rs Bool
noncomputable def PostX (X : Cx) (M : Nat → Option Addr) (G0 H0 G H : Hp) (σ : St) (δ δ' : DEnv) (x : XD) : Prop := ∀ C dx G' H', StOk X.K M G0 H0 G' H' σ δ' → Gr G H σ δ G' H' δ' → XRep X C dx G' H' x → EX X σ C dx H'
theorem PostX.after {X : Cx} {M : Nat → Option Addr} {G0 H0 G H G1 H1 : Hp} {σ : St} {δ δ1 δ' : DEnv} {x : XD} (g : Gr G H σ δ G1 H1 δ1) (k : PostX X M G0 H0 G H σ δ δ' x) : PostX X M G0 H0 G1 H1 σ δ1 δ' x := fun C dx G' H' S g' r => k C dx G' H' S (g.trans g') r
noncomputable def PostE (X : Cx) (M : Nat → Option Addr) (G0 H0 G H : Hp) (σ : St) (δ δ' : DEnv) (Q : VK) : Except XD Sl → Prop
  | .ok s => ∀ v G' H', StOk X.K M G0 H0 G' H' σ δ' → Gr G H σ δ G' H' δ' → RepR X.K H G' H' v s → Q v H'
  | .error x => PostX X M G0 H0 G H σ δ δ' x
noncomputable def PostL (X : Cx) (M : Nat → Option Addr) (G0 H0 G H : Hp) (σ : St) (δ δ' : DEnv) (Q : List V → Hp → Prop) : Except XD (List D) → Prop
  | .ok ds => ∀ vs G' H', StOk X.K M G0 H0 G' H' σ δ' → Gr G H σ δ G' H' δ' → RepL X.K G' vs ds → Q vs H'
  | .error x => PostX X M G0 H0 G H σ δ δ' x
noncomputable def PostT {α : Type} (X : Cx) (M : Nat → Option Addr) (G0 H0 G H : Hp) (σ : St) (δ δ' : DEnv) (Q : α → Hp → Prop) : Except XD α → Prop
  | .ok b => ∀ G' H', StOk X.K M G0 H0 G' H' σ δ' → Gr G H σ δ G' H' δ' → Q b H'
  | .error x => PostX X M G0 H0 G H σ δ δ' x
noncomputable def SndE (X : Cx) (t : TE) (f : FE) : Prop := ∀ (M : Nat → Option Addr) (G0 H0 G H : Hp) (σ : St) (δ : DEnv) (r : Except XD Sl) (δ' : DEnv) (Q : VK), StOk X.K M G0 H0 G H σ δ → f δ = some (r, δ') → PostE X M G0 H0 G H σ δ δ' Q r → t σ H Q
noncomputable def SndL (X : Cx) (t : TA) (f : FL) : Prop := ∀ (M : Nat → Option Addr) (G0 H0 G H : Hp) (σ : St) (δ : DEnv) (r : Except XD (List D)) (δ' : DEnv) (Q : List V → Hp → Prop), StOk X.K M G0 H0 G H σ δ → f δ = some (r, δ') → PostL X M G0 H0 G H σ δ δ' Q r → t σ H Q
noncomputable def SndT (X : Cx) (t : TT) (f : FT) : Prop := ∀ (M : Nat → Option Addr) (G0 H0 G H : Hp) (σ : St) (δ : DEnv) (r : Except XD Bool) (δ' : DEnv) (Q : Bool → Hp → Prop), StOk X.K M G0 H0 G H σ δ → f δ = some (r, δ') → PostT X M G0 H0 G H σ δ δ' Q r → t σ H Q
noncomputable def DE (X : Cx) (e : Expr) (f : FE) : Prop := ∃ t, PE X e t ∧ SndE X t f
noncomputable def DA (X : Cx) (es : List Expr) (f : FL) : Prop := ∃ t, PA X es t ∧ SndL X t f
noncomputable def DT (X : Cx) (e : Expr) (f : FT) : Prop := ∃ t, PT X e t ∧ SndT X t f

/-! ### growing the two heaps -/
theorem StOk.new {K : PySem.W.Frag} {M : Nat → Option Addr} {G0 H0 G H : Hp} {σ : St} {δ : DEnv} (S : StOk K M G0 H0 G H σ δ) {p : Addr} {o : HO} (hp : H p = none) : StOk K M G0 H0 G (upd H p o) σ δ ∧ Gr G H σ δ G (upd H p o) δ ∧ G p = none := by
  have hs : Same H (upd H p o) := fun b u q => by rw [upd_ne (ne_of_none q hp)]; exact q
  have hg : G p = none := Same.free S.gh hp
  refine ⟨⟨S.gh.trans hs, ⟨S.env.len, fun i s e => ?_, S.env.sep⟩, S.h0.trans hs, S.g0, S.fr, S.own0, S.mt⟩, Gr.of hs (Same.refl _) (fun _ _ h _ => h) fun _ h => h, hg⟩
  obtain ⟨v, e1, r⟩ := S.env.at' i s e
  refine ⟨v, e1, ?_⟩
  have key : ∀ d, (∃ q, v = .ref q ∧ G q = none ∧ OwnAt K G H q d) → ∃ q, v = .ref q ∧ G q = none ∧ OwnAt K G (upd H p o) q d := fun d ⟨q, e2, e3, rr⟩ => by
    obtain ⟨o', ho⟩ := rr.some
    exact ⟨q, e2, e3, rr.keep (by rw [upd_ne (ne_of_none ho hp)]) (Same.refl _)⟩
  cases s with
  | val d => exact r
  | own d => exact key d r
  | lnt d => exact key d r
theorem StOk.showAt {K : PySem.W.Frag} {M : Nat → Option Addr} {G0 H0 G H : Hp} {σ : St} {δ : DEnv} (S : StOk K M G0 H0 G H σ δ) {p : Addr} {o : HO} (hp : H p = some o) (hg : G p = none) (hn : ¬ Ow σ δ p) (h0 : H0 p = none) :
    StOk K M G0 H0 (upd G p o) H σ δ ∧ Same G (upd G p o) := by
  have hs : Same G (upd G p o) := fun b u q => by rw [upd_ne (ne_of_none q hg)]; exact q
  refine ⟨⟨fun b u q => ?_, ⟨S.env.len, fun i s e => ?_, S.env.sep⟩, S.h0, S.g0.trans hs, fun b h n => ?_, S.own0, S.mt⟩, hs⟩
  · by_cases e : b = p
    · subst e; rw [upd_same] at q; cases q; exact hp
    · rw [upd_ne e] at q; exact S.gh b u q
  · obtain ⟨v, e1, r⟩ := S.env.at' i s e
    refine ⟨v, e1, ?_⟩
    have key : ∀ d, s.isO = true → (∃ q, v = .ref q ∧ G q = none ∧ OwnAt K G H q d) → ∃ q, v = .ref q ∧ (upd G p o) q = none ∧ OwnAt K (upd G p o) H q d := fun d os ⟨q, e2, e3, rr⟩ => by
      subst e2
      have ne : q ≠ p := fun z => hn ⟨i, s, e, os, by rw [← z]; exact e1⟩
      exact ⟨q, rfl, by rw [upd_ne ne]; exact e3, rr.keep rfl hs⟩
    cases s with
    | val d => exact Rep.mono hs r
    | own d => exact key d rfl r
    | lnt d => exact key d rfl r
  · have ne : b ≠ p := fun z => h (by rw [z]; exact h0)
    rw [upd_ne ne]; exact S.fr b h n

theorem SndE.toV {X : Cx} {t : TE} {f : FE} (h : SndE X t f) (M : Nat → Option Addr) (G0 H0 G H : Hp) (σ : St) (δ : DEnv) (s : Sl) (δ' : DEnv) (Q : VK) (S : StOk X.K M G0 H0 G H σ δ) (ef : f δ = some (.ok s, δ'))
    (k : ∀ v G' H', StOk X.K M G0 H0 G' H' σ δ' → Gr G H σ δ G' H' δ' → Rep X.K G' v s.fz → Q v H') : t σ H Q := by
  refine h M G0 H0 G H σ δ (.ok s) δ' Q S ef fun v G' H' S' g r => ?_
  obtain ⟨r, nw⟩ := r
  by_cases os : s.isO = true
  · obtain ⟨_, q, e4, hq⟩ := nw os
    obtain ⟨p, e2, e3, rr⟩ := r.own os
    have epq : p = q := by rw [e2] at e4; cases e4; rfl
    subst epq e2
    have no : ¬ Ow σ δ' p := fun z => S.noOw hq (g.shr _ z)
    obtain ⟨o, ho⟩ := rr.some
    obtain ⟨S2, hs⟩ := S'.showAt ho e3 no (Same.free S.h0 hq)
    refine k (.ref p) _ H' S2 ⟨g.hs, g.hd, g.gg.trans hs, fun b hb n o => ?_, g.shr⟩ (rr.shown e3 ho)
    rw [upd_ne (fun z => hb (by rw [z]; exact hq))]
    exact g.fr b hb n o
  · cases s with
    | val d => exact k v G' H' S' g r
    | own d => exact absurd rfl os
    | lnt d => exact absurd rfl os

/-! ### names and constants -/
theorem ow_drop {σ : St} {δ : DEnv} {i : Nat} {o : Option Sl} (ho : ∀ s, o = some s → s.isO = false) (hi : i < δ.length) {q : Addr} (h : Ow σ (δ.set i o) q) : ∃ j s, j ≠ i ∧ δ[j]? = some (some s) ∧ s.isO = true ∧ σ[j]? = some (some (V.ref q)) := by
  obtain ⟨j, s, z1, os, z2⟩ := h
  by_cases hj : j = i
  · subst hj; rw [List.getElem?_set_self hi] at z1
    cases o with
    | none => cases z1
    | some s' => cases z1; rw [ho s rfl] at os; cases os
  · rw [List.getElem?_set_ne (Ne.symm hj)] at z1
    exact ⟨j, s, hj, z1, os, z2⟩
noncomputable def fVar (i : Nat) : FE := fun δ => match δ[i]? with
  | some (some (.val d)) => some (.ok (.val d), δ)
  | some (some (.own d)) => some (.ok (.val d), δ.set i (some (.val d)))
  | _ => none
theorem StOk.freeze {K : PySem.W.Frag} {M : Nat → Option Addr} {G0 H0 G H : Hp} {σ : St} {δ : DEnv} (S : StOk K M G0 H0 G H σ δ) {i : Nat} {d : D} (hd : δ[i]? = some (some (.own d))) :
    ∃ p o, σ[i]? = some (some (.ref p)) ∧ StOk K M G0 H0 (upd G p o) H σ (δ.set i (some (.val d))) ∧ Gr G H σ δ (upd G p o) H (δ.set i (some (.val d))) ∧ Rep K (upd G p o) (.ref p) d := by
  obtain ⟨v, e1, r⟩ := S.env.at' i _ hd
  obtain ⟨p, rfl, e3, r⟩ := r
  obtain ⟨o, e2⟩ := r.some
  have hs : Same G (upd G p o) := fun b u q => by rw [upd_ne (ne_of_none q e3)]; exact q
  have hi : i < δ.length := (List.getElem?_eq_some_iff.mp hd).1
  have shr : ∀ q, Ow σ (δ.set i (some (.val d))) q → Ow σ δ q ∧ q ≠ p := fun q z => by
    obtain ⟨j, s, hj, z1, os, z2⟩ := ow_drop (fun s e => by cases e; rfl) hi z
    refine ⟨⟨j, s, z1, os, z2⟩, fun z => hj ?_⟩
    subst z
    exact S.env.sep j i q s _ z1 hd os rfl z2 e1
  refine ⟨p, o, e1, ⟨fun b u q => ?_, ⟨by simpa using S.env.len, fun j s ej => ?_, fun j j' q a b z1 z2 oa ob z3 z4 => ?_⟩, S.h0, S.g0.trans hs, fun b hb n => ?_, fun q z => S.own0 q (shr q z).1, fun j d' z => ?_⟩,
    Gr.of (Same.refl _) hs (fun b hb n o' => ?_) fun q z => (shr q z).1, r.shown e3 e2⟩
  · by_cases e : b = p
    · subst e; rw [upd_same] at q; cases q; exact e2
    · rw [upd_ne e] at q; exact S.gh b u q
  · by_cases hj : j = i
    · subst hj; rw [List.getElem?_set_self hi] at ej; cases ej
      exact ⟨.ref p, e1, r.shown e3 e2⟩
    · have ej' := ej
      rw [List.getElem?_set_ne (Ne.symm hj)] at ej
      obtain ⟨v, e4, r'⟩ := S.env.at' j s ej
      refine ⟨v, e4, ?_⟩
      have key : ∀ d, s.isO = true → (∃ q, v = .ref q ∧ G q = none ∧ OwnAt K G H q d) → ∃ q, v = .ref q ∧ (upd G p o) q = none ∧ OwnAt K (upd G p o) H q d := fun d os ⟨q, z2, z3, rr⟩ => by
        subst z2
        have ne : q ≠ p := (shr q ⟨j, s, ej', os, e4⟩).2
        exact ⟨q, rfl, by rw [upd_ne ne]; exact z3, rr.keep rfl hs⟩
      cases s with
      | val d => exact Rep.mono hs r'
      | own d => exact key d rfl r'
      | lnt d => exact key d rfl r'
  · by_cases hj : j = i
    · subst hj; rw [List.getElem?_set_self hi] at z1; cases z1; cases oa
    · by_cases hj' : j' = i
      · subst hj'; rw [List.getElem?_set_self hi] at z2; cases z2; cases ob
      · rw [List.getElem?_set_ne (Ne.symm hj)] at z1
        rw [List.getElem?_set_ne (Ne.symm hj')] at z2
        exact S.env.sep j j' q a b z1 z2 oa ob z3 z4
  · have ne : b ≠ p := fun z => hb (by rw [z]; exact S.own0 p ⟨i, _, hd, rfl, e1⟩)
    rw [upd_ne ne]; exact S.fr b hb n
  · by_cases hj : j = i
    · subst hj; rw [List.getElem?_set_self hi] at z; cases z
    · rw [List.getElem?_set_ne (Ne.symm hj)] at z; exact S.mt j d' z
  · have ne : b ≠ p := fun z => o' (by rw [z]; exact ⟨i, _, hd, rfl, e1⟩)
    rw [upd_ne ne]; exact n
theorem RepR.val {K : PySem.W.Frag} {H G' H' : Hp} {v : V} {d : D} (h : Rep K G' v d) : RepR K H G' H' v (.val d) := ⟨h, fun z => nomatch z⟩
theorem snd_var {X : Cx} (i : Nat) : SndE X (tVar i) (fVar i) := by
  intro M G0 H0 G H σ δ r δ' Q S e k
  unfold fVar at e
  split at e
  · rename_i d' hd
    cases e
    obtain ⟨v, e1, r⟩ := S.env.at' i _ hd
    exact ⟨v, e1, k v G H S (Gr.refl ..) (.val r)⟩
  · rename_i d hd
    cases e
    obtain ⟨p, o, e1, S1, g1, r1⟩ := S.freeze hd
    exact ⟨.ref p, e1, k _ _ _ S1 g1 (.val r1)⟩
  · cases e
theorem de (i : Nat) {X : Cx} {x : Str} {pos : Pos} (hN : X.N[i]? = some x := by rfl) (hv : Vis X.env.scope x := by first | exact Or.inl rfl | exact Or.inr (Or.inl rfl) | exact Or.inr (Or.inr rfl)) (hd : (x == ("__debug__" : Str)) = false := by decide) (hcd : (x == ("__classdict__" : Str)) = false := by decide) : DE X (.Name x pos) (fVar i) := ⟨_, pv i hN hv hd hcd, snd_var i⟩
noncomputable def fC (d : D) : FE := fun δ => some (.ok (.val d), δ)
theorem snd_C {X : Cx} {v : V} {d : D} (h : ∀ G, Rep X.K G v d) : SndE X (tC v) (fC d) := by
  intro M G0 H0 G H σ δ d' δ' Q S e k
  cases e
  exact k v G H S (Gr.refl ..) (.val (h G))
section
variable {X : Cx} {pos : Pos}
theorem de_int {i j} : DE X (.Constant (.int i) j pos) (fC (.int i)) := ⟨_, pe_int, snd_C fun _ => .int i⟩
theorem de_bl {b j} : DE X (.Constant (.bool b) j pos) (fC (.bl b)) := ⟨_, pe_bl, snd_C fun _ => .bl b⟩
theorem de_str {x j} : DE X (.Constant (.str x) j pos) (fC (.str x)) := ⟨_, pe_str, snd_C fun _ => .str x⟩
end
end L4


namespace L4
open PySem L2

/-! ### combinators -/
noncomputable def lift {α : Type} (o : Option α) (δ : DEnv) : Rs α := match o with | some a => some (.ok a, δ) | none => none
theorem lift_inv {α : Type} {o : Option α} {δ δ' : DEnv} {q : Except XD α} (h : lift o δ = some (q, δ')) : ∃ a, o = some a ∧ q = .ok a ∧ δ' = δ := by
  unfold lift at h
  split at h
  · cases h; exact ⟨_, rfl, rfl, rfl⟩
  · cases h
noncomputable def fOp (g : D → D → Option Sl) (f1 f2 : FE) : FE := fun δ => (f1 δ).bind fun p δ => (f2 δ).bind fun q δ => lift (g p.fz q.fz) δ
noncomputable def fUn (g : D → Option Sl) (f1 : FE) : FE := fun δ => (f1 δ).bind fun p δ => lift (g p.fz) δ
noncomputable def fNil : FL := fun δ => some (.ok [], δ)
noncomputable def fCons (f : FE) (r : FL) : FL := fun δ => (f δ).bind fun p δ => (r δ).bind fun q δ => some (.ok (p.fz :: q), δ)
noncomputable def fArgs (g : List D → Option Sl) (r : FL) : FE := fun δ => (r δ).bind fun p δ => lift (g p) δ

noncomputable def SndO (K : PySem.W.Frag) (r : R2) (g : D → D → Option Sl) : Prop := ∀ (M : Nat → Option Addr) (G0 H0 G H : Hp) (σ : St) (δ : DEnv) (x y : V) (d1 d2 : D) (s : Sl) (Q : VK), StOk K M G0 H0 G H σ δ → Rep K G x d1 → Rep K G y d2 → g d1 d2 = some s →
  (∀ v G' H', StOk K M G0 H0 G' H' σ δ → Gr G H σ δ G' H' δ → RepR K H G' H' v s → Q v H') → r x y H Q
noncomputable def SndN (K : PySem.W.Frag) (r : List V → Hp → VK → Prop) (g : List D → Option Sl) : Prop := ∀ (M : Nat → Option Addr) (G0 H0 G H : Hp) (σ : St) (δ : DEnv) (xs : List V) (ds : List D) (s : Sl) (Q : VK), StOk K M G0 H0 G H σ δ → RepL K G xs ds → g ds = some s →
  (∀ v G' H', StOk K M G0 H0 G' H' σ δ → Gr G H σ δ G' H' δ → RepR K H G' H' v s → Q v H') → r xs H Q

theorem RepR.back {K : PySem.W.Frag} {G G1 : Hp} {σ : St} {δ δ1 : DEnv} {H H1 G' H' : Hp} {v : V} {s : Sl} (g : Gr G H σ δ G1 H1 δ1) (r : RepR K H1 G' H' v s) : RepR K H G' H' v s := ⟨r.1, fun o => let ⟨a, p, e1, e2⟩ := r.2 o; ⟨a, p, e1, g.free e2⟩⟩

section
variable {X : Cx} {ta tb : TE} {f1 f2 : FE} {t : TA} {fl : FL}
theorem snd_op {r : R2} {g : D → D → Option Sl} (ho : SndO X.K r g) (ha : SndE X ta f1) (hb : SndE X tb f2) : SndE X (tOp r ta tb) (fOp g f1 f2) := by
  intro M G0 H0 G H σ δ q δ' Q S e k
  rcases Rs.inv e with ⟨s1, δ1, e1, e⟩ | ⟨x, e1, rfl⟩
  · refine ha.toV M G0 H0 G H σ δ s1 δ1 _ S e1 fun x G1 H1 S1 g1 r1 => ?_
    rcases Rs.inv e with ⟨s2, δ2, e2, e⟩ | ⟨x, e2, rfl⟩
    · refine hb.toV M G0 H0 G1 H1 σ δ1 s2 δ2 _ S1 e2 fun y G2 H2 S2 g2 r2 => ?_
      obtain ⟨s3, e3, rfl, rfl⟩ := lift_inv e
      refine ho M G0 H0 G2 H2 σ _ x y _ _ s3 Q S2 (Rep.mono g2.gg r1) r2 e3 fun v G3 H3 S3 g3 r3 => ?_
      exact k v G3 H3 S3 (g1.trans (g2.trans g3)) (r3.back (g1.trans g2))
    · exact hb M G0 H0 G1 H1 σ δ1 _ _ _ S1 e2 (PostX.after g1 k)
  · exact ha M G0 H0 G H σ δ _ _ _ S e1 k
theorem snd_nil : SndL X tNil fNil := by
  intro M G0 H0 G H σ δ q δ' Q S e k
  cases e
  exact k [] G H S (Gr.refl ..) .nil
theorem snd_cons (ha : SndE X ta f1) (hr : SndL X t fl) : SndL X (tCons ta t) (fCons f1 fl) := by
  intro M G0 H0 G H σ δ q δ' Q S e k
  rcases Rs.inv e with ⟨s1, δ1, e1, e⟩ | ⟨x, e1, rfl⟩
  · refine ha.toV M G0 H0 G H σ δ s1 δ1 _ S e1 fun x G1 H1 S1 g1 r1 => ?_
    rcases Rs.inv e with ⟨s2, δ2, e2, e⟩ | ⟨x, e2, rfl⟩
    · cases e
      refine hr M G0 H0 G1 H1 σ δ1 (.ok s2) _ _ S1 e2 fun vs G2 H2 S2 g2 r2 => ?_
      exact k _ G2 H2 S2 (g1.trans g2) (.cons (Rep.mono g2.gg r1) r2)
    · exact hr M G0 H0 G1 H1 σ δ1 _ _ _ S1 e2 (PostX.after g1 k)
  · exact ha M G0 H0 G H σ δ _ _ _ S e1 k
theorem snd_cb {r : List V → Hp → VK → Prop} {g : List D → Option Sl} (ho : SndN X.K r g) (ha : SndL X t fl) : SndE X (tCB r t) (fArgs g fl) := by
  intro M G0 H0 G H σ δ q δ' Q S e k
  rcases Rs.inv e with ⟨s1, δ1, e1, e⟩ | ⟨x, e1, rfl⟩
  · refine ha M G0 H0 G H σ δ (.ok s1) δ1 _ S e1 fun x G1 H1 S1 g1 r1 => ?_
    obtain ⟨s3, e3, rfl, rfl⟩ := lift_inv e
    refine ho M G0 H0 G1 H1 σ _ x _ s3 Q S1 r1 e3 fun v G3 H3 S3 g3 r3 => ?_
    exact k v G3 H3 S3 (g1.trans g3) (r3.back g1)
  · exact ha M G0 H0 G H σ δ _ _ _ S e1 k

/-! ### displays -/
noncomputable def gTupD (ds : List D) : Option Sl := if ds.length ≤ sizeLine then some (.val (.tup ds)) else none
noncomputable def gLstD (ds : List D) : Option Sl := if ds.length ≤ sizeLine then some (.own (.lst ds)) else none
theorem StOk.newTup {K : PySem.W.Frag} {M : Nat → Option Addr} {G0 H0 G H : Hp} {σ : St} {δ : DEnv} (S : StOk K M G0 H0 G H σ δ) {p : Addr} {vs : List V} {ds : List D} (hp : H p = none) (r : RepL K G vs ds) :
    StOk K M G0 H0 (upd G p (.tup vs)) (upd H p (.tup vs)) σ δ ∧ Gr G H σ δ (upd G p (.tup vs)) (upd H p (.tup vs)) δ ∧ RepR K H (upd G p (.tup vs)) (upd H p (.tup vs)) (.ref p) (.val (.tup ds)) := by
  obtain ⟨S1, g1, hg⟩ := S.new (o := .tup vs) hp
  obtain ⟨S2, hs⟩ := S1.showAt upd_same hg (S.noOw hp) (Same.free S.h0 hp)
  refine ⟨S2, ⟨g1.hs, g1.hd, hs, fun b hb n o => ?_, fun _ z => z⟩, .val (.tup (SqT.of upd_same) (fun _ => upd_same) (RepL.mono hs r))⟩
  rw [upd_ne (fun z => hb (by rw [z]; exact hp))]
  exact n
theorem StOk.newOwn {K : PySem.W.Frag} {M : Nat → Option Addr} {G0 H0 G H : Hp} {σ : St} {δ : DEnv} (S : StOk K M G0 H0 G H σ δ) {p : Addr} {o : HO} {d : D} (hp : H p = none) (r : OwnAt K G (upd H p o) p d) :
    StOk K M G0 H0 G (upd H p o) σ δ ∧ Gr G H σ δ G (upd H p o) δ ∧ RepR K H G (upd H p o) (.ref p) (.own d) := by
  obtain ⟨S1, g1, hg⟩ := S.new (o := o) hp
  exact ⟨S1, g1, ⟨p, rfl, hg, r⟩, fun _ => ⟨⟨d, rfl⟩, p, rfl, hp⟩⟩
theorem StOk.newLst {K : PySem.W.Frag} {M : Nat → Option Addr} {G0 H0 G H : Hp} {σ : St} {δ : DEnv} (S : StOk K M G0 H0 G H σ δ) {p : Addr} {vs : List V} {ds : List D} (hp : H p = none) (r : RepL K G vs ds) :
    StOk K M G0 H0 G (upd H p (.lst vs)) σ δ ∧ Gr G H σ δ G (upd H p (.lst vs)) δ ∧ RepR K H G (upd H p (.lst vs)) (.ref p) (.own (.lst ds)) := S.newOwn hp ⟨vs, upd_same, r⟩
theorem snd_lst (ha : SndL X t fl) : SndE X (tLst t) (fArgs gLstD fl) := by
  intro M G0 H0 G H σ δ q δ' Q S e k
  rcases Rs.inv e with ⟨s1, δ1, e1, e⟩ | ⟨x, e1, rfl⟩
  · refine ha M G0 H0 G H σ δ (.ok s1) δ1 _ S e1 fun vs G1 H1 S1 g1 r1 => ?_
    obtain ⟨s3, e3, rfl, rfl⟩ := lift_inv e
    unfold gLstD at e3
    split at e3
    · rename_i hl
      cases e3
      refine ⟨by rw [r1.len]; exact hl, fun p hp => ?_⟩
      obtain ⟨S2, g2, r2⟩ := S1.newLst hp r1
      exact k _ _ _ S2 (g1.trans g2) (r2.back g1)
    · cases e3
  · exact ha M G0 H0 G H σ δ _ _ _ S e1 k
end

/-! ### tests -/
section
variable {X : Cx} {ta tb : TE} {f1 f2 : FE} {tA tB' : TT} {c1 c2 : FT}
noncomputable def blOf (d : D) : Option Bool := match d with | .bl k => some k | _ => none
theorem blOf_inv {d : D} {k : Bool} (h : blOf d = some k) : d = .bl k := by
  unfold blOf at h
  split at h
  · cases h; rfl
  · cases h
noncomputable def fTb (f : FE) : FT := fun δ => (f δ).bind fun p δ => lift (blOf p.fz) δ
noncomputable def truD : D → Option Bool
  | .non => some false
  | .bl k => some k
  | .int i => some (decide (i ≠ 0))
  | .str x => if x.length ≤ sizeLine then some (decide (x.length ≠ 0)) else none
  | .tup ds => some (!ds.isEmpty)
  | .lst ds => some (!ds.isEmpty)
  | _ => none
noncomputable def fTr (f : FE) : FT := fun δ => (f δ).bind fun p δ => lift (truD p.fz) δ
noncomputable def fAndT (a b : FT) : FT := fun δ => (a δ).bind fun p δ => if p then b δ else some (.ok false, δ)
noncomputable def fOrT (a b : FT) : FT := fun δ => (a δ).bind fun p δ => if p then some (.ok true, δ) else b δ
noncomputable def fNotT (a : FT) : FT := fun δ => (a δ).bind fun p δ => some (.ok (!p), δ)
section
variable {K : PySem.W.Frag} {G : Hp} {v : V}
theorem rep_bl {k : Bool} (h : Rep K G v (.bl k)) : v = .bl k := by cases h; rfl
theorem rep_int {k : Int} (h : Rep K G v (.int k)) : v = .int k := by cases h; rfl
theorem rep_str {k : Str} (h : Rep K G v (.str k)) : v = .str k := by cases h; rfl
theorem rep_non (h : Rep K G v .non) : v = .non := by cases h; rfl
theorem rep_tup {ds : List D} (h : Rep K G v (.tup ds)) : ∃ a vs, v = .ref a ∧ SqT K G a vs ∧ RepL K G vs ds := by cases h with | tup h _ r => exact ⟨_, _, rfl, h, r⟩
theorem rep_lst {ds : List D} (h : Rep K G v (.lst ds)) : ∃ a vs, v = .ref a ∧ LsK K G a vs ∧ RepL K G vs ds := by cases h with | lst h r => exact ⟨_, _, rfl, h, r⟩
end
theorem snd_test (ha : SndE X ta f1) : SndT X (tTest ta) (fTb f1) := by
  intro M G0 H0 G H σ δ q δ' Q S e k
  rcases Rs.inv e with ⟨s1, δ1, e1, e⟩ | ⟨x, e1, rfl⟩
  · refine ha.toV M G0 H0 G H σ δ s1 δ1 _ S e1 fun x G1 H1 S1 g1 r1 => ?_
    obtain ⟨b, e3, rfl, rfl⟩ := lift_inv e
    rw [blOf_inv e3] at r1
    exact ⟨_, rep_bl r1, k G1 H1 S1 g1⟩
  · exact ha M G0 H0 G H σ δ _ _ _ S e1 k
theorem snd_andT (ha : SndT X tA c1) (hb : SndT X tB' c2) : SndT X (tAnd tA tB') (fAndT c1 c2) := by
  intro M G0 H0 G H σ δ q δ' Q S e k
  rcases Rs.inv e with ⟨b, δ1, e1, e⟩ | ⟨x, e1, rfl⟩
  · refine ha M G0 H0 G H σ δ (.ok b) δ1 _ S e1 fun G1 H1 S1 g1 => ?_
    cases b with
    | true =>
      rw [if_pos rfl]
      have e' : c2 δ1 = some (q, δ') := by simpa using e
      cases q with
      | ok b' => exact hb M G0 H0 G1 H1 σ δ1 (.ok b') δ' _ S1 e' fun G2 H2 S2 g2 => k G2 H2 S2 (g1.trans g2)
      | error x => exact hb M G0 H0 G1 H1 σ δ1 _ _ _ S1 e' (PostX.after g1 k)
    | false =>
      rw [if_neg Bool.false_ne_true]
      simp only [Bool.false_eq_true, if_false, Option.some.injEq, Prod.mk.injEq] at e
      obtain ⟨rfl, rfl⟩ := e
      exact k G1 H1 S1 g1
  · exact ha M G0 H0 G H σ δ _ _ _ S e1 k
theorem snd_orT (ha : SndT X tA c1) (hb : SndT X tB' c2) : SndT X (tOr tA tB') (fOrT c1 c2) := by
  intro M G0 H0 G H σ δ q δ' Q S e k
  rcases Rs.inv e with ⟨b, δ1, e1, e⟩ | ⟨x, e1, rfl⟩
  · refine ha M G0 H0 G H σ δ (.ok b) δ1 _ S e1 fun G1 H1 S1 g1 => ?_
    cases b with
    | false =>
      rw [if_neg Bool.false_ne_true]
      have e' : c2 δ1 = some (q, δ') := by simpa using e
      cases q with
      | ok b' => exact hb M G0 H0 G1 H1 σ δ1 (.ok b') δ' _ S1 e' fun G2 H2 S2 g2 => k G2 H2 S2 (g1.trans g2)
      | error x => exact hb M G0 H0 G1 H1 σ δ1 _ _ _ S1 e' (PostX.after g1 k)
    | true =>
      rw [if_pos rfl]
      simp only [if_true, Option.some.injEq, Prod.mk.injEq] at e
      obtain ⟨rfl, rfl⟩ := e
      exact k G1 H1 S1 g1
  · exact ha M G0 H0 G H σ δ _ _ _ S e1 k
theorem snd_notT (ha : SndT X tA c1) : SndT X (tNot tA) (fNotT c1) := by
  intro M G0 H0 G H σ δ q δ' Q S e k
  rcases Rs.inv e with ⟨b, δ1, e1, e⟩ | ⟨x, e1, rfl⟩
  · cases e
    exact ha M G0 H0 G H σ δ (.ok b) _ _ S e1 fun G1 H1 S1 g1 => k G1 H1 S1 g1
  · exact ha M G0 H0 G H σ δ _ _ _ S e1 k
noncomputable def fAndV (a b : FE) : FE := fun δ => (a δ).bind fun p δ => match blOf p.fz with | some true => b δ | some false => some (.ok (.val (.bl false)), δ) | none => none
noncomputable def fOrV (a b : FE) : FE := fun δ => (a δ).bind fun p δ => match blOf p.fz with | some false => b δ | some true => some (.ok (.val (.bl true)), δ) | none => none
noncomputable def fNotV (a : FE) : FE := fun δ => (a δ).bind fun p δ => lift ((blOf p.fz).map fun k => .val (.bl (!k))) δ
noncomputable def fIfE (c : FT) (a b : FE) : FE := fun δ => (c δ).bind fun p δ => if p then a δ else b δ
theorem SndE.later (hb : SndE X tb f2) {M : Nat → Option Addr} {G0 H0 G H G1 H1 : Hp} {σ : St} {δ δ1 δ' : DEnv} {q : Except XD Sl} {Q : VK} (g1 : Gr G H σ δ G1 H1 δ1) (S1 : StOk X.K M G0 H0 G1 H1 σ δ1) (e : f2 δ1 = some (q, δ')) (k : PostE X M G0 H0 G H σ δ δ' Q q) : tb σ H1 Q := by
  cases q with
  | ok s => exact hb M G0 H0 G1 H1 σ δ1 (.ok s) δ' _ S1 e fun v G2 H2 S2 g2 r2 => k v G2 H2 S2 (g1.trans g2) (r2.back g1)
  | error x => exact hb M G0 H0 G1 H1 σ δ1 _ _ _ S1 e (PostX.after g1 k)
theorem snd_andV (ha : SndE X ta f1) (hb : SndE X tb f2) : SndE X (tAndV ta tb) (fAndV f1 f2) := by
  intro M G0 H0 G H σ δ q δ' Q S e k
  rcases Rs.inv e with ⟨s1, δ1, e1, e⟩ | ⟨x, e1, rfl⟩
  · refine ha.toV M G0 H0 G H σ δ s1 δ1 _ S e1 fun x G1 H1 S1 g1 r1 => ?_
    split at e
    · rename_i hb'
      rw [blOf_inv hb'] at r1
      refine ⟨_, rep_bl r1, ?_⟩
      rw [if_pos rfl]
      exact hb.later g1 S1 e k
    · rename_i hb'
      rw [blOf_inv hb'] at r1
      cases e
      refine ⟨_, rep_bl r1, ?_⟩
      rw [if_neg Bool.false_ne_true]
      exact k _ G1 H1 S1 g1 (.val (.bl false))
    · cases e
  · exact ha M G0 H0 G H σ δ _ _ _ S e1 k
theorem snd_notV (ha : SndE X ta f1) : SndE X (tNotV ta) (fNotV f1) := by
  intro M G0 H0 G H σ δ q δ' Q S e k
  rcases Rs.inv e with ⟨s1, δ1, e1, e⟩ | ⟨x, e1, rfl⟩
  · refine ha.toV M G0 H0 G H σ δ s1 δ1 _ S e1 fun x G1 H1 S1 g1 r1 => ?_
    obtain ⟨s3, e3, rfl, rfl⟩ := lift_inv e
    obtain ⟨b, e4, rfl⟩ := Option.map_eq_some_iff.mp e3
    rw [blOf_inv e4] at r1
    exact ⟨_, rep_bl r1, k _ G1 H1 S1 g1 (.val (.bl _))⟩
  · exact ha M G0 H0 G H σ δ _ _ _ S e1 k
end

/-! ### statements -/
inductive Out where
  | next (δ : DEnv) | ret (s : Sl) (δ : DEnv) | brk (δ : DEnv) | cont (δ : DEnv) | ex (x : XD) (δ : DEnv)
abbrev FS := DEnv → Option Out
noncomputable def RepN (K : PySem.W.Frag) (H0 G H : Hp) (σ : St) (δ : DEnv) (v : V) (s : Sl) : Prop := RepS K G H v s ∧ (s.isO = true → (∃ d, s = .own d) ∧ ∃ p, v = .ref p ∧ H0 p = none ∧ ¬ Ow σ δ p)
noncomputable def PostS (X : Cx) (M : Nat → Option Addr) (G0 H0 : Hp) (E : Ends) : Out → Prop
  | .next δ => ∀ σ G H, StOk X.K M G0 H0 G H σ δ → E.nx σ H
  | .brk δ => ∀ σ G H, StOk X.K M G0 H0 G H σ δ → E.bk σ H
  | .cont δ => ∀ σ G H, StOk X.K M G0 H0 G H σ δ → E.ct σ H
  | .ret s δ => ∀ v σ G H, StOk X.K M G0 H0 G H σ δ → RepN X.K H0 G H σ δ v s → E.rt v H
  | .ex x δ => ∀ C dx σ G H, StOk X.K M G0 H0 G H σ δ → XRep X C dx G H x → EX X σ C dx H
noncomputable def SndS (X : Cx) (t : TS) (f : FS) : Prop := ∀ (M : Nat → Option Addr) (G0 H0 G H : Hp) (σ : St) (δ : DEnv) (o : Out) (E : Ends), StOk X.K M G0 H0 G H σ δ → f δ = some o → PostS X M G0 H0 E o → t E σ H
noncomputable def DS (X : Cx) (st : Stmt) (f : FS) : Prop := ∃ t, PS X st t ∧ SndS X t f
noncomputable def DB (X : Cx) (st : List Stmt) (f : FS) : Prop := ∃ t, PSs X st t ∧ SndS X t f
noncomputable def thenS {α : Type} (r : Rs α) (k : α → DEnv → Option Out) : Option Out := match r with
  | some (.ok a, δ) => k a δ
  | some (.error x, δ) => some (.ex x δ)
  | none => none
theorem thenS_inv {α : Type} {r : Rs α} {k : α → DEnv → Option Out} {o : Out} (h : thenS r k = some o) : (∃ a δ, r = some (.ok a, δ) ∧ k a δ = some o) ∨ ∃ x δ, r = some (.error x, δ) ∧ o = .ex x δ := by
  unfold thenS at h
  split at h
  · exact .inl ⟨_, _, rfl, h⟩
  · cases h; exact .inr ⟨_, _, rfl, rfl⟩
  · cases h
section
variable {X : Cx} {t u : TS} {f1 f2 : FS} {te : TE} {fe : FE} {tc : TT} {fc : FT}
theorem PostS.toX {M : Nat → Option Addr} {G0 H0 G H : Hp} {E : Ends} {σ : St} {δ δ' : DEnv} {x : XD} (k : PostS X M G0 H0 E (.ex x δ')) : PostX X M G0 H0 G H σ δ δ' x := fun C dx G' H' S _ r => k C dx σ G' H' S r
noncomputable def fNext : FS := fun δ => some (.next δ)
noncomputable def fSeq (a b : FS) : FS := fun δ => (a δ).bind fun o => match o with | .next δ' => b δ' | o => some o
noncomputable def fIf (c : FT) (a b : FS) : FS := fun δ => thenS (c δ) fun p δ => if p then a δ else b δ
noncomputable def fAsg (i : Nat) (f : FE) : FS := fun δ => thenS (f δ) fun p δ => some (.next (δ.set i (some p)))
noncomputable def fDrop (f : FE) : FS := fun δ => thenS (f δ) fun _ δ => some (.next δ)
noncomputable def fRet (f : FE) : FS := fun δ => thenS (f δ) fun p δ => some (.ret p δ)
noncomputable def fRetN : FS := fun δ => some (.ret (.val .non) δ)
noncomputable def fRetV (i : Nat) : FS := fun δ => match δ[i]? with | some (some (.val d)) => some (.ret (.val d) δ) | some (some (.own d)) => some (.ret (.own d) (δ.set i none)) | _ => none
noncomputable def fBrk : FS := fun δ => some (.brk δ)
theorem snd_next : SndS X tNext fNext := by
  intro M G0 H0 G H σ δ o E S e k
  cases e
  exact k σ G H S
theorem snd_seq (h1 : SndS X t f1) (h2 : SndS X u f2) : SndS X (tSeq t u) (fSeq f1 f2) := by
  intro M G0 H0 G H σ δ o E S e k
  obtain ⟨o1, e1, e⟩ := Option.bind_eq_some_iff.mp e
  refine h1 M G0 H0 G H σ δ o1 _ S e1 ?_
  cases o1 with
  | next δ1 => exact fun σ1 G1 H1 S1 => h2 M G0 H0 G1 H1 σ1 δ1 o E S1 e k
  | ret s δ1 => cases e; exact k
  | brk δ1 => cases e; exact k
  | cont δ1 => cases e; exact k
  | ex x δ1 => cases e; exact k
theorem snd_if (hc : SndT X tc fc) (h1 : SndS X t f1) (h2 : SndS X u f2) : SndS X (tIfS tc t u) (fIf fc f1 f2) := by
  intro M G0 H0 G H σ δ o E S e k
  rcases thenS_inv e with ⟨b, δ1, e1, e⟩ | ⟨x, δ1, e1, rfl⟩
  · refine hc M G0 H0 G H σ δ (.ok b) δ1 _ S e1 fun G1 H1 S1 g1 => ?_
    cases b with
    | true => rw [if_pos rfl]; exact h1 M G0 H0 G1 H1 σ δ1 o E S1 (by simpa using e) k
    | false => rw [if_neg Bool.false_ne_true]; exact h2 M G0 H0 G1 H1 σ δ1 o E S1 (by simpa using e) k
  · exact hc M G0 H0 G H σ δ _ _ _ S e1 k.toX
theorem StOk.set {K : PySem.W.Frag} {M : Nat → Option Addr} {G0 H0 G H : Hp} {σ : St} {δ : DEnv} (S : StOk K M G0 H0 G H σ δ) (i : Nat) {v : V} {s : Sl} (r : RepS K G H v s) (nw : s.isO = true → (∃ d, s = .own d) ∧ ∃ p, v = .ref p ∧ H0 p = none ∧ ¬ Ow σ δ p) :
    StOk K M G0 H0 G H (σ.set i (some v)) (δ.set i (some s)) := by
  have ow : ∀ p, Ow (σ.set i (some v)) (δ.set i (some s)) p → (Ow σ δ p) ∨ (v = .ref p ∧ s.isO = true) := fun p ⟨j, s', z1, os, z2⟩ => by
    by_cases hj : j = i
    · subst hj
      have hl : j < δ.length := by have := (List.getElem?_eq_some_iff.mp z1).1; simpa using this
      have hl' : j < σ.length := by have := S.env.len; omega
      rw [List.getElem?_set_self hl] at z1
      rw [List.getElem?_set_self hl'] at z2
      cases z1; cases z2
      exact .inr ⟨rfl, os⟩
    · rw [List.getElem?_set_ne (Ne.symm hj)] at z1 z2
      exact .inl ⟨j, s', z1, os, z2⟩
  refine ⟨S.gh, ⟨by simpa using S.env.len, fun j s' e => ?_, fun j j' p a b z1 z2 oa ob z3 z4 => ?_⟩, S.h0, S.g0, S.fr, fun p z => ?_, fun j d e => ?_⟩
  · by_cases hj : j = i
    · subst hj
      have hl : j < δ.length := by have := (List.getElem?_eq_some_iff.mp e).1; simpa using this
      have hl' : j < σ.length := by have := S.env.len; omega
      rw [List.getElem?_set_self hl] at e
      cases e
      exact ⟨v, List.getElem?_set_self hl', r⟩
    · rw [List.getElem?_set_ne (Ne.symm hj)] at e
      obtain ⟨v', e1, r'⟩ := S.env.at' j s' e
      exact ⟨v', by rw [List.getElem?_set_ne (Ne.symm hj)]; exact e1, r'⟩
  · by_cases hj : j = i
    · by_cases hj' : j' = i
      · rw [hj, hj']
      · exfalso
        subst hj
        have hl : j < δ.length := by have := (List.getElem?_eq_some_iff.mp z1).1; simpa using this
        have hl' : j < σ.length := by have := S.env.len; omega
        rw [List.getElem?_set_self hl] at z1
        rw [List.getElem?_set_self hl'] at z3
        rw [List.getElem?_set_ne (Ne.symm hj')] at z2 z4
        cases z1; cases z3
        obtain ⟨_, q, e1, _, e3⟩ := nw oa
        cases e1
        exact e3 ⟨j', b, z2, ob, z4⟩
    · by_cases hj' : j' = i
      · exfalso
        subst hj'
        have hl : j' < δ.length := by have := (List.getElem?_eq_some_iff.mp z2).1; simpa using this
        have hl' : j' < σ.length := by have := S.env.len; omega
        rw [List.getElem?_set_self hl] at z2
        rw [List.getElem?_set_self hl'] at z4
        rw [List.getElem?_set_ne (Ne.symm hj)] at z1 z3
        cases z2; cases z4
        obtain ⟨_, q, e1, _, e3⟩ := nw ob
        cases e1
        exact e3 ⟨j, a, z1, oa, z3⟩
      · rw [List.getElem?_set_ne (Ne.symm hj)] at z1 z3
        rw [List.getElem?_set_ne (Ne.symm hj')] at z2 z4
        exact S.env.sep j j' p a b z1 z2 oa ob z3 z4
  · rcases ow p z with z | ⟨e1, e2⟩
    · exact S.own0 p z
    · obtain ⟨_, q, e3, e4, _⟩ := nw e2
      rw [e1] at e3; cases e3
      exact e4
  · by_cases hj : j = i
    · subst hj
      have hl : j < δ.length := by have := (List.getElem?_eq_some_iff.mp e).1; simpa using this
      rw [List.getElem?_set_self hl] at e
      cases e
      obtain ⟨⟨d', z⟩, _⟩ := nw rfl
      cases z
    · rw [List.getElem?_set_ne (Ne.symm hj)] at e
      obtain ⟨p, z1, z2⟩ := S.mt j d e
      exact ⟨p, z1, by rw [List.getElem?_set_ne (Ne.symm hj)]; exact z2⟩
theorem RepR.toN {K : PySem.W.Frag} {M : Nat → Option Addr} {G0 H0 G H G' H' : Hp} {σ : St} {δ δ' : DEnv} {v : V} {s : Sl} (S : StOk K M G0 H0 G H σ δ) (g : Gr G H σ δ G' H' δ') (r : RepR K H G' H' v s) : RepN K H0 G' H' σ δ' v s :=
  ⟨r.1, fun o => let ⟨a, p, e1, e2⟩ := r.2 o; ⟨a, p, e1, Same.free S.h0 e2, fun z => S.noOw e2 (g.shr _ z)⟩⟩
theorem snd_asg {i : Nat} (he : SndE X te fe) : SndS X (tAsg te (gName i)) (fAsg i fe) := by
  intro M G0 H0 G H σ δ o E S e k
  rcases thenS_inv e with ⟨s, δ1, e1, e⟩ | ⟨x, δ1, e1, rfl⟩
  · cases e
    refine he M G0 H0 G H σ δ (.ok s) δ1 _ S e1 fun v G1 H1 S1 g1 r => ?_
    have r' := r.toN S g1
    exact k _ G1 H1 (S1.set i r'.1 r'.2)
  · exact he M G0 H0 G H σ δ _ _ _ S e1 k.toX
theorem snd_ret (he : SndE X te fe) : SndS X (tRet te) (fRet fe) := by
  intro M G0 H0 G H σ δ o E S e k
  rcases thenS_inv e with ⟨s, δ1, e1, e⟩ | ⟨x, δ1, e1, rfl⟩
  · cases e
    exact he M G0 H0 G H σ δ (.ok s) δ1 _ S e1 fun v G1 H1 S1 g1 r => k v σ G1 H1 S1 (r.toN S g1)
  · exact he M G0 H0 G H σ δ _ _ _ S e1 k.toX
theorem StOk.empty {K : PySem.W.Frag} {M : Nat → Option Addr} {G0 H0 G H : Hp} {σ : St} {δ : DEnv} (S : StOk K M G0 H0 G H σ δ) (i : Nat) : StOk K M G0 H0 G H σ (δ.set i none) := by
  have up : ∀ (j : Nat) (s : Sl), (δ.set i none)[j]? = some (some s) → δ[j]? = some (some s) := fun j s e => by
    by_cases hj : j = i
    · subst hj
      have hl : j < δ.length := by have := (List.getElem?_eq_some_iff.mp e).1; simpa using this
      rw [List.getElem?_set_self hl] at e; cases e
    · rwa [List.getElem?_set_ne (Ne.symm hj)] at e
  exact ⟨S.gh, ⟨by simpa using S.env.len, fun j s e => S.env.at' j s (up j s e), fun j j' p a b z1 z2 => S.env.sep j j' p a b (up j a z1) (up j' b z2)⟩, S.h0, S.g0, S.fr, fun p ⟨j, s, z1, z2⟩ => S.own0 p ⟨j, s, up j s z1, z2⟩, fun j d e => S.mt j d (up j _ e)⟩
/-! ### lists of one's own that are changed -/
noncomputable def Sl.now : Sl → D → Sl
  | .lnt _, d => .lnt d
  | _, d => .own d
theorem StOk.change {K : PySem.W.Frag} {M : Nat → Option Addr} {G0 H0 G H H' : Hp} {σ : St} {δ : DEnv} (S : StOk K M G0 H0 G H σ δ) {i : Nat} {p : Addr} {s : Sl} {d' : D} (hi : δ[i]? = some (some s)) (os : s.isO = true) (hp : σ[i]? = some (some (.ref p)))
    (hb : ∀ b, b ≠ p → H' b = H b) (r : OwnAt K G H' p d') : StOk K M G0 H0 G H' σ (δ.set i (some (s.now d'))) ∧ Gr G H σ δ G H' (δ.set i (some (s.now d'))) := by
  obtain ⟨v, e1, r0⟩ := S.env.at' i _ hi
  obtain ⟨p', e2, e4, r0⟩ := r0.own os
  rw [hp] at e1; cases e1; cases e2
  have hl : i < δ.length := (List.getElem?_eq_some_iff.mp hi).1
  have on : (s.now d').isO = true := by cases s <;> rfl
  have ow : ∀ q, Ow σ (δ.set i (some (s.now d'))) q → Ow σ δ q := fun q ⟨j, es, z1, oz, z2⟩ => by
    by_cases hj : j = i
    · subst hj; exact ⟨j, s, hi, os, z2⟩
    · rw [List.getElem?_set_ne (Ne.symm hj)] at z1; exact ⟨j, es, z1, oz, z2⟩
  have same' : ∀ (H1 : Hp), H1 p = none → Same H1 H → Same H1 H' := fun H1 n h b o q => by
    rw [hb b (ne_of_none q n)]; exact h b o q
  have own0 : H0 p = none := S.own0 p ⟨i, s, hi, os, hp⟩
  have rep : RepS K G H' (.ref p) (s.now d') := by cases s <;> exact ⟨p, rfl, e4, r⟩
  refine ⟨⟨same' G e4 S.gh, ⟨by simpa using S.env.len, fun j s' e => ?_, fun j j' q a b z1 z2 oa ob z3 z4 => ?_⟩, same' H0 own0 S.h0, S.g0, S.fr, fun q z => S.own0 q (ow q z), fun j d e => ?_⟩, fun b o e n => ?_, fun b n => ?_, Same.refl _, fun _ _ n _ => n, ow⟩
  · by_cases hj : j = i
    · subst hj
      rw [List.getElem?_set_self hl] at e
      cases e
      exact ⟨.ref p, hp, rep⟩
    · rw [List.getElem?_set_ne (Ne.symm hj)] at e
      obtain ⟨v, z1, r'⟩ := S.env.at' j s' e
      refine ⟨v, z1, ?_⟩
      have key : ∀ d, s'.isO = true → (∃ q, v = .ref q ∧ G q = none ∧ OwnAt K G H q d) → ∃ q, v = .ref q ∧ G q = none ∧ OwnAt K G H' q d := fun d os' ⟨q, z2, z3, rr⟩ => by
        subst z2
        have ne : q ≠ p := fun z => hj (by subst z; exact S.env.sep j i q s' s e hi os' os z1 hp)
        exact ⟨q, rfl, z3, rr.keep (hb q ne) (Same.refl _)⟩
      cases s' with
      | val d => exact r'
      | own d => exact key d rfl r'
      | lnt d => exact key d rfl r'
  · have fix : ∀ (m : Nat) (c : Sl), (δ.set i (some (s.now d')))[m]? = some (some c) → c.isO = true → ∃ c', δ[m]? = some (some c') ∧ c'.isO = true := fun m c z oz => by
      by_cases hm : m = i
      · subst hm; exact ⟨s, hi, os⟩
      · rw [List.getElem?_set_ne (Ne.symm hm)] at z; exact ⟨c, z, oz⟩
    obtain ⟨a', z1, oa⟩ := fix j a z1 oa
    obtain ⟨b', z2, ob⟩ := fix j' b z2 ob
    exact S.env.sep j j' q a' b' z1 z2 oa ob z3 z4
  · by_cases hj : j = i
    · subst hj
      rw [List.getElem?_set_self hl] at e
      cases s with
      | val d => cases os
      | own d0 => cases e
      | lnt d0 => exact S.mt j d0 hi
    · rw [List.getElem?_set_ne (Ne.symm hj)] at e; exact S.mt j d e
  · rw [hb b (fun z => n (by rw [z]; exact ⟨i, s, hi, os, hp⟩))]; exact e
  · by_cases hz : b = p
    · subst hz; obtain ⟨o, q⟩ := r.some; rw [q]; simp
    · rw [hb b hz]; exact n
noncomputable def isL : D → Bool
  | .lst _ => true
  | _ => false
noncomputable def mutD (i : Nat) (g : List D → List D → Option (List D × D)) (es : List D) (δ : DEnv) : Rs Sl := match δ[i]? with
  | some (some s) => if s.isO = true then (match s.fz with
    | .lst ds => (match g ds es with | some q => some (.ok (.val q.2), δ.set i (some (s.now (.lst q.1)))) | none => none)
    | _ => none) else none
  | _ => none
noncomputable def fMut (i : Nat) (g : List D → List D → Option (List D × D)) (r : FL) : FE := fun δ => match δ[i]? with
  | some (some s) => if isL s.fz = true then (r δ).bind (mutD i g) else none
  | _ => none
noncomputable def fMut0 (i : Nat) (g : List D → List D → Option (List D × D)) : FE := fMut i g fNil
/-! ### loops -/
noncomputable def forD (i : Nat) (F : FS) : List D → DEnv → Option Out
  | [], δ => some (.next δ)
  | d :: ds, δ => (F (δ.set i (some (.val d)))).bind fun o => match o with
    | .next δ' => forD i F ds δ'
    | .cont δ' => forD i F ds δ'
    | .brk δ' => some (.next δ')
    | .ret s δ' => some (.ret s δ')
    | .ex x δ' => some (.ex x δ')
noncomputable def fFor (src : FL) (i : Nat) (F : FS) : FS := fun δ => thenS (src δ) fun ds δ => forD i F ds δ
theorem StOk.rebase {K : PySem.W.Frag} {M : Nat → Option Addr} {G0 H0 G H : Hp} {σ : St} {δ : DEnv} (S : StOk K M G0 H0 G H σ δ) : StOk K M G H0 G H σ δ := ⟨S.gh, S.env, S.h0, Same.refl _, fun _ _ n => n, S.own0, S.mt⟩
theorem StOk.unbase {K : PySem.W.Frag} {M : Nat → Option Addr} {G0 H0 G1 H1 G H : Hp} {σ σ1 : St} {δ δ1 : DEnv} (S : StOk K M G0 H0 G1 H1 σ1 δ1) (S' : StOk K M G1 H0 G H σ δ) : StOk K M G0 H0 G H σ δ := ⟨S'.gh, S'.env, S'.h0, S.g0.trans S'.g0, fun b h n => S'.fr b h (S.fr b h n), S'.own0, S'.mt⟩
theorem PostS.rebase {M : Nat → Option Addr} {G0 H0 G1 H1 : Hp} {σ : St} {δ : DEnv} {E : Ends} {o : Out} (S : StOk X.K M G0 H0 G1 H1 σ δ) (k : PostS X M G0 H0 E o) : PostS X M G1 H0 E o := by
  cases o with
  | next δ1 => exact fun σ' G H S' => k σ' G H (S.unbase S')
  | brk δ1 => exact fun σ' G H S' => k σ' G H (S.unbase S')
  | cont δ1 => exact fun σ' G H S' => k σ' G H (S.unbase S')
  | ret s δ1 => exact fun v σ' G H S' r => k v σ' G H (S.unbase S') r
  | ex x δ1 => exact fun C dx σ' G H S' r => k C dx σ' G H (S.unbase S') r
/-! range -/
noncomputable def rngD (lo : Int) (n : Nat) : List D := (List.range n).map fun (k : Nat) => D.int (lo + (k : Int))
noncomputable def rng1D (ds : List D) : Option (List D) := match ds with
  | [.int j] => if -(2 ^ 62) ≤ j ∧ j < 2 ^ 62 then some (rngD 0 j.toNat) else none
  | _ => none
noncomputable def fRng1 (r : FL) : FL := fun δ => (r δ).bind fun p δ => lift (rng1D p) δ
/-! while, by at most n turns -/
end
end L4


namespace L4
open PySem L2
section
variable {K : PySem.W.Frag}
/-! ### operations at the data, against the layer's readings -/
theorem SndO.or {r r' : R2} {g g' : D → D → Option Sl} (h : SndO K r g) (h' : SndO K r' g') : SndO K (fun x y H Q => r x y H Q ∨ r' x y H Q) (fun a b => match g a b with | some s => some s | none => g' a b) := by
  intro M G0 H0 G H σ δ x y d1 d2 s Q S r1 r2 e k
  dsimp only at e
  split at e
  · rename_i s' hs
    cases e
    exact .inl (h M G0 H0 G H σ δ x y d1 d2 s Q S r1 r2 hs k)
  · exact .inr (h' M G0 H0 G H σ δ x y d1 d2 s Q S r1 r2 e k)
noncomputable def iiD (c : Int → Int → Bool) (g : Int → Int → D) (a b : D) : Option Sl := match a, b with
  | .int i, .int j => if c i j = true then some (.val (g i j)) else none
  | _, _ => none
theorem o_int {C : Int → Int → Prop} {gv : Int → Int → V} {c : Int → Int → Bool} {g : Int → Int → D} (hc : ∀ i j, c i j = true → C i j) (hg : ∀ G i j, Rep K G (gv i j) (g i j)) : SndO K (rI C gv) (iiD c g) := by
  intro M G0 H0 G H σ δ x y d1 d2 s Q S r1 r2 e k
  unfold iiD at e
  split at e
  · rename_i i j
    split at e
    · rename_i h
      cases e
      cases rep_int r1
      cases rep_int r2
      exact ⟨i, j, rfl, rfl, hc i j h, k _ G H S (Gr.refl ..) (.val (hg G i j))⟩
    · cases e
  · cases e
noncomputable def iiD0 (g : Int → Int → D) (a b : D) : Option Sl := match a, b with
  | .int i, .int j => some (.val (g i j))
  | _, _ => none
theorem o_int0 {gv : Int → Int → V} {g : Int → Int → D} (hg : ∀ G i j, Rep K G (gv i j) (g i j)) : SndO K (rI0 gv) (iiD0 g) := by
  intro M G0 H0 G H σ δ x y d1 d2 s Q S r1 r2 e k
  unfold iiD0 at e
  split at e
  · rename_i i j
    cases e
    cases rep_int r1
    cases rep_int r2
    exact ⟨i, j, rfl, rfl, k _ G H S (Gr.refl ..) (.val (hg G i j))⟩
  · cases e
noncomputable def ssD (c : Str → Str → Bool) (g : Str → Str → D) (a b : D) : Option Sl := match a, b with
  | .str i, .str j => if c i j = true then some (.val (g i j)) else none
  | _, _ => none
theorem o_addS : SndO K (fun x y H Q => ∃ i j, x = .str i ∧ y = .str j ∧ i.length + j.length ≤ sizeLine ∧ Q (.str (i ++ j)) H) (ssD (fun i j => decide (i.length + j.length ≤ sizeLine)) fun i j => .str (i ++ j)) := by
  intro M G0 H0 G H σ δ x y d1 d2 s Q S r1 r2 e k
  unfold ssD at e
  split at e
  · rename_i i j
    split at e
    · rename_i h
      cases e
      cases rep_str r1
      cases rep_str r2
      exact ⟨i, j, rfl, rfl, of_decide_eq_true h, k _ G H S (Gr.refl ..) (.val (.str _))⟩
    · cases e
  · cases e
noncomputable def rCatS (K : PySem.W.Frag) : R2 := fun x y H Q => ∃ l b xs zs, x = .ref l ∧ y = .ref b ∧ LsK K H l xs ∧ LsK K H b zs ∧ xs.length + zs.length ≤ sizeLine ∧ ∀ p, H p = none → Q (.ref p) (upd H p (.lst (xs ++ zs)))
noncomputable def catD (a b : D) : Option Sl := match a, b with
  | .lst i, .lst j => if i.length + j.length ≤ sizeLine then some (.own (.lst (i ++ j))) else none
  | _, _ => none
theorem o_cat : SndO K (rCatS K) catD := by
  intro M G0 H0 G H σ δ x y d1 d2 s Q S r1 r2 e k
  unfold catD at e
  split at e
  · rename_i i j
    split at e
    · rename_i h
      cases e
      obtain ⟨l, xs, rfl, q1, l1⟩ := rep_lst r1
      obtain ⟨b, zs, rfl, q2, l2⟩ := rep_lst r2
      refine ⟨l, b, xs, zs, rfl, rfl, same_ls S.gh q1, same_ls S.gh q2, by rw [l1.len, l2.len]; exact h, fun p hp => ?_⟩
      obtain ⟨S2, g2, r⟩ := S.newLst hp (l1.app l2)
      exact k _ _ _ S2 g2 r
    · cases e
  · cases e
noncomputable def isND (neg : Bool) (a b : D) : Option Sl := match b with
  | .non => some (.val (.bl (match a with | .non => !neg | _ => neg)))
  | _ => none
/-! ### items -/
noncomputable def ixD (a b : D) : Option Sl := match a, b with
  | .lst ds, .int i => (atI ds i).map .val
  | .tup ds, .int i => (atI ds i).map .val
  | .str z, .int i => if z.length ≤ sizeLine then (atI z.cps.toList i).map fun c => .val (.str ⟨#[c]⟩) else none
  | _, _ => none
theorem RepL.atI {G : Hp} {vs : List V} {ds : List D} {i : Int} {d : D} (r : RepL K G vs ds) (h : L2.atI ds i = some d) : ∃ v, L2.atI vs i = some v ∧ Rep K G v d := by
  unfold L2.atI at h ⊢
  rw [r.len]
  obtain ⟨j, e1, e2⟩ := Option.bind_eq_some_iff.mp h
  obtain ⟨v, e3, e4⟩ := r.at e2
  exact ⟨v, by rw [e1]; exact e3, e4⟩
theorem o_ix : SndO K (rIx K) ixD := by
  intro M G0 H0 G H σ δ x y d1 d2 s Q S r1 r2 e k
  unfold ixD at e
  split at e
  · rename_i ds i
    obtain ⟨d, e1, e2⟩ := Option.map_eq_some_iff.mp e
    subst e2
    obtain ⟨l, xs, rfl, q1, l1⟩ := rep_lst r1
    cases rep_int r2
    obtain ⟨v, e3, r3⟩ := l1.atI e1
    exact .inl ⟨l, xs, i, v, rfl, rfl, (same_ls S.gh q1).sq, e3, k _ G H S (Gr.refl ..) (.val r3)⟩
  · rename_i ds i
    obtain ⟨d, e1, e2⟩ := Option.map_eq_some_iff.mp e
    subst e2
    obtain ⟨l, xs, rfl, q1, l1⟩ := rep_tup r1
    cases rep_int r2
    obtain ⟨v, e3, r3⟩ := l1.atI e1
    exact .inr (.inl ⟨l, xs, i, v, rfl, rfl, same_sqT S.gh q1, e3, k _ G H S (Gr.refl ..) (.val r3)⟩)
  · rename_i z i
    split at e
    · rename_i hz
      obtain ⟨c, e1, e2⟩ := Option.map_eq_some_iff.mp e
      subst e2
      cases rep_str r1
      cases rep_int r2
      exact .inr (.inr ⟨z, i, c, rfl, rfl, hz, e1, k _ G H S (Gr.refl ..) (.val (.str _))⟩)
    · cases e
  · cases e
/-! ### slices: a[lo:hi] -/
abbrev FO := DEnv → Rs (Option Int)
noncomputable def SndP (X : Cx) (t : TO) (f : FO) : Prop := ∀ (M : Nat → Option Addr) (G0 H0 G H : Hp) (σ : St) (δ : DEnv) (r : Except XD (Option Int)) (δ' : DEnv) (Q : Option Int → Hp → Prop), StOk X.K M G0 H0 G H σ δ → f δ = some (r, δ') → PostT X M G0 H0 G H σ δ δ' Q r → t σ H Q
noncomputable def fNoP : FO := fun δ => some (.ok none, δ)
noncomputable def intOf (d : D) : Option (Option Int) := match d with | .int i => some (some i) | _ => none
noncomputable def fPart (f : FE) : FO := fun δ => (f δ).bind fun p δ => lift (intOf p.fz) δ
theorem snd_noP {X : Cx} : SndP X tNoPart fNoP := by
  intro M G0 H0 G H σ δ b δ' Q S e k
  cases e
  exact k G H S (Gr.refl ..)
theorem snd_part {X : Cx} {te : TE} {fe : FE} (h : SndE X te fe) : SndP X (tPart te) (fPart fe) := by
  intro M G0 H0 G H σ δ q δ' Q S e k
  rcases Rs.inv e with ⟨s1, δ1, e1, e⟩ | ⟨x, e1, rfl⟩
  · refine h.toV M G0 H0 G H σ δ s1 δ1 _ S e1 fun v G1 H1 S1 g1 r1 => ?_
    obtain ⟨i, e3, rfl, rfl⟩ := lift_inv e
    unfold intOf at e3
    split at e3
    · rename_i i' hi
      cases e3
      rw [hi] at r1
      exact ⟨i', rep_int r1, k G1 H1 S1 g1⟩
    · cases e3
  · exact h M G0 H0 G H σ δ _ _ _ S e1 k
noncomputable def SndSl (K : PySem.W.Frag) (r : V → Option Int → Option Int → Hp → VK → Prop) (g : D → Option Int → Option Int → Option Sl) : Prop := ∀ (M : Nat → Option Addr) (G0 H0 G H : Hp) (σ : St) (δ : DEnv) (x : V) (d : D) (lo hi : Option Int) (s : Sl) (Q : VK), StOk K M G0 H0 G H σ δ → Rep K G x d → g d lo hi = some s →
  (∀ v G' H', StOk K M G0 H0 G' H' σ δ → Gr G H σ δ G' H' δ → RepR K H G' H' v s → Q v H') → r x lo hi H Q
noncomputable def fSl (g : D → Option Int → Option Int → Option Sl) (f : FE) (l h : FO) : FE := fun δ => (f δ).bind fun p δ => (l δ).bind fun q δ => (h δ).bind fun r δ => lift (g p.fz q r) δ
theorem snd_sl {X : Cx} {r : V → Option Int → Option Int → Hp → VK → Prop} {g : D → Option Int → Option Int → Option Sl} {te : TE} {fe : FE} {tl th : TO} {fl fh : FO} (hr : SndSl X.K r g) (he : SndE X te fe) (hl : SndP X tl fl) (hh : SndP X th fh) : SndE X (tSl r te tl th) (fSl g fe fl fh) := by
  intro M G0 H0 G H σ δ q δ' Q S e k
  rcases Rs.inv e with ⟨s1, δ1, e1, e⟩ | ⟨x, e1, rfl⟩
  · refine he.toV M G0 H0 G H σ δ s1 δ1 _ S e1 fun x G1 H1 S1 g1 r1 => ?_
    rcases Rs.inv e with ⟨lo, δ2, e2, e⟩ | ⟨x, e2, rfl⟩
    · refine hl M G0 H0 G1 H1 σ δ1 (.ok lo) δ2 _ S1 e2 fun G2 H2 S2 g2 => ?_
      rcases Rs.inv e with ⟨hi, δ3, e3, e⟩ | ⟨x, e3, rfl⟩
      · refine hh M G0 H0 G2 H2 σ δ2 (.ok hi) _ _ S2 e3 fun G3 H3 S3 g3 => ?_
        obtain ⟨s4, e4, rfl, rfl⟩ := lift_inv e
        refine hr M G0 H0 G3 H3 σ _ x _ lo hi s4 Q S3 (Rep.mono (g2.gg.trans g3.gg) r1) e4 fun v G4 H4 S4 g4 r4 => ?_
        exact k v G4 H4 S4 (g1.trans (g2.trans (g3.trans g4))) (r4.back (g1.trans (g2.trans g3)))
      · exact hh M G0 H0 G2 H2 σ δ2 _ _ _ S2 e3 (PostX.after (g1.trans g2) k)
    · exact hl M G0 H0 G1 H1 σ δ1 _ _ _ S1 e2 (PostX.after g1 k)
  · exact he M G0 H0 G H σ δ _ _ _ S e1 k
noncomputable def cutD {α : Type} (xs : List α) (lo hi : Option Int) : List α := (xs.drop (HT.sIx xs.length 0 lo)).take (HT.sIx xs.length xs.length hi - HT.sIx xs.length 0 lo)
theorem RepL.cut {G : Hp} {vs : List V} {ds : List D} (lo hi : Option Int) (r : RepL K G vs ds) : RepL K G (cutV vs lo hi) (cutD ds lo hi) := by
  unfold cutV cutD
  rw [r.len]
  exact RepL.take _ (RepL.drop _ r)
/-! ### built-ins -/
noncomputable def g1 (g : D → Option Sl) (ds : List D) : Option Sl := match ds with | [d] => g d | _ => none
noncomputable def g2 (g : D → D → Option Sl) (ds : List D) : Option Sl := match ds with | [a, b] => g a b | _ => none
theorem repL1 {G : Hp} {xs : List V} {d : D} (r : RepL K G xs [d]) : ∃ x, xs = [x] ∧ Rep K G x d := by
  cases r with
  | cons h t => cases t; exact ⟨_, rfl, h⟩
theorem repL2 {G : Hp} {xs : List V} {d e : D} (r : RepL K G xs [d, e]) : ∃ x y, xs = [x, y] ∧ Rep K G x d ∧ Rep K G y e := by
  cases r with
  | cons h t =>
    obtain ⟨y, rfl, r⟩ := repL1 t
    exact ⟨_, _, rfl, h, r⟩
noncomputable def lenD (d : D) : Option Sl := match d with
  | .str z => if z.length ≤ sizeLine then some (.val (.int z.length)) else none
  | .lst ds => some (.val (.int ds.length))
  | .tup ds => some (.val (.int ds.length))
  | _ => none
theorem c_len : SndN K (fun xs H Q => ∃ x n, xs = [x] ∧ LenV K x H n ∧ Q (.int n) H) (g1 lenD) := by
  intro M G0 H0 G H σ δ xs ds s Q S r e k
  unfold g1 at e
  split at e
  · rename_i d
    obtain ⟨x, rfl, rr⟩ := repL1 r
    unfold lenD at e
    split at e
    · rename_i z
      split at e
      · rename_i hz
        cases e
        cases rep_str rr
        exact ⟨_, z.length, rfl, ⟨hz, rfl⟩, k _ G H S (Gr.refl ..) (.val (.int _))⟩
      · cases e
    · rename_i es
      cases e
      obtain ⟨l, vs, rfl, q1, l1⟩ := rep_lst rr
      exact ⟨_, vs.length, rfl, .inl ⟨vs, (same_ls S.gh q1).sq, rfl⟩, k _ G H S (Gr.refl ..) (.val (by rw [l1.len]; exact .int _))⟩
    · rename_i es
      cases e
      obtain ⟨l, vs, rfl, q1, l1⟩ := rep_tup rr
      exact ⟨_, vs.length, rfl, .inr ⟨vs, same_sqT S.gh q1, rfl⟩, k _ G H S (Gr.refl ..) (.val (by rw [l1.len]; exact .int _))⟩
    · cases e
  · cases e
noncomputable def intD (d : D) : Option Sl := match d with | .int i => some (.val (.int i)) | .bl k => some (.val (.int (if k then 1 else 0))) | _ => none
noncomputable def listD (d : D) : Option Sl := match d with | .lst ds => some (.own (.lst ds)) | .tup ds => some (.own (.lst ds)) | _ => none
/-! ### a op b op' c -/
theorem snd_truth {X : Cx} {ta : TE} {f1 : FE} (ha : SndE X ta f1) : SndT X (fun σ H Q => ta σ H fun x H' => ∃ k, TruV X.K x H' k ∧ Q k H') (fTr f1) := by
  intro M G0 H0 G H σ δ q δ' Q S e k
  rcases Rs.inv e with ⟨s1, δ1, e1, e⟩ | ⟨x, e1, rfl⟩
  · obtain ⟨b, e2, rfl, rfl⟩ := lift_inv e
    refine ha.toV M G0 H0 G H σ δ s1 _ _ S e1 fun x G1 H1 S1 g1 r1 => ?_
    refine ⟨_, ?_, k G1 H1 S1 g1⟩
    cases hd : s1.fz with
    | non => rw [hd] at e2 r1; cases e2; cases rep_non r1; rfl
    | bl c => rw [hd] at e2 r1; cases e2; cases rep_bl r1; rfl
    | int i => 
      rw [hd] at e2 r1; cases e2; cases rep_int r1
      show decide (i ≠ 0) = (i != 0)
      by_cases h : i = 0 <;> simp [h]
    | str z =>
      rw [hd] at e2 r1; 
      change (if z.length ≤ sizeLine then some (decide (z.length ≠ 0)) else none) = some b at e2
      split at e2
      · rename_i hz
        cases e2
        cases rep_str r1
        refine ⟨hz, ?_⟩
        by_cases h : z.length = 0
        · simp [h]
        · have h2 : ((z.length : Nat) : Int) ≠ 0 := by omega
          rw [decide_eq_true h]
          exact (bne_iff_ne.mpr h2).symm
      · cases e2
    | tup ds => 
      rw [hd] at e2 r1; cases e2
      obtain ⟨a, vs, rfl, q, l⟩ := rep_tup r1
      exact .inr (.inl ⟨vs, same_sqT S1.gh q, by cases l <;> rfl⟩)
    | lst ds => 
      rw [hd] at e2 r1; cases e2
      obtain ⟨a, vs, rfl, q, l⟩ := rep_lst r1
      exact .inl ⟨vs, (same_ls S1.gh q).sq, by cases l <;> rfl⟩
    | ty n => rw [hd] at e2; cases e2
    | dct ks vs => rw [hd] at e2; cases e2
    | exc c => rw [hd] at e2; cases e2
    | emp => rw [hd] at e2; cases e2
    | exa _ _ => rw [hd] at e2; cases e2
    | exo _ => rw [hd] at e2; cases e2
  · exact ha M G0 H0 G H σ δ _ _ _ S e1 k
end
end L4


namespace L4
open PySem L2
/-! ### the operations' values -/
noncomputable def addD : D → D → Option Sl := fun a b => match iiD0 (fun i j => .int (i + j)) a b with
  | some s => some s
  | none => (fun a b => match ssD (fun i j => decide (i.length + j.length ≤ sizeLine)) (fun i j => .str (i ++ j)) a b with | some s => some s | none => catD a b) a b
noncomputable def subD : D → D → Option Sl := iiD0 fun i j => .int (i - j)
noncomputable def cMul (i j : Int) : Bool := (decide (-(2 ^ 64) < i) && decide (i < 2 ^ 64)) || (decide (-(2 ^ 64) < j) && decide (j < 2 ^ 64))
noncomputable def mulD : D → D → Option Sl := iiD cMul fun i j => .int (i * j)
noncomputable def cDiv (_ j : Int) : Bool := decide (0 < j) && decide (j < 1073741824)
noncomputable def fdivD : D → D → Option Sl := iiD cDiv fun i j => .int (i / j)
noncomputable def modD : D → D → Option Sl := iiD (fun _ j => decide (0 < j)) fun i j => .int (i % j)
noncomputable def cPow (i j : Int) : Bool := decide (0 ≤ j) && decide (j ≤ 1000000) && decide (i.natAbs < 2 ^ 64)
noncomputable def powD : D → D → Option Sl := iiD cPow fun i j => .int (i ^ j.toNat)
noncomputable def negD : D → Option Sl := fun d => match d with | .int i => some (.val (.int (-i))) | _ => none
noncomputable def ltD : D → D → Option Sl := iiD0 fun i j => .bl (decide (i < j))
noncomputable def leD : D → D → Option Sl := iiD0 fun i j => .bl (decide (i ≤ j))
noncomputable def gtD : D → D → Option Sl := iiD0 fun i j => .bl (decide (j < i))
noncomputable def geD : D → D → Option Sl := iiD0 fun i j => .bl (decide (j ≤ i))
noncomputable def maxD : D → D → Option Sl := iiD0 fun i j => .int (if j > i then j else i)
noncomputable def minD : D → D → Option Sl := iiD0 fun i j => .int (if j < i then j else i)
mutual
noncomputable def eqD : D → D → Bool
  | .non, .non => true
  | .bl a, .bl b => a == b
  | .int a, .int b => a == b
  | .bl a, .int b => (if a = true then (1 : Int) else 0) == b
  | .int a, .bl b => a == (if b = true then (1 : Int) else 0)
  | .str a, .str b => a == b
  | .tup a, .tup b => eqDs a b
  | .lst a, .lst b => eqDs a b
  | _, _ => false
noncomputable def eqDs : List D → List D → Bool
  | [], [] => true
  | a :: as, b :: bs => eqD a b && eqDs as bs
  | _, _ => false
end
mutual
noncomputable def depD : D → Nat
  | .tup a => depDs a + 1
  | .lst a => depDs a + 1
  | _ => 0
noncomputable def depDs : List D → Nat
  | [] => 0
  | a :: as => max (depD a) (depDs as)
end
noncomputable def strOkD (x : Str) : Bool := x.cps.all (· < 0x110000)
mutual
noncomputable def plainD : D → Bool
  | .ty _ => false
  | .dct _ _ => false
  | .exc _ => false
  | .emp => false
  | .exa _ _ => false
  | .exo _ => false
  | .str x => strOkD x
  | .tup ds => plainDs ds
  | .lst ds => plainDs ds
  | _ => true
noncomputable def plainDs : List D → Bool
  | [] => true
  | d :: ds => plainD d && plainDs ds
end
noncomputable def eqOp (neg : Bool) (a b : D) : Option Sl := if (decide (depD a ≤ 100) && plainD a && plainD b) = true then some (.val (.bl (if neg then !eqD a b else eqD a b))) else none
noncomputable def isiT : D → String → Option Bool
  | .int _, T => if T = "int" then some true else if T = "bool" ∨ T = "str" ∨ T = "list" ∨ T = "tuple" then some false else none
  | .bl _, T => if T = "int" ∨ T = "bool" then some true else if T = "str" ∨ T = "list" ∨ T = "tuple" then some false else none
  | .str _, T => if T = "str" then some true else if T = "int" ∨ T = "bool" ∨ T = "list" ∨ T = "tuple" then some false else none
  | .tup _, T => if T = "tuple" then some true else if T = "int" ∨ T = "bool" ∨ T = "str" ∨ T = "list" then some false else none
  | .lst _, T => if T = "list" then some true else if T = "int" ∨ T = "bool" ∨ T = "str" ∨ T = "tuple" then some false else none
  | .non, T => if T = "int" ∨ T = "bool" ∨ T = "str" ∨ T = "list" ∨ T = "tuple" then some false else none
  | _, _ => none
noncomputable def isiD (a b : D) : Option Sl := match b with | .ty T => (isiT a T).map fun k => .val (.bl k) | _ => none
noncomputable def argS (ms : List Nat) (i : Nat) (d : D) : Sl := if ms.contains i then .lnt d else .val d
noncomputable def argSs (ms : List Nat) : Nat → List D → List Sl
  | _, [] => []
  | i, d :: ds => argS ms i d :: argSs ms (i + 1) ds
noncomputable def startD (n : Nat) (ms : List Nat) (ds : List D) : DEnv := (argSs ms 0 ds).map some ++ List.replicate (n - ds.length) none
noncomputable def outsD (δ : DEnv) : List Nat → Option (List D)
  | [] => some []
  | i :: ms => match δ[i]? with
    | some (some (.lnt d)) => (outsD δ ms).map (d :: ·)
    | _ => none
abbrev Fn := List D → Option (Except XD Sl × List D)
noncomputable def runD (n m : Nat) (ms : List Nat) (f : FS) : Fn := fun ds => if ds.length = m then (match f (startD n ms ds) with
  | some (.ret s δ) => (outsD δ ms).map fun o => (.ok s, o)
  | some (.next δ) => (outsD δ ms).map fun o => (.ok (.val .non), o)
  | some (.ex x δ) => (outsD δ ms).map fun o => (.error x, o)
  | _ => none) else none
end L4


namespace L4
open PySem L2
/-! ### looking at one's own things without giving them away -/
mutual
noncomputable def noLst : D → Bool
  | .lst _ => false
  | .dct _ _ => false
  | .exc _ => false
  | .emp => false
  | .exa _ _ => false
  | .exo _ => false
  | .tup ds => noLsts ds
  | _ => true
noncomputable def noLsts : List D → Bool
  | [] => true
  | d :: ds => noLst d && noLsts ds
end
noncomputable def Sl.flat : Sl → Bool
  | .val d => noLst d
  | .own (.lst ds) => noLsts ds
  | .own (.dct _ ds) => noLsts ds
  | _ => false
noncomputable def frzS : Option Sl → Option Sl
  | some s => some (.val s.fz)
  | none => none
noncomputable def frzE (δ : DEnv) : DEnv := δ.map frzS
noncomputable def fPure (f : FE) : FE := fun δ => match f (frzE δ) with
  | some (.ok s, _) => if s.flat = true then some (.ok s, δ) else f δ
  | some (.error x, _) => if noLsts (x.fs.map (·.2)) = true then some (.error x, δ) else none
  | none => none
noncomputable def fPureT (c : FT) : FT := fun δ => match c (frzE δ) with
  | some (.ok s, _) => some (.ok s, δ)
  | some (.error x, _) => if noLsts (x.fs.map (·.2)) = true then some (.error x, δ) else none
  | none => none
section
variable {K : PySem.W.Frag} {M : Nat → Option Addr}
theorem frz_at {δ : DEnv} {i : Nat} {s : Sl} (h : (frzE δ)[i]? = some (some s)) : ∃ s', δ[i]? = some (some s') ∧ s = .val s'.fz := by
  unfold frzE at h
  rw [List.getElem?_map] at h
  cases q : δ[i]? with
  | none => rw [q] at h; cases h
  | some o =>
    rw [q] at h
    cases o with
    | none => cases h
    | some s' => cases h; exact ⟨s', rfl, rfl⟩
theorem noOw_frz {σ : St} {δ : DEnv} {p : Addr} : ¬ Ow σ (frzE δ) p := fun ⟨i, s, z, os, _⟩ => by
  obtain ⟨s', _, rfl⟩ := frz_at z
  cases os
noncomputable def isHO : HO → Prop
  | .lst _ => True
  | .dT _ => True
  | .dK _ => True
  | _ => False
theorem OwnAt.isHO {G H : Hp} {p : Addr} {d : D} (h : OwnAt K G H p d) : ∃ o, H p = Option.some o ∧ L4.isHO o := by
  cases d with
  | lst ds => obtain ⟨vs, h, _⟩ := h; exact ⟨_, h, trivial⟩
  | dct ks ds =>
    obtain ⟨vs, ⟨kvs, h, _⟩, _⟩ := h
    exact ⟨_, h, trivial⟩
  | _ => exact h.elim
open Classical in
theorem StOk.frz {G0 H0 G H : Hp} {σ : St} {δ : DEnv} (S : StOk K M G0 H0 G H σ δ) : ∃ G1, StOk K M G0 H0 G1 H σ (frzE δ) ∧ Same G G1 ∧ ∀ b o, G1 b = some o → G b = some o ∨ isHO o := by
  have hOw : ∀ p, Ow σ δ p → ∃ o, H p = some o ∧ G p = none ∧ isHO o := fun p ⟨i, s, z1, os, z2⟩ => by
    obtain ⟨v, z3, r⟩ := S.env.at' i _ z1
    obtain ⟨q, e1, e2, r⟩ := r.own os
    rw [z2] at z3; cases z3; cases e1
    obtain ⟨o, e3, e4⟩ := r.isHO
    exact ⟨o, e3, e2, e4⟩
  have hs : Same G (fun b => if Ow σ δ b then H b else G b) := fun b o q => by
    have : ¬ Ow σ δ b := fun z => by obtain ⟨_, _, e, _⟩ := hOw b z; rw [q] at e; cases e
    show (if Ow σ δ b then H b else G b) = some o
    rw [if_neg this]; exact q
  refine ⟨fun b => if Ow σ δ b then H b else G b, ⟨fun b o q => ?_, ⟨by simpa [frzE] using S.env.len, fun i s e => ?_, fun i j p a b z1 _ oa _ z3 _ => (noOw_frz ⟨i, a, z1, oa, z3⟩).elim⟩, S.h0, S.g0.trans hs, fun b h n => ?_, fun p z => (noOw_frz z).elim, fun i d e => ?_⟩, hs, fun b o q => ?_⟩
  · split at q
    · exact q
    · exact S.gh b o q
  · obtain ⟨s', q, rfl⟩ := frz_at e
    obtain ⟨v, e1, r⟩ := S.env.at' i s' q
    refine ⟨v, e1, ?_⟩
    by_cases os : s'.isO = true
    · obtain ⟨p, rfl, e3, r⟩ := r.own os
      obtain ⟨o, ho⟩ := r.some
      have r2 := r.shown e3 ho
      have : Same (upd G p o) (fun b => if Ow σ δ b then H b else G b) := fun b u z => by
        show (if Ow σ δ b then H b else G b) = some u
        by_cases hb : b = p
        · subst hb
          rw [upd_same] at z; cases z
          rw [if_pos ⟨i, s', q, os, e1⟩]; exact ho
        · rw [upd_ne hb] at z
          exact hs b u z
      exact Rep.mono this r2
    · cases s' with
      | val d => exact Rep.mono hs r
      | own d => exact absurd rfl os
      | lnt d => exact absurd rfl os
  · have : ¬ Ow σ δ b := fun z => h (S.own0 b z)
    show (if Ow σ δ b then H b else G b) = none
    rw [if_neg this]; exact S.fr b h n
  · obtain ⟨s', _, z⟩ := frz_at e
    cases z
  · dsimp only at q
    split at q
    · rename_i z
      obtain ⟨o', e, _, e4⟩ := hOw b z
      rw [e] at q; cases q
      exact .inr e4
    · exact .inl q
mutual
theorem Rep.narrow {G G' : Hp} (h : ∀ a vs, (SqT K G a vs → SqT K G' a vs) ∧ (G a = some (.tup vs) → G' a = some (.tup vs))) : ∀ {v : V} {d : D}, Rep K G v d → noLst d = true → Rep K G' v d
  | _, _, .non, _ => .non
  | _, _, .bl b, _ => .bl b
  | _, _, .int i, _ => .int i
  | _, _, .str x, _ => .str x
  | _, _, .ty n, _ => .ty n
  | _, _, .tup q x r, n => .tup ((h _ _).1 q) (fun z => (h _ _).2 (x z)) (RepL.narrow h r n)
  | _, _, .lst _ _, n => nomatch n
  | _, _, .dct _ _, n => nomatch n
  | _, _, .exc _ _, n => nomatch n
  | _, _, .emp _, n => nomatch n
  | _, _, .exa _ _ _, n => nomatch n
  | _, _, .exo _ _, n => nomatch n
theorem RepL.narrow {G G' : Hp} (h : ∀ a vs, (SqT K G a vs → SqT K G' a vs) ∧ (G a = some (.tup vs) → G' a = some (.tup vs))) : ∀ {vs : List V} {ds : List D}, RepL K G vs ds → noLsts ds = true → RepL K G' vs ds
  | _, _, .nil, _ => .nil
  | _, _, .cons q r, n => by
    have n' : (noLst _ && noLsts _) = true := n
    rw [Bool.and_eq_true] at n'
    exact .cons (Rep.narrow h q n'.1) (RepL.narrow h r n'.2)
end
theorem StOk.back {G0 H0 G H G1 G2 H2 : Hp} {σ : St} {δ δ2 : DEnv} (S : StOk K M G0 H0 G H σ δ) (n1 : ∀ b o, G1 b = some o → G b = some o ∨ isHO o)
    (S2 : StOk K M G0 H0 G2 H2 σ δ2) (g : Gr G1 H σ (frzE δ) G2 H2 δ2) :
    ∃ G3, StOk K M G0 H0 G3 H2 σ δ ∧ Gr G H σ δ G3 H2 δ ∧ (∀ a vs, (SqT K G2 a vs → SqT K G3 a vs) ∧ (G2 a = some (.tup vs) → G3 a = some (.tup vs))) ∧ ∀ b, H b = none → G3 b = G2 b := by
  have hh : Same H H2 := fun b o e => g.hs b o e noOw_frz
  have hs : Same G (fun b => match H b with | none => G2 b | some _ => G b) := fun b o q => by
    show (match H b with | none => G2 b | some _ => G b) = some o
    rw [S.gh b o q]; exact q
  refine ⟨fun b => match H b with | none => G2 b | some _ => G b, ⟨fun b o q => ?_, ⟨S.env.len, fun i s e => ?_, S.env.sep⟩, S.h0.trans hh, S.g0.trans hs, fun b h n => ?_, S.own0, S.mt⟩, Gr.of hh hs (fun b h n _ => ?_) fun _ z => z, fun a vs => ?_, fun b hb => by show (match H b with | none => G2 b | some _ => G b) = G2 b; rw [hb]⟩
  · cases hb : H b with
    | none => rw [hb] at q; exact S2.gh b o q
    | some u => rw [hb] at q; exact hh b o (S.gh b o q)
  · obtain ⟨v, e1, r⟩ := S.env.at' i s e
    refine ⟨v, e1, ?_⟩
    have key : ∀ d, (∃ p, v = .ref p ∧ G p = none ∧ OwnAt K G H p d) → ∃ p, v = .ref p ∧ (match H p with | none => G2 p | some _ => G p) = none ∧ OwnAt K (fun b => match H b with | none => G2 b | some _ => G b) H2 p d := fun d ⟨p, e2, e4, rr⟩ => by
      obtain ⟨o, e3⟩ := rr.some
      exact ⟨p, e2, by rw [e3]; exact e4, rr.keep (by rw [hh _ _ e3, e3]) hs⟩
    cases s with
    | val d => exact Rep.mono hs r
    | own d => exact key d r
    | lnt d => exact key d r
  · show (match H b with | none => G2 b | some _ => G b) = none
    have hb := same_ne S.h0 h
    cases q : H b with
    | none => exact absurd q hb
    | some u => exact S.fr b h n
  · show (match H b with | none => G2 b | some _ => G b) = none
    cases q : H b with
    | none => exact absurd q h
    | some u => exact n
  · have at_ : ∀ o, G2 a = some o → ¬ isHO o → (match H a with | none => G2 a | some _ => G a) = some o := fun o e no => by
      cases hb : H a with
      | none => exact e
      | some u =>
        show G a = some o
        cases e1 : G1 a with
        | none => 
          have := g.fr a (by rw [hb]; simp) e1 noOw_frz
          rw [e] at this; cases this
        | some o1 =>
          have e2 := g.gg a o1 e1
          rw [e] at e2; cases e2
          rcases n1 a o e1 with q | q
          · exact q
          · exact absurd q no
    refine ⟨fun q => ?_, fun q => at_ _ q fun z => z⟩
    rcases q with (q | ⟨o, q⟩) | q
    · exact .inl (.inl (at_ _ q fun z => z))
    · exact .inl (.inr ⟨o, at_ _ q fun z => z⟩)
    · exact .inr q
end
section
variable {X : Cx}
theorem XRep.narrow {C : Value} {dx : Option Addr} {G G' H : Hp} {x : XD} (r : XRep X C dx G H x) : XRep X C dx G' H x := r
end
end L4


namespace L4
open PySem L2
section
variable {X : Cx} {a b c e : Expr} {es : List Expr} {f1 f2 f3 : FE} {fl : FL} {pos : Pos} {c1 c2 : FT} {rest : List Expr}
noncomputable def QR (X : Cx) (op : CmpOp) (g : D → D → Option Sl) : Prop := ∃ r, OpR X (compareOp op) r ∧ SndO X.K r g
noncomputable def BR (X : Cx) (op : Operator) (g : D → D → Option Sl) : Prop := ∃ r, OpR X (binaryOp op) r ∧ SndO X.K r g
theorem de_bin {op : Operator} {g : D → D → Option Sl} (h : BR X op g) (ha : DE X a f1) (hb : DE X b f2) : DE X (.BinOp a op b pos) (fOp g f1 f2) :=
  let ⟨_, h1, h2⟩ := h; let ⟨_, a1, a2⟩ := ha; let ⟨_, b1, b2⟩ := hb; ⟨_, pe_op h1 a1 b1, snd_op h2 a2 b2⟩
theorem de_cmp {op : CmpOp} {g : D → D → Option Sl} (h : QR X op g) (ha : DE X a f1) (hb : DE X b f2) (hm : behindInMarks op b = false) : DE X (.Compare a [op] [b] pos) (fOp g f1 f2) :=
  let ⟨_, h1, h2⟩ := h; let ⟨_, a1, a2⟩ := ha; let ⟨_, b1, b2⟩ := hb; ⟨_, pe_cmpR h1 a1 b1 hm, snd_op h2 a2 b2⟩
theorem dt_cmp {op : CmpOp} {g : D → D → Option Sl} (h : QR X op g) (ha : DE X a f1) (hb : DE X b f2) (hm : behindInMarks op b = false) : DT X (.Compare a [op] [b] pos) (fTb (fOp g f1 f2)) :=
  let ⟨_, h1, h2⟩ := h; let ⟨_, a1, a2⟩ := ha; let ⟨_, b1, b2⟩ := hb; ⟨_, pt_cmpR h1 a1 b1 hm, snd_test (snd_op h2 a2 b2)⟩
theorem q_lt : QR X .Lt ltD := ⟨_, op_lt, o_int0 fun _ _ _ => .bl _⟩
theorem de_mod (ha : DE X a f1) (hb : DE X b f2) : DE X (.BinOp a .Mod b pos) (fOp modD f1 f2) := de_bin ⟨_, op_mod, o_int (fun i j h => of_decide_eq_true h) fun _ _ _ => .int _⟩ ha hb
theorem de_pow (ha : DE X a f1) (hb : DE X b f2) : DE X (.BinOp a .Pow b pos) (fOp powD f1 f2) := de_bin ⟨_, op_pow, o_int (fun i j h => by
  unfold cPow at h
  rw [Bool.and_eq_true, Bool.and_eq_true] at h
  exact ⟨of_decide_eq_true h.1.1, of_decide_eq_true h.1.2, of_decide_eq_true h.2⟩) fun _ _ _ => .int _⟩ ha hb
theorem Inv.lstR {pins : List (Addr × Obj)} {σ : St} {H : Hp} {s : Shared} {l : Addr} {xs : List V} (I : Inv X pins σ H s) (hH : LsK X.K H l xs) : xs.length ≤ sizeLine ∧ ∃ (its : List Value) (n : Nat), Vals xs its ∧ xs.length = its.length ∧ s.heap.get? l = some { cls := .type "list", data := .seq its.toArray n } := by
  rcases hH with hH | ⟨its, n, h1, h2, h3⟩
  · obtain ⟨z, its, n, r, e⟩ := hH.ok I.hok
    exact ⟨z, its, n, r, r.length, e⟩
  · refine ⟨by rw [h3.length, Array.length_toList]; exact h2, its.toList, n, h3, h3.length, ?_⟩
    have := I.kIn l _ h1
    simpa using this
theorem op_catS : OpR X (binaryOp .Add) (rCatS X.K) := by
  intro pins s σ H x y v u Q I rx ry h
  obtain ⟨l, b, xs, zs, rfl, rfl, hH, hB, hz, q⟩ := h
  cases rx
  cases ry
  obtain ⟨z, its, n, r, hl, e⟩ := Inv.lstR I hH
  obtain ⟨z2, its2, n2, r2, hl2, e2⟩ := Inv.lstR I hB
  refine PySem.P.add_list e e2 ?_ (by rw [List.size_toArray, List.size_toArray]; omega)
  have ea : its.toArray ++ its2.toArray = (its ++ its2).toArray := by simp
  rw [ea]
  exact ⟨.ref _, _, I.lnew (t' := s.toks) (r.append r2) (by rw [List.length_append]; omega), rfl, q _ I.fresh⟩
theorem de_add (ha : DE X a f1) (hb : DE X b f2) : DE X (.BinOp a .Add b pos) (fOp addD f1 f2) := de_bin ⟨_, op_add.or (op_add_str.or op_catS), (o_int0 fun _ _ _ => .int _).or (o_addS.or o_cat)⟩ ha hb
theorem de_not (ha : DE X a f1) : DE X (.UnaryOp .Not a pos) (fNotV f1) := let ⟨_, a1, a2⟩ := ha; ⟨_, pe_not a1, snd_notV a2⟩
theorem de_one {op} (ha : DE X a f1) : DE X (.BoolOp op [a] pos) f1 := let ⟨_, a1, a2⟩ := ha; ⟨_, pe_one a1, a2⟩
theorem de_and (ha : DE X a f1) (hb : DE X (.BoolOp .And (b :: rest) pos) f2) : DE X (.BoolOp .And (a :: b :: rest) pos) (fAndV f1 f2) := let ⟨_, a1, a2⟩ := ha; let ⟨_, b1, b2⟩ := hb; ⟨_, pe_and a1 b1, snd_andV a2 b2⟩
theorem da_nil : DA X [] fNil := ⟨_, pa_nil, snd_nil⟩
theorem da_cons (ha : DE X e f1) (hr : DA X es fl) (hs : starEach (e :: es) X.env = (false, eval e X.env) :: starEach es X.env := by rfl) : DA X (e :: es) (fCons f1 fl) := let ⟨_, a1, a2⟩ := ha; let ⟨_, b1, b2⟩ := hr; ⟨_, pa_cons a1 b1 hs, snd_cons a2 b2⟩
theorem de_lst (h : DA X es fl) : DE X (.List es pos) (fArgs gLstD fl) := let ⟨_, a1, a2⟩ := h; ⟨_, pe_lst a1, snd_lst a2⟩
theorem de_ix (ha : DE X a f1) (hb : DE X b f2) (hs : PlainIx b) : DE X (.Subscript a b pos) (fOp ixD f1 f2) := let ⟨_, a1, a2⟩ := ha; let ⟨_, b1, b2⟩ := hb; ⟨_, pe_ix ix_seq a1 b1 hs, snd_op o_ix a2 b2⟩
/-! tests -/
noncomputable def DW (X : Cx) (e : Expr) (f : FT) : Prop := ∃ t, PW X e t ∧ SndT X t f
theorem dw (h : DW X e c1) : DT X e c1 := let ⟨_, a1, a2⟩ := h; ⟨_, a1.pt, a2⟩
theorem dw_and1 (h : DT X a c1) : DW X (.BoolOp .And [a] pos) c1 := let ⟨_, a1, a2⟩ := h; ⟨_, pw_and1 a1, a2⟩
theorem dw_or1 (h : DT X a c1) : DW X (.BoolOp .Or [a] pos) c1 := let ⟨_, a1, a2⟩ := h; ⟨_, pw_or1 a1, a2⟩
theorem dw_and (ha : DT X a c1) (hb : DW X (.BoolOp .And (b :: rest) pos) c2) : DW X (.BoolOp .And (a :: b :: rest) pos) (fAndT c1 c2) := let ⟨_, a1, a2⟩ := ha; let ⟨_, b1, b2⟩ := hb; ⟨_, pw_and a1 b1, snd_andT a2 b2⟩
theorem dw_or (ha : DT X a c1) (hb : DW X (.BoolOp .Or (b :: rest) pos) c2) : DW X (.BoolOp .Or (a :: b :: rest) pos) (fOrT c1 c2) := let ⟨_, a1, a2⟩ := ha; let ⟨_, b1, b2⟩ := hb; ⟨_, pw_or a1 b1, snd_orT a2 b2⟩
theorem dt_not (h : DT X a c1) : DT X (.UnaryOp .Not a pos) (fNotT c1) := let ⟨_, a1, a2⟩ := h; ⟨_, pt_not a1, snd_notT a2⟩
theorem dt_truth (h : DE X a f1) (he : ∀ whole, isTrue a X.env whole = (do let v ← whole; standAt a.pos; holding [v] (truthy v))) : DT X a (fTr f1) := let ⟨_, a1, a2⟩ := h; ⟨_, pt_truth a1 he, snd_truth a2⟩
/-! built-ins -/
section
variable {x : Str} {p : Pos}
theorem de_blt {id : String} {r : List V → Hp → VK → Prop} {g : List D → Option Sl} (hc : CallR X (.builtin id) r) (hn : SndN X.K r g) (hg : Gl X x) (hm : X.mg x = none) (hv : bootBuiltins x = some (.builtin id)) (ha : DA X (e :: es) fl) (hnm : x ≠ "__name__" := by decide) (hdb : (x == ("__debug__" : Str)) = false := by decide)
    (he : starEach (e :: es) X.env = (false, eval e X.env) :: starEach es X.env := by rfl) (hpl : (backTo pos (starEach es X.env)).any (·.1) = false := by rfl) : DE X (.Call (.Name x p) (e :: es) [] pos) (fArgs g fl) :=
  let ⟨_, a1, a2⟩ := ha; ⟨_, pe_callB hc hg hm hv a1 hnm hdb he hpl, snd_cb hn a2⟩
end
end
/-! ### deep data against the library's own -/
mutual
noncomputable def toPy : D → PyData
  | .non => .none
  | .bl b => .bool b
  | .int i => .int i
  | .str x => .str x
  | .ty _ => .none
  | .dct _ _ => .none
  | .exc _ => .none
  | .emp => .none
  | .exa _ _ => .none
  | .exo _ => .none
  | .tup ds => .tuple (toPys ds)
  | .lst ds => .list (toPys ds)
noncomputable def toPys : List D → List PyData
  | [] => []
  | d :: ds => toPy d :: toPys ds
end
mutual
theorem toPy_ok : ∀ d : D, plainD d = true → (toPy d).canLay0 = true
  | .non, _ => by unfold toPy; rfl
  | .bl _, _ => by unfold toPy; rfl
  | .int _, _ => by unfold toPy; rfl
  | .str x, h => by unfold plainD at h; unfold toPy; exact h
  | .ty _, h => by unfold plainD at h; cases h
  | .dct _ _, h => by unfold plainD at h; cases h
  | .exc _, h => by unfold plainD at h; cases h
  | .emp, h => by unfold plainD at h; cases h
  | .exa _ _, h => by unfold plainD at h; cases h
  | .exo _, h => by unfold plainD at h; cases h
  | .tup ds, h => by unfold plainD at h; unfold toPy; exact toPys_ok ds h
  | .lst ds, h => by unfold plainD at h; unfold toPy; exact toPys_ok ds h
theorem toPys_ok : ∀ ds : List D, plainDs ds = true → PyData.canLayAll0 (toPys ds) = true
  | [], _ => by unfold toPys; rfl
  | d :: ds, h => by
    unfold plainDs at h
    rw [Bool.and_eq_true] at h
    unfold toPys PyData.canLayAll0
    rw [toPy_ok d h.1, toPys_ok ds h.2]
    rfl
end
mutual
theorem toPy_depth : ∀ d : D, (toPy d).depth = depD d
  | .non => by unfold toPy PyData.depth depD; rfl
  | .bl _ => by unfold toPy PyData.depth depD; rfl
  | .int _ => by unfold toPy PyData.depth depD; rfl
  | .str x => by unfold toPy PyData.depth depD; rfl
  | .ty _ => by unfold toPy PyData.depth depD; rfl
  | .dct _ _ => by unfold toPy PyData.depth depD; rfl
  | .exc _ => by unfold toPy PyData.depth depD; rfl
  | .emp => by unfold toPy PyData.depth depD; rfl
  | .exa _ _ => by unfold toPy PyData.depth depD; rfl
  | .exo _ => by unfold toPy PyData.depth depD; rfl
  | .tup ds => by unfold toPy PyData.depth depD; rw [toPys_depth ds]
  | .lst ds => by unfold toPy PyData.depth depD; rw [toPys_depth ds]
theorem toPys_depth : ∀ ds : List D, PyData.depthAll (toPys ds) = depDs ds
  | [] => by unfold toPys depDs; rfl
  | d :: ds => by
    unfold toPys PyData.depthAll depDs
    rw [toPy_depth d, toPys_depth ds]
end
mutual
theorem toPy_eqv : ∀ a b : D, plainD a = true → plainD b = true → PyData.eqv (toPy a) (toPy b) = eqD a b
  | a, .ty _, _, h => by unfold plainD at h; cases h
  | .ty _, _, h, _ => by unfold plainD at h; cases h
  | a, .dct _ _, _, h => by unfold plainD at h; cases h
  | .dct _ _, _, h, _ => by unfold plainD at h; cases h
  | a, .exc _, _, h => by unfold plainD at h; cases h
  | a, .emp, _, h => by unfold plainD at h; cases h
  | a, .exa _ _, _, h => by unfold plainD at h; cases h
  | a, .exo _, _, h => by unfold plainD at h; cases h
  | .exc _, _, h, _ => by unfold plainD at h; cases h
  | .emp, _, h, _ => by unfold plainD at h; cases h
  | .exa _ _, _, h, _ => by unfold plainD at h; cases h
  | .exo _, _, h, _ => by unfold plainD at h; cases h
  | .tup as, .tup bs, h1, h2 => by unfold plainD at h1 h2; unfold toPy PyData.eqv eqD; exact toPys_eqv as bs h1 h2
  | .lst as, .lst bs, h1, h2 => by unfold plainD at h1 h2; unfold toPy PyData.eqv eqD; exact toPys_eqv as bs h1 h2
  | .non, .non, _, _ => by unfold toPy PyData.eqv eqD; rfl
  | .non, .bl _, _, _ => by unfold toPy PyData.eqv eqD; rfl
  | .non, .int _, _, _ => by unfold toPy PyData.eqv eqD; rfl
  | .non, .str _, _, _ => by unfold toPy PyData.eqv eqD; rfl
  | .non, .tup _, _, _ => by unfold toPy PyData.eqv eqD; rfl
  | .non, .lst _, _, _ => by unfold toPy PyData.eqv eqD; rfl
  | .bl _, .non, _, _ => by unfold toPy PyData.eqv eqD; rfl
  | .bl _, .bl _, _, _ => by unfold toPy PyData.eqv eqD; rfl
  | .bl _, .int _, _, _ => by unfold toPy PyData.eqv eqD; rfl
  | .bl _, .str _, _, _ => by unfold toPy PyData.eqv eqD; rfl
  | .bl _, .tup _, _, _ => by unfold toPy PyData.eqv eqD; rfl
  | .bl _, .lst _, _, _ => by unfold toPy PyData.eqv eqD; rfl
  | .int _, .non, _, _ => by unfold toPy PyData.eqv eqD; rfl
  | .int _, .bl _, _, _ => by unfold toPy PyData.eqv eqD; rfl
  | .int _, .int _, _, _ => by unfold toPy PyData.eqv eqD; rfl
  | .int _, .str _, _, _ => by unfold toPy PyData.eqv eqD; rfl
  | .int _, .tup _, _, _ => by unfold toPy PyData.eqv eqD; rfl
  | .int _, .lst _, _, _ => by unfold toPy PyData.eqv eqD; rfl
  | .str _, .non, _, _ => by unfold toPy PyData.eqv eqD; rfl
  | .str _, .bl _, _, _ => by unfold toPy PyData.eqv eqD; rfl
  | .str _, .int _, _, _ => by unfold toPy PyData.eqv eqD; rfl
  | .str _, .str _, _, _ => by unfold toPy PyData.eqv eqD; rfl
  | .str _, .tup _, _, _ => by unfold toPy PyData.eqv eqD; rfl
  | .str _, .lst _, _, _ => by unfold toPy PyData.eqv eqD; rfl
  | .tup _, .non, _, _ => by unfold toPy PyData.eqv eqD; rfl
  | .tup _, .bl _, _, _ => by unfold toPy PyData.eqv eqD; rfl
  | .tup _, .int _, _, _ => by unfold toPy PyData.eqv eqD; rfl
  | .tup _, .str _, _, _ => by unfold toPy PyData.eqv eqD; rfl
  | .tup _, .lst _, _, _ => by unfold toPy PyData.eqv eqD; rfl
  | .lst _, .non, _, _ => by unfold toPy PyData.eqv eqD; rfl
  | .lst _, .bl _, _, _ => by unfold toPy PyData.eqv eqD; rfl
  | .lst _, .int _, _, _ => by unfold toPy PyData.eqv eqD; rfl
  | .lst _, .str _, _, _ => by unfold toPy PyData.eqv eqD; rfl
  | .lst _, .tup _, _, _ => by unfold toPy PyData.eqv eqD; rfl
theorem toPys_eqv : ∀ as bs : List D, plainDs as = true → plainDs bs = true → PyData.eqvAll (toPys as) (toPys bs) = eqDs as bs
  | [], [], _, _ => by unfold toPys eqDs; rfl
  | a :: as, b :: bs, h1, h2 => by
    unfold plainDs at h1 h2
    rw [Bool.and_eq_true] at h1 h2
    unfold toPys PyData.eqvAll eqDs
    rw [toPy_eqv a b h1.1 h2.1, toPys_eqv as bs h1.2 h2.2]
  | [], _ :: _, _, _ => by unfold toPys eqDs; rfl
  | _ :: _, [], _, _ => by unfold toPys eqDs; rfl
end
section
variable {X : Cx} {pins : List (Addr × Obj)} {σ : St} {H G : Hp} {s : Shared}
mutual
theorem reads_of (I : Inv X pins σ H s) (hs : Same G H) : ∀ {x : V} {d : D} {u : Value}, Rep X.K G x d → plainD d = true → RelV x u → ∃ as, Reads s.heap u (toPy d) as
  | _, _, _, .non, _, r => by cases r; unfold toPy; exact ⟨_, .none⟩
  | _, _, _, .bl b, _, r => by cases r; unfold toPy; exact ⟨_, .bool b⟩
  | _, _, _, .int i, _, r => by obtain ⟨t, rfl⟩ := r; unfold toPy; exact ⟨_, .int i t⟩
  | _, _, _, .str x, _, r => by obtain ⟨t, rfl⟩ := r; unfold toPy; exact ⟨_, .str x t⟩
  | _, _, _, .ty _, h, _ => by unfold plainD at h; cases h
  | _, _, _, .dct _ _, h, _ => by unfold plainD at h; cases h
  | _, _, _, .exc _ _, h, _ => by unfold plainD at h; cases h
  | _, _, _, .emp _, h, _ => by unfold plainD at h; cases h
  | _, _, _, .exa _ _ _, h, _ => by unfold plainD at h; cases h
  | _, _, _, .exo _ _, h, _ => by unfold plainD at h; cases h
  | _, _, _, .tup q _ l, h, r => by
    cases r
    unfold plainD at h
    obtain ⟨its, r', ⟨o, ho, hc, n, hd⟩, _⟩ := I.tuple (same_sqT hs q)
    obtain ⟨as, ra⟩ := readsAll_of I hs l h r'
    unfold toPy
    exact ⟨as, .tuple ho hc hd (by simpa using ra)⟩
  | _, _, _, .lst q l, h, r => by
    cases r
    unfold plainD at h
    obtain ⟨_, its, n, r', _, e⟩ := Inv.lstR I (same_ls hs q)
    obtain ⟨as, ra⟩ := readsAll_of I hs l h r'
    unfold toPy
    exact ⟨_, .list e rfl rfl (by simpa using ra)⟩
theorem readsAll_of (I : Inv X pins σ H s) (hs : Same G H) : ∀ {xs : List V} {ds : List D} {us : List Value}, RepL X.K G xs ds → plainDs ds = true → Vals xs us → ∃ as, ReadsAll s.heap us (toPys ds) as
  | _, _, _, .nil, _, .nil => by unfold toPys; exact ⟨_, .nil⟩
  | _, _, _, .cons q l, h, .cons r rs => by
    unfold plainDs at h
    rw [Bool.and_eq_true] at h
    obtain ⟨as, ra⟩ := reads_of I hs q h.1 r
    obtain ⟨bs, rb⟩ := readsAll_of I hs l h.2 rs
    unfold toPys
    exact ⟨_, .cons ra rb⟩
end
end
section
variable {X : Cx}
noncomputable def rEqD (K : PySem.W.Frag) (neg : Bool) : R2 := fun x y H Q => ∃ G a b, Same G H ∧ Rep K G x a ∧ Rep K G y b ∧ depD a ≤ 100 ∧ plainD a = true ∧ plainD b = true ∧ Q (.bl (if neg then !eqD a b else eqD a b)) H
theorem op_eqD (hu : X.A.units + 150 < cLine) : OpR X (compareOp .Eq) (rEqD X.K false) := by
  intro pins s σ H x y v u Q I rx ry h
  obtain ⟨G, a, b, hs, ra, rb, hd, pa, pb, q⟩ := h
  obtain ⟨as, r1⟩ := reads_of I hs ra pa rx
  obtain ⟨bs, r2⟩ := reads_of I hs rb pb ry
  refine SeqAt.compareEq_reads r1 r2 (toPy_ok a pa) (toPy_ok b pb) ?_ ⟨.bl _, H, I, rfl, ?_⟩
  · rw [toPy_depth]
    have := Nat.min_le_left (depD a) (toPy b).depth
    omega
  · rw [toPy_eqv a b pa pb]; exact q
theorem op_neD (hu : X.A.units + 150 < cLine) : OpR X (compareOp .NotEq) (rEqD X.K true) := by
  intro pins s σ H x y v u Q I rx ry h
  obtain ⟨G, a, b, hs, ra, rb, hd, pa, pb, q⟩ := h
  obtain ⟨as, r1⟩ := reads_of I hs ra pa rx
  obtain ⟨bs, r2⟩ := reads_of I hs rb pb ry
  refine SeqAt.compareNe_reads r1 r2 (toPy_ok a pa) (toPy_ok b pb) ?_ ⟨.bl _, H, I, rfl, ?_⟩
  · rw [toPy_depth]
    have := Nat.min_le_left (depD a) (toPy b).depth
    omega
  · rw [toPy_eqv a b pa pb]; exact q
theorem o_eqD {K : PySem.W.Frag} (neg : Bool) : SndO K (rEqD K neg) (eqOp neg) := by
  intro M G0 H0 G H σ δ x y d1 d2 s Q S r1 r2 e k
  unfold eqOp at e
  split at e
  · rename_i h
    cases e
    rw [Bool.and_eq_true, Bool.and_eq_true] at h
    exact ⟨G, d1, d2, S.gh, r1, r2, of_decide_eq_true h.1.1, h.1.2, h.2, k _ G H S (Gr.refl ..) (.val (.bl _))⟩
  · cases e
theorem q_eq (hu : X.A.units + 150 < cLine) : QR X .Eq (eqOp false) := ⟨_, op_eqD hu, o_eqD false⟩
theorem q_ne (hu : X.A.units + 150 < cLine) : QR X .NotEq (eqOp true) := ⟨_, op_neD hu, o_eqD true⟩
theorem hu_of2 {A : Around} {k : Nat} (hr : Room k A) : A.units + 150 < cLine := by have := hr.un; omega
end
end L4


namespace L4
open PySem PySem.Spec PyProof.Rows L2
theorem bo_len : bootBuiltins "len" = some (.builtin "len") := by decide +kernel
theorem bo_isinstance : bootBuiltins "isinstance" = some (.builtin "isinstance") := by decide +kernel
theorem bo_int : bootBuiltins "int" = some (.type "int") := by decide +kernel
theorem bo_bool : bootBuiltins "bool" = some (.type "bool") := by decide +kernel
section
variable {X : Cx} {a b c e : Expr} {es : List Expr} {f1 f2 f3 : FE} {fl : FL} {pos p : Pos} {c1 c2 : FT} {x : Str}
/-! ### isinstance against a built-in type -/
noncomputable def rIsi (K : PySem.W.Frag) : List V → Hp → VK → Prop := fun xs H Q => ∃ G d T v k, xs = [v, .ty T] ∧ Same G H ∧ Rep K G v d ∧ isiT d T = some k ∧ Q (.bl k) H
theorem call_isi : CallR X (.builtin "isinstance") (rIsi X.K) := by
  intro pins s σ H xs us Q I r h
  obtain ⟨G, d, T, v, k, rfl, hs, rd, hk, q⟩ := h
  obtain ⟨u, w', rfl, ru, rw'⟩ := vals2 r
  cases rw'
  have hq : ∀ b, b = k → EP X pins σ Q (.bool b) s := fun b e => ⟨.bl k, H, I, by rw [e]; rfl, q⟩
  have hq' : ∀ b, b = k → EP X pins σ Q (.bool b) { s with toks := s.toks + 1 } := fun b e => ⟨.bl k, H, I.tok _, by rw [e]; rfl, q⟩
  cases d with
  | non =>
    cases rep_non rd
    cases ru
    simp only [isiT] at hk
    split at hk
    · rename_i e; cases hk
      rcases e with rfl | rfl | rfl | rfl | rfl
      · exact IsiPair.NoneType_int (hq' _ rfl)
      · exact IsiPair.NoneType_bool (hq' _ rfl)
      · exact IsiPair.NoneType_str (hq' _ rfl)
      · exact IsiPair.NoneType_list (hq' _ rfl)
      · exact IsiPair.NoneType_tuple (hq' _ rfl)
    · cases hk
  | ty n => cases hk
  | dct _ _ => cases hk
  | exc _ => cases hk
  | emp => cases hk
  | exa _ _ => cases hk
  | exo _ => cases hk
  | int i =>
    cases rep_int rd
    obtain ⟨t, rfl⟩ := ru
    simp only [isiT] at hk
    split at hk
    · rename_i e; subst e; cases hk; exact IsiPair.int_int (hq _ rfl)
    · split at hk
      · rename_i e; cases hk
        rcases e with rfl | rfl | rfl | rfl
        · exact IsiPair.int_bool (hq' _ rfl)
        · exact IsiPair.int_str (hq' _ rfl)
        · exact IsiPair.int_list (hq' _ rfl)
        · exact IsiPair.int_tuple (hq' _ rfl)
      · cases hk
  | bl i =>
    cases rep_bl rd
    cases ru
    simp only [isiT] at hk
    split at hk
    · rename_i e; cases hk
      rcases e with rfl | rfl
      · exact IsiPair.bool_int (hq _ rfl)
      · exact IsiPair.bool_bool (hq _ rfl)
    · split at hk
      · rename_i e; cases hk
        rcases e with rfl | rfl | rfl
        · exact IsiPair.bool_str (hq' _ rfl)
        · exact IsiPair.bool_list (hq' _ rfl)
        · exact IsiPair.bool_tuple (hq' _ rfl)
      · cases hk
  | str i =>
    cases rep_str rd
    obtain ⟨t, rfl⟩ := ru
    simp only [isiT] at hk
    split at hk
    · rename_i e; subst e; cases hk; exact IsiPair.str_str (hq _ rfl)
    · split at hk
      · rename_i e; cases hk
        rcases e with rfl | rfl | rfl | rfl
        · exact IsiPair.str_int (hq' _ rfl)
        · exact IsiPair.str_bool (hq' _ rfl)
        · exact IsiPair.str_list (hq' _ rfl)
        · exact IsiPair.str_tuple (hq' _ rfl)
      · cases hk
  | tup ds =>
    obtain ⟨l, vs, rfl, hq0, _⟩ := rep_tup rd
    cases ru
    obtain ⟨its, _, ⟨o, ho, hc, n, hd⟩, _⟩ := I.tuple (same_sqT hs hq0)
    simp only [isiT] at hk
    split at hk
    · rename_i e; subst e; cases hk; exact IsiPair.tuple_tuple ho hc (hq _ rfl)
    · split at hk
      · rename_i e; cases hk
        rcases e with rfl | rfl | rfl | rfl
        · exact IsiPair.tuple_int ho hc (hq' _ rfl)
        · exact IsiPair.tuple_bool ho hc (hq' _ rfl)
        · exact IsiPair.tuple_str ho hc (hq' _ rfl)
        · exact IsiPair.tuple_list ho hc (hq' _ rfl)
      · cases hk
  | lst ds =>
    obtain ⟨l, vs, rfl, hq0, _⟩ := rep_lst rd
    cases ru
    obtain ⟨_, its, n, _, _, ho⟩ := Inv.lstR I (same_ls hs hq0)
    simp only [isiT] at hk
    split at hk
    · rename_i e; subst e; cases hk; exact IsiPair.list_list ho rfl (hq _ rfl)
    · split at hk
      · rename_i e; cases hk
        rcases e with rfl | rfl | rfl | rfl
        · exact IsiPair.list_int ho rfl (hq' _ rfl)
        · exact IsiPair.list_bool ho rfl (hq' _ rfl)
        · exact IsiPair.list_str ho rfl (hq' _ rfl)
        · exact IsiPair.list_tuple ho rfl (hq' _ rfl)
      · cases hk
theorem c_isi {K : PySem.W.Frag} : SndN K (rIsi K) (g2 isiD) := by
  intro M G0 H0 G H σ δ xs ds s Q S r e k
  unfold g2 at e
  split at e
  · obtain ⟨v, y, rfl, r1, r2⟩ := repL2 r
    unfold isiD at e
    split at e
    · rename_i T
      obtain ⟨b, e1, e2⟩ := Option.map_eq_some_iff.mp e
      subst e2
      have ey : y = .ty T := by cases r2; rfl
      subst ey
      exact ⟨G, _, T, v, b, rfl, S.gh, r1, e1, k _ G H S (Gr.refl ..) (.val (.bl _))⟩
    · cases e
  · cases e
section
variable (he : starEach (e :: es) X.env = (false, eval e X.env) :: starEach es X.env := by rfl) (hpl : (backTo pos (starEach es X.env)).any (·.1) = false := by rfl)
include he hpl
end
theorem de_len (hg : Gl X "len") (hm : X.mg "len" = none) (ha : DA X (e :: es) fl) (he : starEach (e :: es) X.env = (false, eval e X.env) :: starEach es X.env := by rfl) (hpl : (backTo pos (starEach es X.env)).any (·.1) = false := by rfl) :
    DE X (.Call (.Name "len" p) (e :: es) [] pos) (fArgs (g1 lenD) fl) := de_blt call_len c_len hg hm bo_len ha (by decide) (by decide) he hpl
theorem de_isi (hg : Gl X "isinstance") (hm : X.mg "isinstance" = none) (ha : DA X (e :: es) fl) (he : starEach (e :: es) X.env = (false, eval e X.env) :: starEach es X.env := by rfl) (hpl : (backTo pos (starEach es X.env)).any (·.1) = false := by rfl) :
    DE X (.Call (.Name "isinstance" p) (e :: es) [] pos) (fArgs (g2 isiD) fl) := de_blt call_isi c_isi hg hm bo_isinstance ha (by decide) (by decide) he hpl
theorem de_ty {T : String} (hg : Gl X x) (hm : X.mg x = none) (hv : bootBuiltins x = some (.type T)) (hn : x ≠ "__name__" := by decide) (hd : (x == ("__debug__" : Str)) = false := by decide) : DE X (.Name x pos) (fC (.ty T)) :=
  ⟨_, pe_bltn hg hm hv (v := .ty T) rfl hn hd, snd_C fun _ => .ty T⟩
/-! ### slices -/
noncomputable def DP (X : Cx) (e : Option Expr) (f : FO) : Prop := ∃ t, PO X e t ∧ SndP X t f
theorem dp_none : DP X none fNoP := ⟨_, po_none, snd_noP⟩
theorem dp_some (h : DE X e f1) : DP X (some e) (fPart f1) := let ⟨_, a1, a2⟩ := h; ⟨_, po_some a1, snd_part a2⟩
end
/-! ### statements -/
section
variable {X : Cx} {e o : Expr} {es : List Expr} {fe : FE} {fl : FL} {pos p : Pos} {ft : FT} {st : Stmt} {rest : List Stmt} {F1 F2 : FS}
theorem db_nil : DB X [] fNext := ⟨_, pss_nil, snd_next⟩
theorem db_cons (h1 : DS X st F1) (h2 : DB X rest F2) : DB X (st :: rest) (fSeq F1 F2) := let ⟨_, a1, a2⟩ := h1; let ⟨_, b1, b2⟩ := h2; ⟨_, pss_cons a1 b1, snd_seq a2 b2⟩
theorem db_one (h1 : DS X st F1) : DB X [st] F1 := let ⟨_, a1, a2⟩ := h1; ⟨_, pss_one a1, a2⟩
theorem ds_ret (h : DE X e fe) : DS X (.Return (some e) pos) (fRet fe) := let ⟨_, a1, a2⟩ := h; ⟨_, ps_ret a1, snd_ret a2⟩
theorem ds_if {c : Expr} {a b : List Stmt} (hc : DT X c ft) (h1 : DB X a F1) (h2 : DB X b F2) : DS X (.If c a b pos) (fIf ft F1 F2) := let ⟨_, y1, y2⟩ := hc; let ⟨_, a1, a2⟩ := h1; let ⟨_, b1, b2⟩ := h2; ⟨_, ps_if y1 a1 b1, snd_if y2 a2 b2⟩
theorem ds_set {i : Nat} {x : Str} {pos' : Pos} (hN : X.N.Nodup) (hi : X.N[i]? = some x) (hx : Loc X.env.scope x) (h : DE X e fe) (hs : swapsWith e (some (.Name x pos')) pos.line X.env = pure false := by rfl) (hf : X.fn x = true ∨ X.env.scope.names.lookup x = some .local := by first | exact .inl rfl | exact .inr rfl | assumption) :
    DS X (.Assign [.Name x pos'] e pos) (fAsg i fe) := let ⟨_, a1, a2⟩ := h; ⟨_, ps_set hN hi hx a1 hs hf, snd_asg a2⟩
end
end L4


namespace L4
open PySem PySem.Spec PyProof.Rows L2
section
variable {X : Cx} {pins : List (Addr × Obj)} {σ : L2.St} {H : Hp} {s : Shared}
theorem Inv.passed {h' : Heap} {ch : List Addr} (I : Inv X pins σ H s) (hch : ∀ b ∈ ch, X.s₀.heap.get? b = none ∧ H b = none ∧ b ≠ X.env.locals ∧ (∀ x c, X.env.cells.lookup x = some c → c ≠ b) ∧ ∀ p ∈ X.pn ++ pins, p.1 ≠ b)
    (keep : ∀ b o, b ∉ frs X.stack → b ∉ ch → s.heap.get? b = some o → h'.get? b = some o) (slot : ∀ b o, b ∈ frs X.stack → s.heap.get? b = some o → ∃ sl, h'.get? b = some { o with slots := sl }) (hex : X.ex = []) :
    Inv X pins σ H { s with heap := h' } := by
  have any : ∀ b o, b ∉ ch → s.heap.get? b = some o → ∃ sl, h'.get? b = some { o with slots := sl } := fun b o hc e => by
    by_cases hb : b ∈ frs X.stack
    · exact slot b o hb e
    · exact ⟨o.slots, keep b o hb hc e⟩
  have neC : ∀ b o, X.s₀.heap.get? b = some o → b ∉ ch := fun b o e hb => by rw [(hch b hb).1] at e; cases e
  have fsub : ∀ b, b ≠ X.env.locals → b ∉ X.fs → b ∉ frs X.stack := fun b h1 h2 z => (List.mem_cons.mp (I.stkSub b z)).elim h1 h2
  have neL : ∀ b o, X.s₀.heap.get? b = some o → b ≠ X.env.locals := fun b o e => Nat.ne_of_lt (Nat.lt_of_lt_of_le (Heap.lt_size e) I.ok.above)
  have cellK : ∀ x c v, X.env.cells.lookup x = some c → s.heap.IsCell c v → h'.IsCell c v := fun x c v e ⟨o, ho, hd⟩ => by
    obtain ⟨sl, q⟩ := any c o (fun z => (hch c z).2.2.2.1 x c e rfl) ho
    exact ⟨_, q, hd⟩
  have inEx : ∀ b : Addr, b ∉ X.ex := fun b => by rw [hex]; simp
  refine ⟨I.ok, I.os, I.bare, ⟨fun b o e n hb hx => ?_, fun b o e n hb hx => ?_, I.base.free, fun b o e hx => ?_, I.base.tups, I.base.frzs, I.base.tbls⟩, ?_, fun x c e => ?_, I.free, I.freeC, fun p hp => ?_, fun a o e => ?_, I.len⟩
  · exact keep b o (fsub b (neL b o e) hb) (neC b o e) (I.base.keep b o e n hb hx)
  · obtain ⟨sl, e1⟩ := I.base.slot b o e n hb hx
    obtain ⟨sl', e2⟩ := any b _ (neC b o e) e1
    exact ⟨sl', e2⟩
  · obtain ⟨o', e1⟩ := I.base.there b o e hx
    obtain ⟨sl, e2⟩ := any b o' (neC b o e) e1
    exact ⟨_, e2⟩
  · obtain ⟨m, hn, hl⟩ := I.loc
    refine ⟨m, ?_, fun i x v e1 e2 e3 => ?_⟩
    · obtain ⟨o, es, ep, ho, r⟩ := hn
      obtain ⟨sl, q⟩ := any _ o (fun z => (hch _ z).2.2.1 rfl) ho
      exact ⟨_, es, ep, q, r⟩
    · obtain ⟨u, r, l⟩ := hl i x v e1 e2 e3
      refine ⟨u, r, ?_⟩
      rcases l with l | ⟨k, c, e, z⟩
      · exact .inl l
      · exact .inr ⟨k, c, e, cellK x c _ e z⟩
  · obtain ⟨v, z⟩ := I.cell x c e
    exact ⟨v, cellK x c v e z⟩
  · obtain ⟨e, n, ne, nf, d⟩ := I.pin p hp
    exact ⟨keep p.1 p.2 (fsub _ ne nf) (fun z => (hch p.1 z).2.2.2.2 p hp rfl) e, n, ne, nf, d⟩
  · refine (I.hok a o e).stay (fun b u hb q => keep b u ?_ ?_ q) (fun _ q => q) fun _ _ q => q
    · intro z
      have n := I.stkFree b z
      rcases hb with rfl | hb
      · rw [e] at n; cases n
      · rw [hb] at n; cases n
    · intro z
      have n := (hch b z).2.1
      rcases hb with rfl | hb
      · rw [e] at n; cases n
      · rw [hb] at n; cases n
theorem frames_hide {h base B : Heap} : ∀ {l : List Env}, h.FunFrames base l → (∀ b ∈ frs l, B.get? b = none) → h.FunFrames B l
  | [], _, _ => trivial
  | env :: l, hl, hb => by
    obtain ⟨hk, ⟨L, o, hf, hn, ho, hd⟩, hr⟩ := hl
    have hin : ∀ b ∈ frs l, b ∈ frs (env :: l) := fun b hb => by unfold frs at hb ⊢; rw [List.filterMap_cons, hf]; exact List.mem_cons_of_mem _ hb
    exact ⟨hk, ⟨L, o, hf, hb L (by unfold frs; rw [List.filterMap_cons, hf]; exact List.mem_cons_self), ho, hd⟩, frames_hide hr fun b h => hb b (hin b h)⟩
theorem rec_ne {b : Addr} {o : Obj} {vs : Array Value} (I : Inv X pins σ H s) (e : s.heap.get? b = some o) (d : o.data = .fields vs) : b ≠ X.env.locals ∧ (∀ x c, X.env.cells.lookup x = some c → c ≠ b) ∧ b ∉ frs X.stack := by
  refine ⟨fun z => ?_, fun x c hc z => ?_, fun z => ?_⟩
  · obtain ⟨m, ⟨o', es, ep, ho, hd, _⟩, _⟩ := I.loc
    subst z; rw [e] at ho; cases ho; rw [d] at hd; cases hd
  · obtain ⟨v, o', ho, hd⟩ := I.cell x c hc
    subst z; rw [e] at ho; cases ho; rw [d] at hd; cases hd
  · obtain ⟨_, o', ho, hnf⟩ := I.stack.mem z
    rw [e] at ho; cases ho; exact hnf vs d
theorem note_first {M : Model} {A : Around} {E : Value → Shared → Prop} {base : Heap} {env : Env} {outer : List Env} {L e : Addr} {oe : Obj} {vs : Array Value} {Q : Unit → Shared → Prop}
    (fr : A.frames = some (env :: outer)) (ff : s.heap.FunFrames base (env :: outer)) (hf : env.frame = some L) (ge : s.heap.get? e = some oe) (sub : base.StaysIn s.heap) (new : base.get? e = none) (dat : oe.data = .fields vs) (h1 : vs[1]? = some .none)
    (q : ∀ h', Heap.Left base (env :: outer) e oe.cls s.heap h' → Q () { s with heap := h' }) : wpAny M A (noteFrame (.ref e) env) (fun _ s' => wpAny M A (setFlight (.ref e) none) Q E s') E s := by
  have lt := (Array.getElem?_eq_some_iff.mp h1).1
  unfold noteFrame
  rw [hf]
  wp_walk using wpAny_newEntry fr ff hf ge sub new dat lt, wpAny_field ge dat h1
  exact q
theorem note_next {M : Model} {A : Around} {E : Value → Shared → Prop} {base : Heap} {env : Env} {outer : List Env} {L e T : Addr} {oe oT : Obj} {vs ts : Array Value} {Q : Unit → Shared → Prop}
    (fr : A.frames = some (env :: outer)) (ff : s.heap.FunFrames base (env :: outer)) (hf : env.frame = some L) (ge : s.heap.get? e = some oe) (sub : base.StaysIn s.heap) (new : base.get? e = none) (dat : oe.data = .fields vs) (h1 : vs[1]? = some (.ref T))
    (newT : base.get? T = none) (two : T ≠ e) (gT : s.heap.get? T = some oT) (datT : oT.data = .fields ts) (h3 : ts[3]? = some .none)
    (q : ∀ h', Heap.Left base (env :: outer) e oe.cls s.heap h' → Q () { s with heap := h' }) : wpAny M A (noteFrame (.ref e) env) (fun _ s' => wpAny M A (setFlight (.ref e) none) Q E s') E s := by
  have lt := (Array.getElem?_eq_some_iff.mp h1).1
  have lt3 := (Array.getElem?_eq_some_iff.mp h3).1
  let t : Shared := { s with heap := s.heap.update T (Obj.mapFields (·.setIfInBounds 3 Value.none)) }
  have rest : ∀ b, b ≠ T → t.heap.get? b = s.heap.get? b := fun b n => Heap.get?_update_other _ _ (Ne.symm n)
  have other : ∀ {b : Addr} {o : Obj}, s.heap.get? b = some o → (∀ vs, o.data ≠ .fields vs) → t.heap.get? b = some o := fun {b o} g no => (rest b fun z => by subst z; exact no ts (Option.some.inj (gT.symm.trans g) ▸ datT)).trans g
  have ff' : t.heap.FunFrames base (env :: outer) := ff.of_keeps fun b o g no => ⟨o, other g no, rfl⟩
  have ge' : t.heap.get? e = some oe := (rest e (Ne.symm two)).trans ge
  have sub' : base.StaysIn t.heap := fun b o g => (rest b fun z => by subst z; exact absurd (newT.symm.trans g) nofun).trans (sub b o g)
  unfold noteFrame
  rw [hf]
  wp_walk using wpAny_newEntry (s := t) fr ff' hf ge' sub' new dat lt, wpAny_field ge dat h1, wpAny_field gT datT h3, wpAny_setField gT datT lt3
  exact fun h' ⟨x1, x2, x3, x4⟩ => q h' ⟨x1, x2, x3, fun b o g no => x4 b o (other g no) no⟩
theorem air_note {A : Around} {e : Addr} {C : Value} (I : Inv X pins σ H s) (a : Air (New X pins) H s.heap e C) (fr : A.frames = some (X.env :: X.outer)) (hs : X.stack = X.env :: X.outer) (hf : X.env.frame = some X.env.locals) (hex : X.ex = []) {Q : Unit → Shared → Prop} {E : Value → Shared → Prop}
    (k : ∀ h', Inv X pins σ H { s with heap := h' } → Air (New X pins) H h' e C → Q () { s with heap := h' }) : wpAny (model X.prog X.w) A (noteFrame (.ref e) X.env) (fun _ s' => wpAny (model X.prog X.w) A (setFlight (.ref e) none) Q E s') E s := by
  obtain ⟨oe, vs, he, hC, hd, h1⟩ := a.ex
  obtain ⟨neE1, neE2, neE3⟩ := rec_ne I he hd
  -- what may change: e and its newest entry
  have core : ∀ (ch : List Addr), e ∈ ch → (∀ b ∈ ch, New X pins b ∧ H b = none ∧ ∃ o vs, s.heap.get? b = some o ∧ o.data = .fields vs) →
      ∀ h', Heap.Left (PySem.W.hideAll s.heap (frs X.stack ++ ch)) (X.env :: X.outer) e oe.cls s.heap h' → Q () { s with heap := h' } := fun ch hec hch h' ⟨x1, _, x3, x4⟩ => by
    have I' : Inv X pins σ H { s with heap := h' } := by
      refine Inv.passed (ch := ch) I (fun b hb => ?_) (fun b o hb hc q => x1 b o (PySem.W.hideAll_get _ q fun z => (List.mem_append.mp z).elim hb hc)) (fun b o hb q => ?_) hex
      · obtain ⟨n, f, o, ws, q, d⟩ := hch b hb
        obtain ⟨y1, y2, _⟩ := rec_ne I q d
        exact ⟨n.1 (by rw [hex]; simp), f, y1, y2, n.2⟩
      · obtain ⟨_, o', ho, hnf⟩ := I.stack.mem hb
        rw [q] at ho; cases ho
        exact x4 b o q hnf
    refine k h' I' ⟨a.n, a.f, ?_⟩
    obtain ⟨oe', vs', T, oT, ts, y1, y2, y3, y4, y5, y6, y7, y8, y9⟩ := x3
    refine ⟨oe', vs', y1, y2.trans hC, y3, .inr ⟨T, oT, ts, y4, ?_, ?_, y6, y7, y8, y9⟩⟩
    · cases q : s.heap.get? T with
      | some o =>
        by_cases hT : T ∈ frs X.stack ++ ch
        · rcases List.mem_append.mp hT with z | z
          · obtain ⟨_, o', ho, hnf⟩ := I'.stack.mem z
            have ho' : h'.get? T = some o' := ho
            rw [y7] at ho'; cases ho'
            exact absurd y8 (hnf ts)
          · exact (hch T z).1
        · rw [PySem.W.hideAll_get _ q hT] at y5; cases y5
      | none =>
        refine ⟨fun _ => ?_, fun p hp z => ?_⟩
        · cases q' : X.s₀.heap.get? T with
          | none => rfl
          | some o =>
            obtain ⟨o', z⟩ := I.base.there T o q' (by rw [hex]; simp)
            rw [q] at z; cases z
        · have := (I.pin p hp).1
          rw [z, q] at this; cases this
    · cases q : H T with
      | none => rfl
      | some o =>
        obtain ⟨ob, z⟩ : ∃ ob, s.heap.get? T = some ob := by
          have hlt := I.hok.lt q
          cases z : s.heap.get? T with
          | some ob => exact ⟨ob, rfl⟩
          | none =>
            -- a tracked thing is there
            obtain ⟨ob, z'⟩ : ∃ ob, ({ s with heap := h' } : Shared).heap.get? T = some ob := ⟨oT, y7⟩
            exact absurd z (by
              have hok := I.hok T o q
              intro z
              cases o with
              | lst xs => obtain ⟨_, its, n, _, e⟩ := hok; rw [z] at e; cases e
              | tup xs => obtain ⟨_, its, _, ob, e, _⟩ := hok; rw [z] at e; cases e
              | dK kvs => obtain ⟨_, _, _, _, ob, _, _, e, _⟩ := hok; rw [z] at e; cases e
              | dT kvs => obtain ⟨_, _, _, _, ob, _, _, e, _⟩ := hok; rw [z] at e; cases e
              | set S n => obtain ⟨ob, _, _, _, e, _⟩ := hok; rw [z] at e; cases e
              | ins C dx fs => obtain ⟨_, _, _, e, _⟩ := hok; rw [z] at e; cases e
              | own y => obtain ⟨ob, e⟩ := hok; rw [z] at e; cases e
              | xd fs => obtain ⟨mA, ⟨od, _, _, e, _⟩, _⟩ := hok; rw [z] at e; cases e
              | rng lo hi => obtain ⟨_, _, _, e⟩ := hok; rw [z] at e; cases e
              | frz ob u => obtain ⟨e, _⟩ := hok; rw [z] at e; cases e
              | tbl ps => have e : s.heap.get? T = some { cls := .none, data := .fields ps } := hok; rw [z] at e; cases e
              | met f y => have e : s.heap.get? T = some (PySem.W.methodObj (.ref f) (.ref y)) := hok; rw [z] at e; cases e
              | ext φ => obtain ⟨_, ⟨ob, e⟩, _⟩ := hok; rw [z] at e; cases e)
        have hT : T ∉ frs X.stack ++ ch := fun hT => by
          rcases List.mem_append.mp hT with z | z
          · rw [I.stkFree T z] at q; cases q
          · rw [(hch T z).2.1] at q; cases q
        rw [PySem.W.hideAll_get _ z hT] at y5; cases y5
  have fl : ∀ ch : List Addr, s.heap.FunFrames (PySem.W.hideAll s.heap (frs X.stack ++ ch)) (X.env :: X.outer) := fun ch => by
    rw [← hs]
    exact frames_hide I.stack fun b hb => PySem.W.hideAll_none _ (List.mem_append_left _ hb)
  have st : ∀ ch : List Addr, (PySem.W.hideAll s.heap (frs X.stack ++ ch)).StaysIn s.heap := fun ch b o q => PySem.W.of_hideAll _ q
  rcases h1 with h1 | ⟨T, oT, ts, h1, nT, fT, hTe, hT, hdT, h3⟩
  · refine note_first (base := PySem.W.hideAll s.heap (frs X.stack ++ [e])) fr (fl _) hf he (st _) (PySem.W.hideAll_none _ (by simp)) hd h1 (core [e] (by simp) fun b hb => ?_)
    have : b = e := by simpa using hb
    subst this
    exact ⟨a.n, a.f, oe, vs, he, hd⟩
  · refine note_next (base := PySem.W.hideAll s.heap (frs X.stack ++ [e, T])) fr (fl _) hf he (st _) (PySem.W.hideAll_none _ (by simp)) hd h1 (PySem.W.hideAll_none _ (by simp)) hTe hT hdT h3 (core [e, T] (by simp) fun b hb => ?_)
    have : b = e ∨ b = T := by simpa using hb
    rcases this with rfl | rfl
    · exact ⟨a.n, a.f, oe, vs, he, hd⟩
    · exact ⟨nT, fT, oT, ts, hT, hdT⟩
theorem air_leave {e : Addr} {C : Value} (I : Inv X pins σ H s) (a : Air (New X pins) H s.heap e C) (hs : X.stack = X.env :: X.outer) (hf : X.env.frame = some X.env.locals) (hex : X.ex = []) {Q : Unit → Shared → Prop} {E : Value → Shared → Prop}
    (k : ∀ h', Inv X pins σ H { s with heap := h' } → Air (New X pins) H h' e C → Q () { s with heap := h' }) : wpAny (model X.prog X.w) X.A (leaving X.env (.ref e)) Q E s := by
  unfold leaving
  exact wpAny_bind (air_note I a (by rw [← hs]; exact I.ok.frames) hs hf hex k)
theorem air_flight {A : Around} {e : Addr} {C : Value} (I : Inv X pins σ H s) (a : Air (New X pins) H s.heap e C) (hex : X.ex = []) {Q : Unit → Shared → Prop} {E : Value → Shared → Prop}
    (k : ∀ h', Inv X pins σ H { s with heap := h' } → Air (New X pins) H h' e C → Q () { s with heap := h' }) : wpAny (model X.prog X.w) A (setFlight (.ref e) none) Q E s := by
  obtain ⟨oe, vs, he, hC, hd, h1⟩ := a.ex
  rcases h1 with h1 | ⟨T, oT, ts, h1, nT, fT, hTe, hT, hdT, h3⟩
  · unfold setFlight
    refine wpAny_bind (wpAny_field he hd h1 ?_)
    rw [if_neg (by decide)]
    exact wpAny_pure (k s.heap I a)
  · obtain ⟨y1, y2, y3⟩ := rec_ne I hT hdT
    have away : ∀ b, b ≠ T → (s.heap.update T (Obj.mapFields (·.setIfInBounds 3 Value.none))).get? b = s.heap.get? b := fun b hb => Heap.get?_update_other _ _ (Ne.symm hb)
    refine wpAny_setFlight_none he hd h1 hT hdT (Array.getElem?_eq_some_iff.mp h3).1 (k _ ?_ ⟨a.n, a.f, oe, vs, (away e (Ne.symm hTe)).trans he, hC, hd, .inr ⟨T, _, _, h1, nT, fT, hTe, Heap.get?_update_self _ hT (Obj.isFreed_of_fields (Obj.data_mapFields hdT _)), Obj.data_mapFields hdT _, ?_⟩⟩)
    · refine Inv.passed (ch := [T]) I (fun b hb => ?_) (fun b o _ hc q => ?_) (fun b o hb q => ?_) hex
      · have : b = T := by simpa using hb
        subst this
        exact ⟨nT.1 (by rw [hex]; simp), fT, y1, y2, nT.2⟩
      · exact (away b fun z => hc (by simp [z])).trans q
      · exact ⟨o.slots, (away b fun z => y3 (by rw [← z]; exact hb)).trans q⟩
    · have := (Array.getElem?_eq_some_iff.mp h3).1
      simp [this]
end
end L4


namespace L4
open PySem PySem.Spec PyProof.Rows L2
/-! ### calls of the text's own defs -/
structure ArgOk (K : PySem.W.Frag) (G H : Hp) (ms : List Nat) (vs : List V) (ds : List D) : Prop where
  len : vs.length = ds.length
  val : ∀ i d, i ∉ ms → ds[i]? = some d → ∃ v, vs[i]? = some v ∧ Rep K G v d
  lent : ∀ i, i ∈ ms → ∃ p d, vs[i]? = some (.ref p) ∧ ds[i]? = some d ∧ G p = none ∧ OwnAt K G H p d
  sep : ∀ i j p, i ∈ ms → j ∈ ms → vs[i]? = some (.ref p) → vs[j]? = some (.ref p) → i = j
noncomputable def Lent (vs : List V) (ms : List Nat) (p : Addr) : Prop := ∃ i, i ∈ ms ∧ vs[i]? = some (V.ref p)
structure GrM (L : Addr → Prop) (G H G' H' : Hp) : Prop where
  gh : Same G' H'
  hs : ∀ b o, H b = some o → ¬ L b → H' b = some o
  hd : ∀ b, H b ≠ none → H' b ≠ none
  gg : Same G G'
  fr : ∀ b, H b ≠ none → G b = none → ¬ L b → G' b = none
structure OutsOk (K : PySem.W.Frag) (G H : Hp) (vs : List V) (ms : List Nat) (outs : List D) : Prop where
  len : outs.length = ms.length
  at' : ∀ (k i : Nat) (d : D), ms[k]? = some i → outs[k]? = some d → ∃ p, vs[i]? = some (.ref p) ∧ G p = none ∧ OwnAt K G H p d
noncomputable def CXA (P : Program) (w : World) : CXT := fun outer H s E e s' => ∃ a C H', e = .ref a ∧ s'.os = s.os ∧ AllBare s'.gens ∧ Un (frs outer) [] H H' s.heap s'.heap ∧ HOk P w H' s'.heap ∧ Air (fun b => s.heap.get? b = none) H' s'.heap a C ∧ E C none H'
theorem passA {X : Cx} {pins : List (Addr × Obj)} {σ : L2.St} {H : Hp} {s s' : Shared} {e : Value} (I : Inv X pins σ H s) (h : CXA X.prog X.w X.stack H s (EX X σ) e s') : X.xe e s' := by
  obtain ⟨a, C, H', rfl, os, bare, un, hok, air, q⟩ := h
  have hN : ∀ b, s.heap.get? b = none → New X pins b := fun b hb => by
    refine ⟨fun hx => ?_, fun p hp z => ?_⟩
    · cases q' : X.s₀.heap.get? b with
      | none => rfl
      | some o =>
        obtain ⟨o', z⟩ := I.base.there b o q' hx
        rw [hb] at z; cases z
    · have := (I.pin p hp).1
      rw [z, hb] at this; cases this
  refine q pins a s' (I.call' os un hok bare fun b z => absurd z (by simp)) ⟨hN _ air.n, air.f, ?_⟩
  obtain ⟨oe, vs, e1, e2, e3, e4⟩ := air.ex
  refine ⟨oe, vs, e1, e2, e3, ?_⟩
  rcases e4 with e4 | ⟨T, oT, ts, y1, y2, y3⟩
  · exact .inl e4
  · exact .inr ⟨T, oT, ts, y1, hN _ y2, y3⟩
noncomputable def spM (K : PySem.W.Frag) (ms : List Nat) (F : Fn) : Sp := fun vs H Q E => ∃ (G : Hp) (ds : List D) (q : Except XD Sl) (outs : List D), Same G H ∧ ArgOk K G H ms vs ds ∧ F ds = some (q, outs) ∧
  match q with
  | .ok s => ∀ v G' H', GrM (Lent vs ms) G H G' H' → OutsOk K G' H' vs ms outs → RepR K H G' H' v s → Q v H'
  | .error x => ∀ C G' H', GrM (Lent vs ms) G H G' H' → OutsOk K G' H' vs ms outs → ExN K x.c C → x.fs = [] → E C none H'
noncomputable def fCall (F : Fn) (r : FL) : FE := fun δ => (r δ).bind fun ds δ => match F ds with | some (q, []) => some (q, δ) | _ => none
theorem StOk.gr0 {K : PySem.W.Frag} {M : Nat → Option Addr} {L : Addr → Prop} {G0 H0 G H G' H' : Hp} {σ : L2.St} {δ : DEnv} (S : StOk K M G0 H0 G H σ δ) (g : GrM L G H G' H') (nl : ∀ p, ¬ L p) : StOk K M G0 H0 G' H' σ δ ∧ Gr G H σ δ G' H' δ := by
  have hh : Same H H' := fun b o e => g.hs b o e (nl b)
  refine ⟨⟨g.gh, ⟨S.env.len, fun i s e => ?_, S.env.sep⟩, S.h0.trans hh, S.g0.trans g.gg, fun b h n => ?_, S.own0, S.mt⟩, Gr.of hh g.gg (fun b h n _ => g.fr b h n (nl b)) fun _ z => z⟩
  · obtain ⟨v, e1, r⟩ := S.env.at' i s e
    refine ⟨v, e1, ?_⟩
    have key : ∀ d, (∃ q, v = .ref q ∧ G q = none ∧ OwnAt K G H q d) → ∃ q, v = .ref q ∧ G' q = none ∧ OwnAt K G' H' q d := fun d ⟨q, e2, e4, rr⟩ => by
      obtain ⟨o, e3⟩ := rr.some
      exact ⟨q, e2, g.fr q (by rw [e3]; simp) e4 (nl q), rr.keep (by rw [hh _ _ e3, e3]) g.gg⟩
    cases s with
    | val d => exact Rep.mono g.gg r
    | own d => exact key d r
    | lnt d => exact key d r
  · exact g.fr b (same_ne S.h0 h) (S.fr b h n) (nl b)
theorem ArgOk.of {K : PySem.W.Frag} {G H : Hp} {vs : List V} {ds : List D} (r : RepL K G vs ds) : ArgOk K G H [] vs ds := ⟨r.len, fun i d _ e => r.at e, fun i z => (by simp at z), fun i j p z => (by simp at z)⟩
section
variable {X : Cx} {t : TA} {fl : FL}
noncomputable def tCallX (X : Cx) (sp : Sp) (t : TA) : TE := fun σ H Q => t σ H fun vs H1 => sp vs H1 Q (EX X σ)
theorem snd_call {F : Fn} (ha : SndL X t fl) : SndE X (tCallX X (spM X.K [] F) t) (fCall F fl) := by
  intro M G0 H0 G H σ δ q δ' Q S e k
  rcases Rs.inv e with ⟨s1, δ1, e1, e⟩ | ⟨x, e1, rfl⟩
  · refine ha M G0 H0 G H σ δ (.ok s1) δ1 _ S e1 fun vs G1 H1 S1 g1 r1 => ?_
    split at e
    · rename_i q' e3
      cases e
      refine ⟨G1, s1, q, [], S1.gh, .of r1, e3, ?_⟩
      cases q with
      | ok s =>
        intro v G2 H2 g2 _ r2
        obtain ⟨S3, g3⟩ := S1.gr0 g2 fun p ⟨i, z, _⟩ => (by simp at z)
        exact k v G2 H2 S3 (g1.trans g3) (r2.back g1)
      | error x =>
        intro C G2 H2 g2 _ hc hx
        obtain ⟨S3, g3⟩ := S1.gr0 g2 fun p ⟨i, z, _⟩ => (by simp at z)
        exact k C none G2 H2 S3 (g1.trans g3) ⟨hc, hx, rfl⟩
    · cases e
  · exact ha M G0 H0 G H σ δ _ _ _ S e1 k
end
/-! some arguments are lent -/
inductive Ar where
  | v (d : D) | s (i : Nat)
abbrev FA := DEnv → Rs (List Ar)
noncomputable def RepAs (K : PySem.W.Frag) (G : Hp) (σ : L2.St) : List V → List Ar → Prop := Paired fun v a => match a with | .v d => Rep K G v d | .s i => σ[i]? = some (some v)
section
variable {K : PySem.W.Frag} {M : Nat → Option Addr} {G H : Hp} {σ : L2.St} {δ : DEnv}
theorem RepAs.len {vs : List V} {as : List Ar} (r : RepAs K G σ vs as) : vs.length = as.length := Paired.length r
theorem RepAs.at : ∀ {vs : List V} {as : List Ar} {m : Nat} {a : Ar}, RepAs K G σ vs as → as[m]? = some a → ∃ v, vs[m]? = some v ∧ match a with | .v d => Rep K G v d | .s i => σ[i]? = some (some v)
  | _, _, _, _, .nil, e => by simp at e
  | _, _, 0, _, .cons h _, e => by simp at e; subst e; exact ⟨_, rfl, h⟩
  | _, _, m + 1, a, .cons _ r, e => by
    obtain ⟨v, h1, h2⟩ := RepAs.at (m := m) (a := a) r (by simpa using e)
    exact ⟨v, by simpa using h1, h2⟩
end
section
variable {X : Cx} {t : TA} {fa : FA} {ta : TE} {f1 : FE}
theorem RepAs.mono {K : PySem.W.Frag} {G G' : Hp} {σ : L2.St} (h : Same G G') : ∀ {vs : List V} {as : List Ar}, RepAs K G σ vs as → RepAs K G' σ vs as
  | _, _, .nil => .nil
  | _, _, .cons (b := .v d) q r => .cons (Rep.mono h q) (RepAs.mono h r)
  | _, _, .cons (b := .s i) q r => .cons q (RepAs.mono h r)
end
section
variable {X : Cx} {k : Nat} {f : Addr} {fd : FuncData} {ps : List Str} {sp : Sp} {x : Str} {p pos : Pos} {e : Expr} {es : List Expr} {t : TA}
theorem run_fnX {pins : List (Addr × Obj)} {σ : L2.St} {H : Hp} {s : Shared} {Q : VK} {us : List Value} {vs : List V} (F : FnOk X.prog X.w X.K X.mg X.base (CXA X.prog X.w) k f fd ps sp) (hr : Room k X.A) (hb : Binds X.K fd ps [])
    (I : Inv X pins σ H s) (r : Vals vs us) (h : sp vs H Q (EX X σ)) : wpAny (model X.prog X.w) X.A (call (.ref f) us) (EP X pins σ Q) X.xe s := by
  have hl : (us ++ []).length = ps.length := by rw [List.append_nil, ← r.length]; exact F.len _ _ _ _ h
  have hb' := hb s us I.kIn hl
  rw [List.append_nil] at hb'
  refine wpAny_call (codeAny_mono (F.run X.A X.stack s H ⟨us, []⟩ us vs Q (EX X σ) hr I.env0 hb' r h) fun r s' hq => ?_)
  cases r with
  | error e => exact passA I hq
  | ok fl =>
    cases fl with
    | ret u => exact I.after hq
    | next => exact False.elim hq
    | brk => exact False.elim hq
    | cont => exact False.elim hq
theorem pe_callX (F : FnOk X.prog X.w X.K X.mg X.base (CXA X.prog X.w) k f fd ps sp) (hr : Room k X.A) (hg : Gl X x) (hm : X.mg x = some (.ref f)) (hk : PySem.W.keepIn X.K (.ref f) = true) (hb : Binds X.K fd ps [])
    (ha : PA X (e :: es) t) (hdb : (x == ("__debug__" : Str)) = false := by decide) (he : starEach (e :: es) X.env = (false, eval e X.env) :: starEach es X.env := by rfl) (hpl : (backTo pos (starEach es X.env)).any (·.1) = false := by rfl) :
    PE X (.Call (.Name x p) (e :: es) [] pos) (tCallX X sp t) := by
  intro pins s σ H Q I h
  refine wpAny_Call_Name_kw (ld_glob I hg hm ?_ hdb)
  refine PySem.W.callWith_K (h₀ := X.base) I.ok.mod.kin hk (thn (ha pos pins s σ H _ I h) fun us s1 ⟨vs, H1, I1, r, q⟩ => ⟨I1.kIn, ?_⟩) he hpl
  exact run_fnX F hr hb I1 r q
end
/-! ### defs -/
structure FnD (P : Program) (w : World) (K : PySem.W.Frag) (mg : Str → Option Value) (base : Heap) (x : Str) (k : Nat) (ps : List Str) (ms : List Nat) (F : Fn) : Prop where
  ex : ∃ f fd, mg x = some (.ref f) ∧ PySem.W.keepIn K (.ref f) = true ∧ Binds K fd ps [] ∧ FnOk P w K mg base (CXA P w) k f fd ps (spM K ms F)
section
variable {X : Cx} {e : Expr} {es : List Expr} {fl : FL} {fa : FA} {pos p : Pos} {x : Str} {k : Nat} {ps : List Str} {ms : List Nat} {F : Fn}
theorem de_call (G : FnD X.prog X.w X.K X.mg X.base x k ps [] F) (hr : Room k X.A) (hg : Gl X x) (ha : DA X (e :: es) fl) (hdb : (x == ("__debug__" : Str)) = false := by decide)
    (he : starEach (e :: es) X.env = (false, eval e X.env) :: starEach es X.env := by rfl) (hpl : (backTo pos (starEach es X.env)).any (·.1) = false := by rfl) : DE X (.Call (.Name x p) (e :: es) [] pos) (fCall F fl) :=
  let ⟨_, _, hm, hk, hb, ok⟩ := G.ex; let ⟨_, a1, a2⟩ := ha; ⟨_, pe_callX ok hr hg hm hk hb a1 hdb he hpl, snd_call a2⟩
end
section
variable {P : Program} {w : World} {K : PySem.W.Frag} {mg : Str → Option Value} {base : Heap}
theorem argSs_at (ms : List Nat) : ∀ (ds : List D) (k i : Nat) (s : Sl), (argSs ms k ds)[i]? = some s → ∃ d, ds[i]? = some d ∧ s = argS ms (k + i) d
  | [], k, i, s, e => by simp [argSs] at e
  | d :: ds, k, 0, s, e => by simp [argSs] at e; exact ⟨d, by simp, by rw [← e]; rfl⟩
  | d :: ds, k, i + 1, s, e => by
    obtain ⟨d', h1, h2⟩ := argSs_at ms ds (k + 1) i s (by simpa [argSs] using e)
    exact ⟨d', by simpa using h1, by rw [h2]; congr 1; omega⟩
theorem argSs_len (ms : List Nat) : ∀ (ds : List D) (k : Nat), (argSs ms k ds).length = ds.length
  | [], k => rfl
  | d :: ds, k => by simp [argSs, argSs_len ms ds]
theorem startD_at {n : Nat} {ms : List Nat} {ds : List D} {i : Nat} {s : Sl} (e : (startD n ms ds)[i]? = some (some s)) : ∃ d, ds[i]? = some d ∧ s = argS ms i d := by
  unfold startD at e
  by_cases hi : i < ds.length
  · rw [List.getElem?_append_left (by simpa [argSs_len] using hi), List.getElem?_map] at e
    cases q : (argSs ms 0 ds)[i]? with
    | none => rw [q] at e; cases e
    | some s' =>
      rw [q] at e; cases e
      obtain ⟨d, h1, h2⟩ := argSs_at ms ds 0 i _ q
      exact ⟨d, h1, by rw [h2, Nat.zero_add]⟩
  · rw [List.getElem?_append_right (by simpa [argSs_len] using hi)] at e
    rw [List.getElem?_replicate] at e
    split at e <;> cases e
noncomputable def lessL (L : Addr → Prop) (H : Hp) : Hp := open Classical in fun b => if L b then none else H b
theorem lessL_no {L : Addr → Prop} {H : Hp} {b : Addr} (h : ¬ L b) : lessL L H b = H b := by unfold lessL; rw [if_neg h]
theorem lessL_yes {L : Addr → Prop} {H : Hp} {b : Addr} (h : L b) : lessL L H b = none := by unfold lessL; rw [if_pos h]
noncomputable def lentM (vs : List V) (ms : List Nat) (i : Nat) : Option Addr := if ms.contains i then (match vs[i]? with | some (.ref p) => some p | _ => none) else none
theorem argS_isO {ms : List Nat} {i : Nat} {d : D} (h : (argS ms i d).isO = true) : i ∈ ms ∧ argS ms i d = .lnt d := by
  unfold argS at h ⊢
  split
  · rename_i hm; exact ⟨by simpa using hm, rfl⟩
  · rename_i hm; rw [if_neg hm] at h; cases h
theorem start_at {N : List Str} {vs : List V} {i : Nat} {v : V} (h : vs[i]? = some v) : (L2.start N vs)[i]? = some (some v) := by
  have hv : i < vs.length := (List.getElem?_eq_some_iff.mp h).1
  unfold L2.start
  rw [List.getElem?_append_left (by simpa using hv), List.getElem?_map, h]
  rfl
theorem start_ok {G H : Hp} {N : List Str} {ms : List Nat} {vs : List V} {ds : List D} (hs : Same G H) (r : ArgOk K G H ms vs ds) :
    StOk K (lentM vs ms) G (lessL (Lent vs ms) H) G H (L2.start N vs) (startD N.length ms ds) := by
  have hl := r.len
  have lent : ∀ i s, (startD N.length ms ds)[i]? = some (some s) → s.isO = true → ∃ p d, i ∈ ms ∧ vs[i]? = some (.ref p) ∧ ds[i]? = some d ∧ s = .lnt d ∧ G p = none ∧ OwnAt K G H p d := fun i s e os => by
    obtain ⟨d, h1, rfl⟩ := startD_at e
    obtain ⟨hm, h2⟩ := argS_isO os
    obtain ⟨p, d', h3, h4, h5, h6⟩ := r.lent i hm
    rw [h1] at h4; cases h4
    exact ⟨p, d, hm, h3, h1, h2, h5, h6⟩
  refine ⟨hs, ⟨by simp [L2.start, startD, argSs_len, hl], fun i s e => ?_, fun i j p a b z1 z2 oa ob z3 z4 => ?_⟩, fun b o e => ?_, Same.refl _, fun _ _ n => n, fun p ⟨i, s, z1, os, z2⟩ => ?_, fun i d e => ?_⟩
  · by_cases os : s.isO = true
    · obtain ⟨p, d, hm, h3, h1, rfl, h5, h6⟩ := lent i s e os
      exact ⟨_, start_at h3, p, rfl, h5, h6⟩
    · obtain ⟨d, h1, rfl⟩ := startD_at e
      have hm : i ∉ ms := fun hm => os (by unfold argS; rw [if_pos (by simpa using hm)]; rfl)
      obtain ⟨v, h2, h3⟩ := r.val i d hm h1
      refine ⟨v, start_at h2, ?_⟩
      unfold argS
      rw [if_neg (by simpa using hm)]
      exact h3
  · obtain ⟨p1, d1, m1, h1, _⟩ := lent i a z1 oa
    obtain ⟨p2, d2, m2, h2, _⟩ := lent j b z2 ob
    rw [start_at h1] at z3; cases z3
    rw [start_at h2] at z4; cases z4
    exact r.sep i j p m1 m2 h1 h2
  · by_cases hL : Lent vs ms b
    · rw [lessL_yes hL] at e; cases e
    · rw [lessL_no hL] at e; exact e
  · obtain ⟨p1, d1, m1, h1, _⟩ := lent i s z1 os
    rw [start_at h1] at z2; cases z2
    exact lessL_yes ⟨i, m1, h1⟩
  · obtain ⟨p, d1, m1, h1, _⟩ := lent i _ e rfl
    exact ⟨p, by unfold lentM; rw [if_pos (by simpa using m1), h1], start_at h1⟩
theorem outs_at {δ : DEnv} : ∀ {ms : List Nat} {outs : List D}, outsD δ ms = some outs → outs.length = ms.length ∧ ∀ (k i : Nat) (d : D), ms[k]? = some i → outs[k]? = some d → δ[i]? = some (some (.lnt d))
  | [], outs, e => by cases e; exact ⟨rfl, fun k i d e => by simp at e⟩
  | i :: ms, outs, e => by
    unfold outsD at e
    split at e
    · rename_i d hd
      obtain ⟨r, e1, rfl⟩ := Option.map_eq_some_iff.mp e
      obtain ⟨h1, h2⟩ := outs_at e1
      refine ⟨by simp [h1], fun k i d e1 e2 => ?_⟩
      cases k with
      | zero => simp at e1 e2; subst e1 e2; exact hd
      | succ k => exact h2 k i d (by simpa using e1) (by simpa using e2)
    · cases e
theorem end_ok {G H G' H' : Hp} {ms : List Nat} {vs : List V} {outs : List D} {σ : L2.St} {δ : DEnv} {v : V} {s : Sl} (S : StOk K (lentM vs ms) G (lessL (Lent vs ms) H) G' H' σ δ) (ho : outsD δ ms = some outs) (hm : ∀ i, i ∈ ms → ∃ p, vs[i]? = some (.ref p)) (r : RepN K (lessL (Lent vs ms) H) G' H' σ δ v s) :
    GrM (Lent vs ms) G H G' H' ∧ OutsOk K G' H' vs ms outs ∧ RepR K H G' H' v s := by
  obtain ⟨hl, at_⟩ := outs_at ho
  have slot : ∀ i p, i ∈ ms → vs[i]? = some (.ref p) → ∃ d, δ[i]? = some (some (.lnt d)) ∧ σ[i]? = some (some (.ref p)) ∧ G' p = none ∧ OwnAt K G' H' p d := fun i p hi e => by
    obtain ⟨k, hk⟩ := List.getElem?_of_mem hi
    have hko : k < outs.length := by rw [hl]; exact (List.getElem?_eq_some_iff.mp hk).1
    have h1 := at_ k i _ hk (List.getElem?_eq_getElem hko)
    obtain ⟨p', h2, h3⟩ := S.mt i _ h1
    unfold lentM at h2
    rw [if_pos (by simpa using hi), e] at h2
    cases h2
    obtain ⟨v', h4, h5⟩ := S.env.at' i _ h1
    rw [h3] at h4; cases h4
    obtain ⟨q, h6, h7, h8⟩ := h5
    cases h6
    exact ⟨_, h1, h3, h7, h8⟩
  refine ⟨⟨S.gh, fun b o e n => S.h0 b o (by rw [lessL_no n]; exact e), fun b n => ?_, S.g0, fun b h n l => S.fr b (by rw [lessL_no l]; exact h) n⟩, ⟨hl, fun k i d e1 e2 => ?_⟩, r.1, fun o => ?_⟩
  · by_cases hL : Lent vs ms b
    · obtain ⟨i, hi, e⟩ := hL
      obtain ⟨d, _, _, _, h4⟩ := slot i b hi e
      obtain ⟨o, h5⟩ := h4.some
      rw [h5]; simp
    · exact same_ne S.h0 (by rw [lessL_no hL]; exact n)
  · have hi := List.mem_of_getElem? e1
    obtain ⟨p, e⟩ := hm i hi
    obtain ⟨d', h1, _, h3, h4⟩ := slot i p hi e
    rw [at_ k i d e1 e2] at h1; cases h1
    exact ⟨p, e, h3, h4⟩
  · obtain ⟨a, p, e1, e2, e3⟩ := r.2 o
    refine ⟨a, p, e1, ?_⟩
    by_cases hL : Lent vs ms p
    · obtain ⟨i, hi, e⟩ := hL
      obtain ⟨d, h1, h2, _⟩ := slot i p hi e
      exact absurd ⟨i, _, h1, rfl, h2⟩ e3
    · rw [lessL_no hL] at e2; exact e2
theorem fnD_ok {x : Str} {st : Stmt} {f : Addr} {fd : FuncData} {N ps : List Str} {n m k : Nat} {ms : List Nat} {f0 : FS} (F : Fun K x x st f fd) (S : FnScope N ps (defScope st)) (hn : N.length = n) (hm : ps.length = m) 
    (body : ∀ (cdv : Value) (A : Around) (outer : List Env) (s : Shared) (H : Hp) (E : XK), Room k (A.deeper (envOfC x (defScope st) s.heap.objs.size f cdv)) → DB (cxOf (CXA P w) P w K mg base N x (defScope st) f cdv A outer s H E) (defBody st) f0) :
    FnOk P w K mg base (CXA P w) (k + 1) f fd ps (spM K ms (runD n m ms f0)) := by
  have len : ∀ vs H Q E, spM K ms (runD n m ms f0) vs H Q E → vs.length = ps.length := fun vs H Q E h => by
    obtain ⟨G, ds, s, outs, _, r, e, _⟩ := h
    unfold runD at e
    split at e
    · rename_i hl
      rw [r.len, hl, hm]
    · cases e
  obtain ⟨oc, od, kV, doc, pm, an, cdv, ct, osl, rfl, lk, hcd⟩ := F.ex
  refine fn_of lk hcd S len fun A outer s H vs Q E hr h => ?_
  obtain ⟨t, ht, snd⟩ := body cdv A outer s H E hr
  refine ⟨t, ht, ?_⟩
  obtain ⟨G, ds, sl, outs, hs, r, e, q⟩ := h
  unfold runD at e
  split at e
  · have S0 := start_ok (N := N) hs r
    rw [hn] at S0
    have hms : ∀ i, i ∈ ms → ∃ p, vs[i]? = some (.ref p) := fun i hi => let ⟨p, _, h, _⟩ := r.lent i hi; ⟨p, h⟩
    split at e
    · rename_i s' δ' ef
      obtain ⟨o, e1, e2⟩ := Option.map_eq_some_iff.mp e
      cases e2
      refine snd _ _ _ G H _ _ _ _ S0 ef fun v σ' G' H' S' r' => ?_
      obtain ⟨h1, h2, h3⟩ := end_ok S' e1 hms r'
      exact q v G' H' h1 h2 h3
    · rename_i δ' ef
      obtain ⟨o, e1, e2⟩ := Option.map_eq_some_iff.mp e
      cases e2
      refine snd _ _ _ G H _ _ _ _ S0 ef fun σ' G' H' S' => ?_
      obtain ⟨h1, h2, h3⟩ := end_ok (v := .non) (s := .val .non) S' e1 hms ⟨Rep.non, fun z => nomatch z⟩
      exact q .non G' H' h1 h2 h3
    · rename_i x' δ' ef
      obtain ⟨o, e1, e2⟩ := Option.map_eq_some_iff.mp e
      cases e2
      refine snd _ _ _ G H _ _ _ _ S0 ef fun C dx σ' G' H' S' xr => ?_
      obtain ⟨h1, h2, _⟩ := end_ok (v := .non) (s := .val .non) S' e1 hms ⟨Rep.non, fun z => nomatch z⟩
      intro pins a s' I air
      refine air_leave I air rfl rfl rfl fun h' I' air' => ?_
      refine ⟨a, C, H', rfl, I'.os, I'.bare, I'.base, I'.hok, ⟨air'.n.1 (by simp [cxOf]), air'.f, ?_⟩, q C G' H' h1 h2 xr.1 xr.2.1⟩
      obtain ⟨oe, ws, e1, e2, e3, e4⟩ := air'.ex
      refine ⟨oe, ws, e1, e2, e3, ?_⟩
      rcases e4 with e4 | ⟨T, oT, ts, y1, y2, y3⟩
      · exact .inl e4
      · exact .inr ⟨T, oT, ts, y1, y2.1 (by simp [cxOf]), y3⟩
    · cases e
  · cases e
theorem fnD_mk {x : Str} {st : Stmt} {f : Addr} {fd : FuncData} {N ps : List Str} {n m k : Nat} {ms : List Nat} {f0 : FS} (F : Fun K x x st f fd) (S : FnScope N ps (defScope st)) (hn : N.length = n) (hm : ps.length = m) (b : Binds K fd ps []) (hmg : mg x = some (.ref f))
    (body : ∀ (cdv : Value) (A : Around) (outer : List Env) (s : Shared) (H : Hp) (E : XK), Room k (A.deeper (envOfC x (defScope st) s.heap.objs.size f cdv)) → DB (cxOf (CXA P w) P w K mg base N x (defScope st) f cdv A outer s H E) (defBody st) f0) :
    FnD P w K mg base x (k + 1) ps ms (runD n m ms f0) := ⟨f, fd, hmg, F.kp, b, fnD_ok F S hn hm body⟩
structure GlD (K : PySem.W.Frag) (mg : Str → Option Value) (x : Str) (d : D) : Prop where
  ex : ∃ v u, mg x = some u ∧ RelV v u ∧ ∀ G, Rep K G v d
theorem GlD.str {x y : Str} {t : Tok} (h : mg x = some (.str y t)) : GlD K mg x (.str y) := ⟨.str y, _, h, ⟨t, rfl⟩, fun _ => .str y⟩
theorem GlD.int {x : Str} {y : Int} {t : Tok} (h : mg x = some (.int y t)) : GlD K mg x (.int y) := ⟨.int y, _, h, ⟨t, rfl⟩, fun _ => .int y⟩
theorem law_sp {F : Fn} {H : Hp} {a : Addr} {ns : List Int} (h : F [.lst (ns.map D.int)] = some (.ok (.val (.bl true)), [])) (hR : LsK K H a (ns.map V.int)) : spM K [] F [.ref a] H (fun v _ => v = .bl true) fun _ _ _ => False :=
  ⟨H, _, .ok (.val (.bl true)), [], Same.refl _, .of (.cons (.lst hR (RepL.map (fun i => .int i) ns)) .nil), h, fun _ _ _ _ _ r => rep_bl r.1⟩
theorem cxa_no {P : Program} {w : World} {H : Hp} {s s' : Shared} {e : Value} (h : CXA P w [] H s (fun _ _ _ => False) e s') : False := let ⟨_, _, _, _, _, _, _, _, _, q⟩ := h; q
end
end L4


namespace L4
open PySem PySem.Spec PyProof.Rows L2
theorem law_callK {P : Program} {w : World} {K : PySem.W.Frag} {mg mb : Str → Option Value} {CX : CXT} {k : Nat} {fa a : Addr} {fd : FuncData} {x : Str} {sp : Sp} {s₁ : Shared} {vs : List Value} {ns : List Int}
    (KX : K.In s₁.heap) (hns : s₁.heap.Ns mainGlobals mg) (hb : s₁.heap.Ns builtinsNs mb) (hbb : ∀ x : Str, x ≠ "__name__" → mb x = bootBuiltins x) (hlim : s₁.heap.NoLimit) (hg : s₁.gens = #[])
    (ha : s₁.heap.get? a = some { cls := .type "list", data := .seq vs.toArray }) (hi : IntsAre vs ns) (hl : ns.length ≤ sizeLine) (hr : Room k callerA)
    (F : ∀ base : Heap, K.In base → base.Ns mainGlobals mg → FnOk P w K mg base CX k fa fd [x] sp) (hbind : ∀ (s : Shared) (u : Value), BindsTo s fd ⟨[u], []⟩ [(x, u)])
    (hsp : ∀ H : Hp, Only H → LsK K H a (ns.map V.int) → sp [.ref a] H (fun v _ => v = .bl true) fun _ _ _ => False)
    (hCX : ∀ H e s', CX [] H s₁ (fun _ _ _ => False) e s' → False) :
    codeAny (model P w) callerA (.call (.ref fa) ⟨[.ref a], []⟩) (fun r s' => r = .ok (.ret (.bool true)) ∧ OldK s₁.heap s'.heap ∧ s'.os = s₁.os ∧ AllBare s'.gens) s₁ := by
  have rv := vals_ints hi
  have lenV := hi.length
  -- from an abstract heap in which nothing but the script may be tracked
  have core : ∀ H : Hp, Only H → LsK K H a (ns.map V.int) → HOk P w H s₁.heap → (∀ b, H b ≠ none → b = a) → (H a ≠ none → K.lookup a = none) →
      codeAny (model P w) callerA (.call (.ref fa) ⟨[.ref a], []⟩) (fun r s' => r = .ok (.ret (.bool true)) ∧ OldK s₁.heap s'.heap ∧ s'.os = s₁.os ∧ AllBare s'.gens) s₁ := by
    intro H hO hS hok hA hK
    have base_of : ∀ {b : Addr} {o : Obj}, s₁.heap.get? b = some o → H b = none → (hidT s₁.heap H).get? b = some o := fun e n => hidT_get e n
    have noA : ∀ {b : Addr} {o : Obj} {es : Array DictEntry} {ep : Nat}, s₁.heap.get? b = some o → o.data = .dict es ep → H b = none := fun {b o es ep} e d => by
      cases q : H b with
      | none => rfl
      | some u =>
        have e' : b = a := hA b (by rw [q]; simp)
        subst e'
        rw [ha] at e; cases e
        have d' : Data.seq vs.toArray _ = Data.dict es ep := d
        cases d'
    have nsK : ∀ {b : Addr} {m : Str → Option Value}, s₁.heap.Ns b m → (hidT s₁.heap H).Ns b m := fun {b m} ⟨o, es, ep, e, d, r⟩ => ⟨o, es, ep, base_of e (noA e d), d, r⟩
    have hKb : K.In (hidT s₁.heap H) := fun b o e => base_of (KX b o e) (by
      cases q : H b with
      | none => rfl
      | some u =>
        have e' : b = a := hA b (by rw [q]; simp)
        subst e'
        rw [hK (by rw [q]; simp)] at e; cases e)
    have hM : Mod K mg (hidT s₁.heap H) := ⟨hKb, nsK hns, ⟨mb, nsK hb, hbb⟩, let ⟨mc, h1, h2⟩ := hlim; ⟨mc, nsK h1, h2⟩⟩
    have e0 : Env0 P w K mg (hidT s₁.heap H) callerA [] s₁ H := ⟨rfl, hM, fun b o e => of_hidT e, Nat.le_of_eq (hidT_size _ _), trivial, fun b hb => absurd (show b ∈ ([] : List Addr) from hb) (by simp), hok, .of_eq hg⟩
    refine codeAny_mono ((F _ hKb (nsK hns)).run callerA [] s₁ H ⟨[.ref a], []⟩ [.ref a] [.ref a] _ _ hr e0 (hbind s₁ (.ref a)) (.cons rfl .nil) (hsp H hO hS)) fun r s' h => ?_
    cases r with
    | error e => exact (hCX H e s' h).elim
    | ok fl =>
      cases fl with
      | next => exact False.elim h
      | brk => exact False.elim h
      | cont => exact False.elim h
      | ret u =>
        obtain ⟨v, H', os, bare, un, hok', r', q⟩ := h
        have q' : v = .bl true := q
        subst q'
        obtain rfl : u = Value.bool true := r'
        refine ⟨rfl, OldK.of_keep fun b o e => ?_, os, bare⟩
        cases q : H b with
        | none => exact un.keep b o e q (by intro z; exact absurd (show b ∈ ([] : List Addr) from z) (by simp)) (by simp)
        | some u =>
          rcases hO b with z | ⟨ob, xs, z⟩
          · rw [q] at z; cases z
          · have z2 := un.frzs b ob _ z
            obtain ⟨e1, _⟩ := hok b _ z
            obtain ⟨e2, _⟩ := hok' b _ z2
            rw [e] at e1; cases e1
            exact e2
  cases hk : K.lookup a with
  | some o =>
    -- the script is one of the module's own objects
    have e := KX a o hk
    rw [ha] at e
    cases e
    refine core (fun _ => none) (fun _ => .inl rfl) (.inr ⟨vs.toArray, _, hk, by rw [List.size_toArray, lenV]; exact hl, by simpa using rv⟩) (fun b u z => by have z' : (none : Option HO) = some u := z; cases z') (fun b z => absurd rfl z) fun z => absurd rfl z
  | none =>
    refine core (fun b => if b = a then some (.frz { cls := .type "list", data := .seq vs.toArray } (.lst (ns.map V.int))) else none) (fun b => ?_) (.inl (.inr ⟨{ cls := .type "list", data := .seq vs.toArray }, if_pos rfl⟩)) (fun b u z => ?_) (fun b z => ?_) fun _ => hk
    · by_cases hb : b = a
      · exact .inr ⟨_, _, if_pos hb⟩
      · exact .inl (if_neg hb)
    · by_cases hb : b = a
      · have z' := (if_pos hb).symm.trans z
        cases z'
        subst hb
        exact ⟨ha, by rw [List.length_map]; exact hl, vs, _, rv, ha⟩
      · have z' := (if_neg hb).symm.trans z
        cases z'
    · by_cases hb : b = a
      · exact hb
      · exact absurd (if_neg hb) z
theorem walk_ofL {l : PySem.W.OpenLaw} {n k : Nat} {q : Program} {loose : List Str} {XP : (Str → Option Value) → Heap → Prop} {YP : World → Heap → Prop} {d : DefRec} {K : Params → PySem.W.Frag} {CX : World → CXT} {sp : World → Sp} {x : Str}
    (hn : l.most = some n) (hn2 : n ≤ sizeLine) (hdf : d.params.defaults = []) (hr : Room k callerA)
    (hY : ∀ (w : World) (h : Heap), YP w h → (K w.params).In h)
    (F : ∀ (w : World) (mg : Str → Option Value) (fa : Addr) (h : Heap), (K w.params).In h → h.Ns mainGlobals mg → mg d.name = some (.ref fa) →
      ∃ fd : FuncData, (∀ (s : Shared) (u : Value), BindsTo s fd ⟨[u], []⟩ [(x, u)]) ∧
        ∀ base : Heap, (K w.params).In base → base.Ns mainGlobals mg → FnOk l.prog w (K w.params) mg base (CX w) k fa fd [x] (sp w))
    (hsp : ∀ (w : World) (H : Hp) (a : Addr) (ns : List Int), ns.length ≤ n → Only H → LsK (K w.params) H a (ns.map V.int) → sp w [.ref a] H (fun v _ => v = .bl true) fun _ _ _ => False)
    (hCX : ∀ (w : World) (H : Hp) (s : Shared) (e : Value) (s' : Shared), CX w [] H s (fun _ _ _ => False) e s' → False) :
    PySem.W.WalkO q loose XP YP l.row.toRowW d [] (fun f vs => PySem.call f vs) := by
  refine Att.attach_call hn hdf fun w s₀ s₁ mg mb fa o pm cd doc a vs ns G Y ho hd hcd hmg hobj hints hlen hg => ?_
  have KX := hY w _ Y
  obtain ⟨fd, hb, hF⟩ := F w mg fa _ KX G.T.g hmg
  exact law_callK KX G.T.g G.T.b G.T.builtins G.T.nolimit hg hobj hints (Nat.le_trans hlen hn2) hr hF hb (fun H hO hS => hsp w H a ns hlen hO hS) fun H e s' => hCX w H s₁ e s'
end L4


namespace L4
open PySem PySem.Spec PyProof.Rows L2
/-! ### what is walked, at the data -/
structure IterOk (K : PySem.W.Frag) (J : It) (ds : List D) (G : Hp) : Prop where
  go : ∀ (H : Hp) (i : Nat), Same G H → i < ds.length → J.go i H
  yld : ∀ (H : Hp) (i : Nat) (x : V) (H' : Hp), Same G H → i < ds.length → J.yld i H x H' → H' = H ∧ ∃ d, ds[i]? = some d ∧ Rep K G x d
  stop : ∀ (H : Hp), Same G H → J.stop ds.length H
noncomputable def PostI (X : Cx) (M : Nat → Option Addr) (G0 H0 G H : Hp) (σ : L2.St) (δ δ' : DEnv) (R : It → Hp → Prop) : Except XD (List D) → Prop
  | .ok ds => ∀ J G' H', StOk X.K M G0 H0 G' H' σ δ' → Gr G H σ δ G' H' δ' → IterOk X.K J ds G' → R J H'
  | .error x => PostX X M G0 H0 G H σ δ δ' x
noncomputable def SndI (X : Cx) (wi : TI) (fs : FL) : Prop := ∀ (M : Nat → Option Addr) (G0 H0 G H : Hp) (σ : L2.St) (δ : DEnv) (q : Except XD (List D)) (δ' : DEnv) (R : It → Hp → Prop), StOk X.K M G0 H0 G H σ δ → fs δ = some (q, δ') →
  PostI X M G0 H0 G H σ δ δ' R q → wi σ H R
noncomputable def DI (X : Cx) (tg iter : Expr) (fs : FL) : Prop := ∃ wi, PI X tg iter wi ∧ SndI X wi fs
theorem iter_rng {K : PySem.W.Frag} (lo : Int) (n : Nat) (G : Hp) : IterOk K (Itr lo n) (rngD lo n) G := by
  have hl : (rngD lo n).length = n := by simp [rngD]
  refine ⟨fun H i _ hi => by rw [hl] at hi; exact hi, fun H i x H' _ hi y => ?_, fun H _ => by rw [hl]; exact Nat.le_refl _⟩
  obtain ⟨e1, e2⟩ := y
  rw [hl] at hi
  exact ⟨e1, D.int (lo + (i : Int)), by simp [rngD, hi], by rw [e2]; exact .int _⟩
section
variable {X : Cx}
theorem snd_iR1 {ta : TA} {fa : FL} (ha : SndL X ta fa) : SndI X (iRng1 ta) (fRng1 fa) := by
  intro M G0 H0 G H σ δ q δ' R S e k
  rcases Rs.inv e with ⟨as, δ2, e2, e⟩ | ⟨x, e2, rfl⟩
  · obtain ⟨ds, e3, rfl, rfl⟩ := lift_inv e
    unfold rng1D at e3
    split at e3
    · rename_i j
      split at e3
      · rename_i hj
        cases e3
        refine ha M G0 H0 G H σ δ _ _ _ S e2 fun xs G1 H1 S1 g1 r1 => ?_
        cases r1 with
        | cons h t =>
          cases t
          cases rep_int h
          exact ⟨j, rfl, hj.1, hj.2, k _ G1 H1 S1 g1 (iter_rng 0 _ G1)⟩
      · cases e3
    · cases e3
  · exact ha M G0 H0 G H σ δ _ _ _ S e2 k
end
section
variable {X : Cx} {tg iter a b : Expr} {fe : FE} {fl : FL} {p pos : Pos}
theorem di_rng1 (hg : Gl X "range") (hm : X.mg "range" = none) (ha : DA X [a] fl) (hs : starEach [a] X.env = [(false, eval a X.env)] := by rfl) : DI X tg (.Call (.Name "range" p) [a] [] pos) (fRng1 fl) := let ⟨_, a1, a2⟩ := ha; ⟨_, pi_range1 hg hm a1 hs, snd_iR1 a2⟩
end
/-! ### the block of a comprehension -/
noncomputable def clOf (cells : List (Str × Addr)) : List (Str × NameKind) → List (Str × Addr) → List (Str × Addr)
  | [], cs => cs
  | (n, k) :: r, cs => clOf cells r (if k == .free then (match cells.lookup n with | some c => (n, c) :: cs | none => cs) else cs)
theorem cl_sub {cells : List (Str × Addr)} : ∀ (ns : List (Str × NameKind)) (cs : List (Str × Addr)), (∀ y c, cs.lookup y = some c → cells.lookup y = some c) → ∀ y c, (clOf cells ns cs).lookup y = some c → cells.lookup y = some c
  | [], cs, h => h
  | (n, k) :: r, cs, h => by
    refine cl_sub r _ fun y c e => ?_
    split at e
    · split at e
      · rename_i c' hc
        rw [List.lookup_cons] at e
        split at e
        · rename_i hy
          cases e
          rw [eq_of_beq hy]; exact hc
        · exact h y c e
      · exact h y c e
    · exact h y c e
theorem cl_mono {cells : List (Str × Addr)} : ∀ (ns : List (Str × NameKind)) (cs : List (Str × Addr)) (y : Str), (∃ c, cs.lookup y = some c) → ∃ c, (clOf cells ns cs).lookup y = some c
  | [], cs, y, h => h
  | (n, k) :: r, cs, y, h => by
    refine cl_mono r _ y ?_
    split
    · split
      · rw [List.lookup_cons]
        split
        · exact ⟨_, rfl⟩
        · exact h
      · exact h
    · exact h
theorem cl_has {cells : List (Str × Addr)} : ∀ (ns : List (Str × NameKind)) (cs : List (Str × Addr)) (y : Str) (c : Addr), (y, NameKind.free) ∈ ns → cells.lookup y = some c → ∃ c, (clOf cells ns cs).lookup y = some c
  | (n, k) :: r, cs, y, c, h, e => by
    rcases List.mem_cons.mp h with h | h
    · cases h
      refine cl_mono r _ _ ?_
      rw [if_pos (by rfl), e]
      exact ⟨c, by simp⟩
    · exact cl_has r _ y c h e
theorem closure_eq {scope : Scope} {env : Env} (h : ∀ p ∈ scope.names, p.2 = .free → ∃ c, env.cells.lookup p.1 = some c) : closureFor scope env = pure (clOf env.cells scope.names []) := by
  have key : ∀ (ns : List (Str × NameKind)) (cs : List (Str × Addr)), (∀ p ∈ ns, p.2 = .free → ∃ c, env.cells.lookup p.1 = some c) →
      (forIn ns cs fun (p : Str × NameKind) (r : List (Str × Addr)) => if (p.2 == NameKind.free) = true then (do let a ← cellOf env p.1; pure (ForInStep.yield ((p.1, a) :: r))) else pure (ForInStep.yield r) : Sem (List (Str × Addr))) = pure (clOf env.cells ns cs) := by
    intro ns
    induction ns with
    | nil => intro cs _; rfl
    | cons p r ih =>
      intro cs hc
      obtain ⟨n, k⟩ := p
      rw [List.forIn_cons]
      by_cases hk : (k == NameKind.free) = true
      · obtain ⟨c, e⟩ := hc (n, k) List.mem_cons_self (eq_of_beq hk)
        have ec : cellOf env n = pure c := by unfold cellOf; rw [show env.cells.lookup n = some c from e]
        simp only [hk, if_true, ec]
        have := ih ((n, c) :: cs) fun p hp => hc p (List.mem_cons_of_mem _ hp)
        show (forIn r ((n, c) :: cs) _ : Sem _) = _
        rw [this]
        show pure (clOf env.cells r ((n, c) :: cs)) = pure (clOf env.cells r (if (k == NameKind.free) = true then (match env.cells.lookup n with | some c => (n, c) :: cs | none => cs) else cs))
        rw [if_pos hk, show env.cells.lookup n = some c from e]
      · simp only [hk, if_false]
        have := ih cs fun p hp => hc p (List.mem_cons_of_mem _ hp)
        show (forIn r cs _ : Sem _) = _
        rw [this]
        show pure (clOf env.cells r cs) = pure (clOf env.cells r (if (k == NameKind.free) = true then (match env.cells.lookup n with | some c => (n, c) :: cs | none => cs) else cs))
        rw [if_neg hk]
  have := key scope.names [] h
  unfold closureFor
  first
    | exact this
    | (show ((forIn scope.names [] _ : Sem _) >>= fun r => pure r) = _; rw [this]; rfl)
    | (simp only [bind_pure]; exact this)
end L4


namespace L4
open PySem PySem.Spec PyProof.Rows L2
noncomputable def compCx (X : Cx) (M : List Str) (scope : Scope) (x : Str) (s : Shared) (H : Hp) (fp : List Addr) (pn : List (Addr × Obj)) : Cx :=
  { X with N := x :: M, s₀ := s, H₀ := H, env := compEnvC scope (clOf X.env.cells scope.names []) s.heap.objs.size X.env, outer := X.stack, stack := X.stack, ex := fp, fn := fun _ => false, pn := pn, xe := fun _ _ => False }
structure CompOk (X : Cx) (M : List Str) (scope : Scope) (x : Str) : Prop where
  kind : scope.kind = .function
  nocell : ∀ p ∈ scope.names, p.2 ≠ .cell
  xl : scope.names.lookup x = some .local
  names : ∀ p ∈ scope.names, p.2 = .local → scope.names.lookup p.1 = some .local
  loc : ∀ p ∈ scope.names, p.2 = .local → p.1 ∉ M
  free : ∀ p ∈ scope.names, p.2 = .free → X.env.scope.names.lookup p.1 = some .cell ∨ X.env.scope.names.lookup p.1 = some .free
  blank : ∀ p ∈ scope.names, p.1 ≠ ""
  len : M.length = X.N.length
  seen : ∀ p ∈ M.zip X.N, p.1 = "" ∨ p.1 = p.2
  nd : (x :: M).Nodup
theorem lookup_mem {α β : Type} [BEq α] [LawfulBEq α] : ∀ {l : List (α × β)} {x : α} {y : β}, l.lookup x = some y → (x, y) ∈ l
  | (a, b) :: r, x, y, h => by
    rw [List.lookup_cons] at h
    split at h
    · rename_i hx
      cases h
      rw [eq_of_beq hx]
      exact List.mem_cons_self
    · exact List.mem_cons_of_mem _ (lookup_mem h)
theorem lookup_relabel {names : List (Str × NameKind)} {env : Env} {x : Str} {k : NameKind} : (names.map fun (n, k) => if (k == NameKind.free && env.scope.kind == .function && env.kindOf n == some .cell) then (n, NameKind.cell) else (n, k)).lookup x = some k →
    names.lookup x = some k ∨ (k = .cell ∧ names.lookup x = some .free) := by
  induction names with
  | nil => intro h; cases h
  | cons p r ih =>
    obtain ⟨n, k'⟩ := p
    intro h
    rw [List.map_cons] at h
    by_cases hc : (k' == NameKind.free && env.scope.kind == .function && env.kindOf n == some .cell) = true
    · simp only [hc, if_true] at h
      rw [List.lookup_cons] at h ⊢
      split at h
      · rename_i hx
        cases h
        refine .inr ⟨rfl, ?_⟩
        have : k' = .free := by
          rw [Bool.and_eq_true, Bool.and_eq_true] at hc
          exact eq_of_beq hc.1.1
        rw [this]
      · exact ih h
    · have hc' : (k' == NameKind.free && env.scope.kind == .function && env.kindOf n == some .cell) = false := by simpa using hc
      simp only [hc', Bool.false_eq_true, if_false] at h
      rw [List.lookup_cons] at h ⊢
      split at h
      · rename_i hx
        cases h
        exact .inl rfl
      · exact ih h
section
variable {X : Cx} {M : List Str} {scope : Scope} {x : Str} {pins : List (Addr × Obj)} {σ : L2.St} {H : Hp} {s : Shared} {fp : List Addr}
theorem CompOk.cells (c : CompOk X M scope x) (ok : X.Ok) : ∀ p ∈ scope.names, p.2 = .free → ∃ a, X.env.cells.lookup p.1 = some a := fun p hp hf => ok.has p.1 (c.free p hp hf)
theorem inv_comp {h₁ : Heap} {tk : Nat} (c : CompOk X M scope x) (I : Inv X pins σ H s) (hf : ∀ b ∈ fp, FpOk X pins H b) (hfo : ∀ b ∈ fp, ∃ o, s.heap.get? b = some o)
    (hns : h₁.Ns s.heap.objs.size (fun _ => none)) (keep : ∀ b o, s.heap.get? b = some o → h₁.get? b = some o) :
    Inv (compCx X M scope x s H fp (X.pn ++ pins)) [] (none :: σ) H { s with heap := h₁, toks := tk } := by
  have sub : ∀ y a, (clOf X.env.cells scope.names []).lookup y = some a → X.env.cells.lookup y = some a := cl_sub scope.names [] fun y a e => by cases e
  have nstk : ∀ b, b ≠ X.env.locals → b ∉ X.fs → b ∉ frs X.stack := fun b h1 h2 z => (List.mem_cons.mp (I.stkSub b z)).elim h1 h2
  have lt : ∀ b o, s.heap.get? b = some o → b ≠ s.heap.objs.size := fun b o e => Nat.ne_of_lt (Heap.lt_size e)
  refine ⟨⟨I.ok.mod, ?_, I.ok.glob, I.ok.blt, Nat.le_refl _, fun y z a e1 e2 => I.ok.inj y z a (sub y a e1) (sub z a e2), fun y hy => ?_, fun y a e => (by cases e), I.ok.hd, I.ok.frames, .inl rfl, fun b hb => ⟨?_, fun y a e => (hf b hb).2.2.2.2.1 y a (sub y a e)⟩, I.bs,
      Nat.le_trans I.ok.bsz I.sz, fun b o e hb => ?_, fun b hb => nstk b (hf b hb).2.1 (hf b hb).2.2.1, I.stack, I.stkFree⟩, rfl, I.bare, Un.kept keep, ⟨_, hns, fun i y v e1 e2 e3 => ?_⟩, fun y a e => ?_, I.fresh, fun y a e => I.freeC y a (sub y a e), fun p hp => ?_, I.hok.kept keep, ?_⟩
  · show (relabel scope X.env).kind = .function
    exact c.kind
  · have hy' : scope.names.lookup y = some .free := by
      rcases hy with hy | hy
      · rcases lookup_relabel hy with z | ⟨_, z⟩
        · exact absurd rfl (c.nocell _ (lookup_mem z))
        · exact z
      · rcases lookup_relabel hy with z | ⟨z, _⟩
        · exact z
        · cases z
    obtain ⟨a, e⟩ := c.cells I.ok _ (lookup_mem hy') rfl
    exact cl_has scope.names [] y a (lookup_mem hy') e
  · obtain ⟨o, e⟩ := hfo b hb
    exact lt b o e
  · rcases (hf b hb).2.2.2.1 with z | z
    · exact I.ok.noex b o e z
    · exact absurd (Nat.lt_of_lt_of_le (Heap.lt_size e) (Nat.le_trans I.ok.bsz z)) (Nat.lt_irrefl _)
  · cases i with
    | zero => cases e2
    | succ i =>
      have e1' : M[i]? = some y := e1
      have e2' : σ[i]? = some (some v) := e2
      have hi : i < M.length := (List.getElem?_eq_some_iff.mp e1').1
      have hX : ∃ z, X.N[i]? = some z ∧ (y = "" ∨ y = z) := by
        have hi' : i < X.N.length := by rw [← c.len]; exact hi
        refine ⟨X.N[i], List.getElem?_eq_getElem hi', ?_⟩
        refine c.seen (y, X.N[i]) ?_
        have : (M.zip X.N)[i]? = some (y, X.N[i]) := by
          rw [List.getElem?_zip_eq_some]
          exact ⟨e1', List.getElem?_eq_getElem hi'⟩
        exact List.mem_of_getElem? this
      obtain ⟨z, hz, hyz⟩ := hX
      -- it is seen: free there
      have hy' : scope.names.lookup y = some .free := by
        rcases e3 with w | w | w
        · rcases lookup_relabel w with z | ⟨z, _⟩
          · exact absurd (List.mem_of_getElem? e1') (c.loc _ (lookup_mem z) rfl)
          · cases z
        · rcases lookup_relabel w with z | ⟨_, z⟩
          · exact absurd rfl (c.nocell _ (lookup_mem z))
          · exact z
        · rcases lookup_relabel w with z | ⟨z, _⟩
          · exact z
          · cases z
      have hm := lookup_mem hy'
      rcases hyz with rfl | rfl
      · exact absurd rfl (c.blank _ hm)
      · have hk := c.free _ hm rfl
        obtain ⟨m, hn, hl⟩ := I.loc
        obtain ⟨u, r, l⟩ := hl i y v hz e2' (hk.elim (fun q => .inr (.inl q)) fun q => .inr (.inr q))
        refine ⟨u, r, ?_⟩
        rcases l with ⟨l, _⟩ | ⟨_, a, ea, ia⟩
        · rcases hk with hk | hk
          · have l' : X.env.scope.names.lookup y = some .local := l
            rw [hk] at l'; cases l'
          · have l' : X.env.scope.names.lookup y = some .local := l
            rw [hk] at l'; cases l'
        · obtain ⟨a', e'⟩ := cl_has scope.names [] y a hm ea
          have : a' = a := by have := sub y a' e'; rw [ea] at this; exact (Option.some.inj this).symm
          subst this
          refine .inr ⟨?_, a', e', ia.keeps keep⟩
          rcases e3 with w | w | w
          · rcases lookup_relabel w with z | ⟨z, _⟩
            · rw [hy'] at z; cases z
            · cases z
          · exact .inl w
          · exact .inr w
  · obtain ⟨v, z⟩ := I.cell y a (sub y a e)
    exact ⟨v, z.keeps keep⟩
  · have hp' : p ∈ X.pn ++ pins := by simpa [compCx] using hp
    obtain ⟨q1, q2, q3, q4, q5⟩ := I.pin p hp'
    exact ⟨keep _ _ q1, q2, lt _ _ q1, nstk _ q3 q4, q5⟩
  · show (none :: σ).length = (x :: M).length
    rw [List.length_cons, List.length_cons, I.len, c.len]
theorem inv_back {σ' : L2.St} {H' : Hp} {s' : Shared} {h₂ : Heap} (I : Inv X pins σ H s) (hf : ∀ b ∈ fp, FpOk X pins H b)
    (I' : Inv (compCx X M scope x s H fp (X.pn ++ pins)) [] σ' H' s') (hs : Heap.SameBut s.heap.objs.size s'.heap h₂) : Inv X pins σ H' { s' with heap := h₂ } := by
  have lt : ∀ b o, s.heap.get? b = some o → b ≠ s.heap.objs.size := fun b o e => Nat.ne_of_lt (Heap.lt_size e)
  have u := I'.base
  refine I.call' (s' := { s' with heap := h₂ }) (ch := fp) I'.os ⟨fun b o e n hb hx => ?_, fun b o e n hb hx => ?_, u.free, fun b o e hx => ?_, u.tups, u.frzs, u.tbls⟩ (fun b ob e => ?_) I'.bare fun b hb => ⟨(hf b hb).2.2.2.1, (hf b hb).2.1, (hf b hb).2.2.2.2.1, (hf b hb).2.2.2.2.2⟩
  · exact (hs.2 b (lt b o e)).trans (u.keep b o e n hb hx)
  · obtain ⟨sl, q⟩ := u.slot b o e n hb hx
    exact ⟨sl, (hs.2 b (lt b o e)).trans q⟩
  · obtain ⟨o', q⟩ := u.there b o e hx
    exact ⟨o', (hs.2 b (lt b o e)).trans q⟩
  · have hC : H' s.heap.objs.size = none := I'.free
    refine (I'.hok b ob e).stay (fun d v hd q => (hs.2 d ?_).trans q) (fun _ q => q) fun _ _ q => q
    rintro rfl
    rcases hd with hd | hd
    · rw [← hd, hC] at e; cases e
    · rw [hC] at hd; cases hd
end
end L4


namespace L4
open PySem PySem.Spec PyProof.Rows L2
abbrev Well {α : Type} (prog : Program) (w : World) (A : Around) (m : Sem α) (q : α → Shared → Prop) (s : Shared) : Prop := wpAny (model prog w) A m q (fun _ _ => False) s
theorem Well.go {α β : Type} {prog : Program} {w : World} {A : Around} {s : Shared} {E : Value → Shared → Prop} {m : Sem α} {f : α → Sem β} {q : α → Shared → Prop} {r : β → Shared → Prop} (a : Well prog w A m q s) (b : ∀ v t, q v t → wpAny (model prog w) A (f v) r E t) : wpAny (model prog w) A (m >>= f) r E s :=
  wpAny_bind (wpAny_mono a b fun _ _ => False.elim)
abbrev testsOf (ifs : List Expr) (env : Env) : Sem Bool := forIn ifs true fun c ok => if ok = true then isTrue c env (eval c env) >>= fun b => pure (.yield b) else pure (.yield ok)
theorem compLoop_own {prog : Program} {w : World} {A : Around} {R : Result → Shared → Prop} {s : Shared} {elt target iter : Expr} {ifs : List Expr} {scope : Scope} {pos : Pos} {it acc : Value} {env : Env} (I : Nat → Shared → Prop)
    (turn : ∀ n s, I n s → Well prog w A (pyNext it) (fun r t => r.elim (R (.ok .next) t) fun v => Well prog w A (letOwnedTupleGo target it v) (fun _ t => Well prog w A (assign target env v) (fun _ t => Well prog w A (testsOf ifs env) (fun ok t =>
      if ok = true then Well prog w A (eval elt env) (fun x t => Well prog w A (call (.builtin "list.append") [acc, x]) (fun _ t => ∃ m, m < n ∧ I m t) t) t else ∃ m, m < n ∧ I m t) t) t) t) s)
    (n : Nat) (h : I n s) : codeAny (model prog w) A (.compLoop (.ListComp elt [⟨target, iter, ifs, 0⟩] scope pos) 0 it acc env) R s := by
  apply codeAny_loop rfl I (n := n) (h := h)
  intro n s i
  apply wpAny_noted
  rw [compTurn_list]
  apply wpAny_bind
  apply wpAny_standAt
  apply (turn n s i).go
  rintro (_ | v) t a
  · exact wpAny_pure a
  · apply a.go
    intro _ t a
    apply a.go
    intro _ t a
    apply a.go
    rintro (_ | _) t a
    · wp_walk
      exact ⟨rfl, a⟩
    · apply wpAny_bind
      apply a.go
      intro x t a
      apply a.go
      intro _ t a
      wp_walk
      exact ⟨rfl, a⟩
/-! ### at the data -/
noncomputable def testD (fc : Option FT) (d : D) (δ : DEnv) : Rs Bool := match fc with | none => some (.ok true, some (Sl.val d) :: δ) | some c => c (some (Sl.val d) :: δ)
noncomputable def compD (fc : Option FT) (fe : FE) : List D → List D → DEnv → Option (List D × DEnv)
  | [], acc, δ => some (acc, δ)
  | d :: ds, acc, δ => match testD fc d δ with
    | some (.ok true, δ1) => (match fe δ1 with
      | some (.ok q, δ2) => if acc.length < sizeLine then compD fc fe ds (acc ++ [q.fz]) δ2.tail else none
      | _ => none)
    | some (.ok false, δ1) => compD fc fe ds acc δ1.tail
    | _ => none
noncomputable def fComp (src : FL) (fc : Option FT) (fe : FE) : FE := fun δ => (src δ).bind fun ds δ => match compD fc fe ds [] δ with
  | some (r, δ') => some (.ok (.own (.lst r)), δ')
  | none => none
noncomputable def shM (M : Nat → Option Addr) : Nat → Option Addr
  | 0 => none
  | i + 1 => M i
section
variable {K : PySem.W.Frag} {M : Nat → Option Addr} {G0 H0 G H G' H' : Hp} {σ : L2.St} {δ δ' : DEnv} {ov : Option V}
theorem ow_cons {d : D} {p : Addr} (h : Ow (ov :: σ) (some (.val d) :: δ) p) : Ow σ δ p := by
  obtain ⟨i, s, z1, os, z2⟩ := h
  cases i with
  | zero => cases z1; cases os
  | succ i => exact ⟨i, s, z1, os, z2⟩
theorem ow_tail {p : Addr} (h : Ow σ δ'.tail p) : Ow (ov :: σ) δ' p := by
  obtain ⟨i, s, z1, os, z2⟩ := h
  cases δ' with
  | nil => cases z1
  | cons o r => exact ⟨i + 1, s, z1, os, z2⟩
theorem StOk.cons {v : V} {d : D} (S : StOk K M G0 H0 G H σ δ) (r : Rep K G v d) : StOk K (shM M) G0 H0 G H (some v :: σ) (some (.val d) :: δ) := by
  refine ⟨S.gh, ⟨by simp [S.env.len], fun i s e => ?_, fun i j p a b z1 z2 oa ob z3 z4 => ?_⟩, S.h0, S.g0, S.fr, fun p z => S.own0 p (ow_cons z), fun i d e => ?_⟩
  · cases i with
    | zero => cases e; exact ⟨v, rfl, r⟩
    | succ i => exact S.env.at' i s e
  · cases i with
    | zero => cases z1; cases oa
    | succ i =>
      cases j with
      | zero => cases z2; cases ob
      | succ j => exact congrArg (· + 1) (S.env.sep i j p a b z1 z2 oa ob z3 z4)
  · cases i with
    | zero => cases e
    | succ i => exact S.mt i d e
theorem StOk.tail (S : StOk K (shM M) G0 H0 G H (ov :: σ) δ') : StOk K M G0 H0 G H σ δ'.tail := by
  cases δ' with
  | nil => have := S.env.len; simp at this
  | cons o r =>
    refine ⟨S.gh, ⟨by have := S.env.len; simpa using this, fun i s e => S.env.at' (i + 1) s e, fun i j p a b z1 z2 oa ob z3 z4 => ?_⟩, S.h0, S.g0, S.fr, fun p z => S.own0 p (ow_tail z), fun i d e => S.mt (i + 1) d e⟩
    have := S.env.sep (i + 1) (j + 1) p a b z1 z2 oa ob z3 z4
    omega
theorem Gr.tail {d : D} (g : Gr G H (ov :: σ) (some (.val d) :: δ) G' H' δ') : Gr G H σ δ G' H' δ'.tail :=
  ⟨fun b o h n => g.hs b o h fun z => n (ow_cons z), g.hd, g.gg, fun b h n o => g.fr b h n fun z => o (ow_cons z), fun p z => ow_cons (g.shr p (ow_tail z))⟩
theorem StOk.poke {l : Addr} {o : HO} (S : StOk K M G0 H0 G H σ δ) (hg : G l = none) (hn : ¬ Ow σ δ l) (h0 : H0 l = none) : StOk K M G0 H0 G (upd H l o) σ δ := by
  have same' : ∀ (H1 : Hp), H1 l = none → Same H1 H → Same H1 (upd H l o) := fun H1 n h b u q => by rw [upd_ne (ne_of_none q n)]; exact h b u q
  refine ⟨same' G hg S.gh, ⟨S.env.len, fun i s e => ?_, S.env.sep⟩, same' H0 h0 S.h0, S.g0, S.fr, S.own0, S.mt⟩
  obtain ⟨v, e1, r⟩ := S.env.at' i s e
  refine ⟨v, e1, ?_⟩
  have key : ∀ d, s.isO = true → (∃ q, v = .ref q ∧ G q = none ∧ OwnAt K G H q d) → ∃ q, v = .ref q ∧ G q = none ∧ OwnAt K G (upd H l o) q d := fun d os ⟨q, e2, e4, rr⟩ => by
    subst e2
    have ne : q ≠ l := fun z => hn (by rw [← z]; exact ⟨i, s, e, os, e1⟩)
    exact ⟨q, rfl, e4, rr.keep (upd_ne ne) (Same.refl _)⟩
  cases s with
  | val d => exact r
  | own d => exact key d rfl r
  | lnt d => exact key d rfl r
end
noncomputable def TestsOk (X : Cx) (M : List Str) (scope : Scope) (x : Str) (ifs : List Expr) (fc : Option FT) : Prop :=
  (ifs = [] ∧ fc = none) ∨ ∃ c f, ifs = [c] ∧ fc = some f ∧ ∀ s H fp pn, DT (compCx X M scope x s H fp pn) c f
section
variable {X : Cx} {M : List Str} {scope : Scope} {x : Str} {elt iter : Expr} {ifs : List Expr} {pos px : Pos} {fs : FL} {fc : Option FT} {fe : FE}
theorem comp_block (c : CompOk X M scope x) (hc : X.calm = true) (ht : TestsOk X M scope x ifs fc) (he : ∀ s H fp pn, DE (compCx X M scope x s H fp pn) elt fe)
    {pins : List (Addr × Obj)} {s2 : Shared} {σ : L2.St} {ML : Nat → Option Addr} {G0 H0 G1 H1 : Hp} {δ1 : DEnv} {it : Addr} {fp : List Addr} {tn : Nat → Heap → Prop} {J : It} {ds res : List D} {δE : DEnv}
    (I : Inv X pins σ H1 s2) (T : Turn X.prog X.w X.K (.Name x px) J fp it tn) (st : tn 0 s2.heap) (hf : ∀ b ∈ fp, FpOk X pins H1 b) (S : StOk X.K ML G0 H0 G1 H1 σ δ1) (io : IterOk X.K J ds G1) (ec : compD fc fe ds [] δ1 = some (res, δE))
    {RR : Value → Addr → Result → Shared → Prop} {E : Value → Shared → Prop}
    (hR : ∀ (l C : Addr) (s' : Shared) (G' H' : Hp) (vs : List V), H1 l = none → s2.heap.objs.size ≤ C → H' C = none → (∃ m, s'.heap.Ns C m) → StOk X.K ML G0 H0 G' H' σ δE → Gr G1 H1 σ δ1 G' H' δE → H' l = some (.lst vs) → G' l = none → RepL X.K G' vs res →
      (∀ h', Heap.SameBut C s'.heap h' → Inv X pins σ H' { s' with heap := h' }) → RR (.ref l) C (.ok .next) s') :
    wpAny (model X.prog X.w) X.A (newList []) (fun acc s₃ => wpAny (model X.prog X.w) X.A (newFunctionEnv scope X.env.globals (clOf X.env.cells scope.names []) [] X.env.qual none .none (some X.env)) (fun cenv s₄ =>
      codeAny (model X.prog X.w) X.A (.compStart (.ListComp elt [⟨.Name x px, iter, ifs, 0⟩] scope pos) 0 (.ref it) acc { cenv with scope := relabel scope X.env }) (RR acc cenv.locals) s₄) E s₃) E s2 := by
  refine wpAny_newObj_type (wpAny_newFunctionEnv c.nocell (by intro y hy; simp at hy) (fun h₁ hns hsb => ?_) c.kind)
  have hl : H1 s2.heap.objs.size = none := I.fresh
  have I3 : Inv X pins σ (upd H1 s2.heap.objs.size (.lst [])) { s2 with heap := s2.heap.push { cls := .type "list", data := .seq ([] : List Value).toArray } } := I.lnew (t' := s2.toks) (ys := []) .nil (Nat.zero_le _)
  generalize hs3 : ({ s2 with heap := s2.heap.push { cls := .type "list", data := .seq ([] : List Value).toArray } } : Shared) = s3 at I3
  have e3 : s3.heap = s2.heap.push { cls := .type "list", data := .seq ([] : List Value).toArray } := by rw [← hs3]
  have hns' : h₁.Ns s3.heap.objs.size (fun _ => none) := by rw [e3]; exact hns
  have keep : ∀ b o, s3.heap.get? b = some o → h₁.get? b = some o := fun b o e => by
    have lt := Heap.lt_size e
    rw [e3] at e lt
    exact hsb.extBut b o (Nat.ne_of_lt lt) (Heap.get?_push_of_some _ e)
  have keep2 : ∀ b o, s2.heap.get? b = some o → s3.heap.get? b = some o := fun b o e => by rw [e3]; exact Heap.get?_push_of_some _ e
  have fo : ∀ b ∈ fp, ∃ o, s2.heap.get? b = some o := fun b hb => let ⟨o, e, _⟩ := T.obj 0 s2.heap st b hb; ⟨o, e⟩
  have nel : ∀ b ∈ fp, b ≠ s2.heap.objs.size := fun b hb => let ⟨o, e⟩ := fo b hb; Nat.ne_of_lt (Heap.lt_size e)
  have hf3 : ∀ b ∈ fp, FpOk X pins (upd H1 s2.heap.objs.size (.lst [])) b := fun b hb => ⟨by rw [upd_ne (nel b hb)]; exact (hf b hb).1, (hf b hb).2⟩
  have I4 := inv_comp (tk := s2.toks + ([] : List (Str × Value)).length) c I3 hf3 (fun b hb => let ⟨o, e⟩ := fo b hb; ⟨o, keep2 b o e⟩) hns' keep
  have st4 : tn 0 h₁ := T.keep 0 _ _ st fun b hb o e => keep b o (keep2 b o e)
  -- what stays of the iterator's objects
  have stat : ∀ {H' : Hp}, (∀ b ∈ fp, H' b = none) → ∀ b ∈ fp, FpOk (compCx X M scope x s3 (upd H1 s2.heap.objs.size (.lst [])) fp (X.pn ++ pins)) [] H' b := fun {H'} hn b hb => by
    refine ⟨hn b hb, (I4.ok.exf b hb).1, I4.ok.exfs b hb, .inl hb, (I4.ok.exf b hb).2, fun p hp => ?_⟩
    have hp' : p ∈ X.pn ++ pins := by simpa [compCx] using hp
    exact (hf b hb).2.2.2.2.2 p hp'
  obtain ⟨S3, g3, hg3⟩ := S.new (o := .lst []) hl
  have hl0 : H0 s2.heap.objs.size = none := Same.free S.h0 hl
  have noOw1 : ¬ Ow σ δ1 s2.heap.objs.size := S.noOw hl
  have loop : ∀ s4 : Shared, s4 = { s2 with heap := h₁, toks := s2.toks + ([] : List (Str × Value)).length } →
      codeAny (model X.prog X.w) X.A (.compLoop (.ListComp elt [⟨.Name x px, iter, ifs, 0⟩] scope pos) 0 (.ref it) (.ref s2.heap.objs.size) (compEnvC scope (clOf X.env.cells scope.names []) s3.heap.objs.size X.env)) (RR (.ref s2.heap.objs.size) s3.heap.objs.size) s4 := by
    rintro s4 rfl
    refine compLoop_own (fun n s' => ∃ (i : Nat) (ov : Option V) (G' H' : Hp) (δ' : DEnv) (vs : List V) (acc : List D), Inv (compCx X M scope x s3 (upd H1 s2.heap.objs.size (.lst [])) fp (X.pn ++ pins)) [] (ov :: σ) H' s' ∧ tn i s'.heap ∧ (∀ b ∈ fp, H' b = none) ∧ i ≤ ds.length ∧ n = ds.length - i ∧
      StOk X.K ML G1 H0 G' H' σ δ' ∧ Gr G1 H1 σ δ1 G' H' δ' ∧ H' s2.heap.objs.size = some (.lst vs) ∧ G' s2.heap.objs.size = none ∧ RepL X.K G' vs acc ∧ compD fc fe (ds.drop i) acc δ' = some (res, δE)) ?_ ds.length
      ⟨0, none, G1, _, δ1, [], [], by rw [← hs3] at I4; rw [← hs3]; exact I4, st4, fun b hb => by rw [upd_ne (nel b hb)]; exact (hf b hb).1, Nat.zero_le _, by simp, S3.rebase, g3, upd_same, hg3, .nil, by simpa using ec⟩
    rintro n s' ⟨i, ov, G', H', δ', vs, acc, I', st', fr', hi, rfl, S', g', hv, hgl, ra, ed⟩
    have noOw : ¬ Ow σ δ' s2.heap.objs.size := fun z => noOw1 (g'.shr _ z)
    by_cases hlt : i < ds.length
    · -- one more
      have hd : ds.drop i = ds[i] :: ds.drop (i + 1) := List.drop_eq_getElem_cons hlt
      rw [hd] at ed
      have go := io.go H' i (S'.g0.trans S'.gh) hlt
      refine thn (T.item (compCx X M scope x s3 (upd H1 s2.heap.objs.size (.lst [])) fp (X.pn ++ pins)) rfl rfl rfl hc i [] s' (ov :: σ) H' _ I' (stat fr') st' go) fun r s5 ⟨u, hr, h5⟩ => ?_
      subst hr
      refine thn h5 fun _ s6 ⟨y, H6, I6, r6, y6, st6, fr6⟩ => ?_
      obtain ⟨rfl, d, ed', rd⟩ := io.yld H' i y H6 (S'.g0.trans S'.gh) hlt y6
      have hde : ds[i] = d := by rw [List.getElem?_eq_getElem hlt] at ed'; exact Option.some.inj ed'
      rw [hde] at ed
      have I6' := I6.pinned (stat fr6) (T.obj _ _ st6)
      -- the name
      refine thn (pg_name (i := 0) (x := x) (pos := px) c.nd rfl (.inl (lookup_relabel_local c.xl)) (.inr (lookup_relabel_local c.xl)) ([] ++ pinsAt fp s6.heap) s6 (ov :: σ) H6 y u (fun σ2 H2 => σ2 = some y :: σ ∧ H2 = H6) I6' r6 ⟨rfl, rfl⟩) fun _ s7 ⟨σ7, H7, I7, q7⟩ => ?_
      obtain ⟨rfl, rfl⟩ := q7
      have back : ∀ {s8 : Shared} {H8 : Hp} {σ8 : L2.St}, Inv (compCx X M scope x s3 (upd H1 s2.heap.objs.size (.lst [])) fp (X.pn ++ pins)) ([] ++ pinsAt fp s6.heap) σ8 H8 s8 → tn (i + 1) s8.heap ∧ ∀ b ∈ fp, H8 b = none := fun {s8 H8 σ8} I8 => by
        refine ⟨T.keep _ _ _ st6 fun b hb o e => (I8.pin (b, o) (List.mem_append_right _ (List.mem_append_right _ (mem_pinsAt hb e)))).1, fun b hb => ?_⟩
        obtain ⟨o, e, d⟩ := T.obj _ _ st6 b hb
        exact (I8.pin (b, o) (List.mem_append_right _ (List.mem_append_right _ (mem_pinsAt hb e)))).2.1
      have S7 : StOk X.K (shM ML) G1 H0 G' H7 (some y :: σ) (some (.val d) :: δ') := S'.cons (Rep.mono S'.g0 rd)
      obtain ⟨b, δt, e1, e2⟩ : ∃ (b : Bool) (δt : DEnv), testD fc d δ' = some (Except.ok b, δt) ∧ (if b = true then (match fe δt with
          | some (.ok q, δ2) => if acc.length < sizeLine then compD fc fe (ds.drop (i + 1)) (acc ++ [q.fz]) δ2.tail else none
          | _ => none) else compD fc fe (ds.drop (i + 1)) acc δt.tail) = some (res, δE) := by
        unfold compD at ed
        split at ed
        · rename_i δ9 e9; exact ⟨true, δ9, e9, by simpa using ed⟩
        · rename_i δ9 e9; exact ⟨false, δ9, e9, by simpa using ed⟩
        · cases ed
      -- the test
      have test : wpAny (model X.prog X.w) X.A (forIn ifs true fun c r => if r = true then do let ok ← isTrue c (compEnvC scope (clOf X.env.cells scope.names []) s3.heap.objs.size X.env) (eval c (compEnvC scope (clOf X.env.cells scope.names []) s3.heap.objs.size X.env)); pure (ForInStep.yield ok) else pure (ForInStep.yield r))
          (fun ok s8 => ok = b ∧ ∃ G8 H8, Inv (compCx X M scope x s3 (upd H1 s2.heap.objs.size (.lst [])) fp (X.pn ++ pins)) ([] ++ pinsAt fp s6.heap) (some y :: σ) H8 s8 ∧ StOk X.K (shM ML) G1 H0 G8 H8 (some y :: σ) δt ∧ Gr G' H7 (some y :: σ) (some (.val d) :: δ') G8 H8 δt) (fun _ _ => False) s7 := by
        rcases ht with ⟨rfl, rfl⟩ | ⟨cn, f, rfl, rfl, hdt⟩
        · cases e1
          exact wpAny_tests_nil ⟨rfl, G', H7, I7, S7, Gr.refl ..⟩
        · obtain ⟨tt, p1, p2⟩ := hdt s3 (upd H1 s2.heap.objs.size (.lst [])) fp (X.pn ++ pins)
          refine wpAny_tests_one (thn (p1 _ s7 _ H7 (fun k H8 => k = b ∧ ∃ G8, StOk X.K (shM ML) G1 H0 G8 H8 (some y :: σ) δt ∧ Gr G' H7 (some y :: σ) (some (.val d) :: δ') G8 H8 δt) I7 (p2 (shM ML) G1 H0 G' H7 _ _ (.ok b) δt _ S7 e1 fun G8 H8 S8 g8 => ⟨rfl, G8, S8, g8⟩)) fun k s8 ⟨H8, I8, hk, G8, S8, g8⟩ => ?_)
          exact ⟨hk, G8, H8, I8, S8, g8⟩
      refine thn test fun ok s8 ⟨hok, G8, H8, I8, S8, g8⟩ => ?_
      subst hok
      have gt8 := g8.tail
      cases ok with
      | false =>
        simp only [Bool.false_eq_true, if_false] at e2 ⊢
        obtain ⟨st8, fr8⟩ := back I8
        refine ⟨ds.length - (i + 1), by omega, i + 1, some y, G8, H8, δt.tail, vs, acc, I8.unpinned, st8, fr8, hlt, rfl, S8.tail, g'.trans gt8, gt8.hs _ _ hv noOw, gt8.fr _ (by rw [hv]; simp) hgl noOw, RepL.mono g8.gg ra, e2⟩
      | true =>
        simp only [if_true] at e2 ⊢
        obtain ⟨sq, δq, e4, e5⟩ : ∃ (sq : Sl) (δq : DEnv), fe δt = some (.ok sq, δq) ∧ (if acc.length < sizeLine then compD fc fe (ds.drop (i + 1)) (acc ++ [sq.fz]) δq.tail else none) = some (res, δE) := by
          split at e2
          · rename_i q9 δ9 e9; exact ⟨q9, δ9, e9, e2⟩
          · cases e2
        split at e5
        · rename_i hsz
          obtain ⟨te, p1, p2⟩ := he s3 (upd H1 s2.heap.objs.size (.lst [])) fp (X.pn ++ pins)
          refine thn (p1 _ s8 _ H8 (fun v H9 => ∃ G9, StOk X.K (shM ML) G1 H0 G9 H9 (some y :: σ) δq ∧ Gr G8 H8 (some y :: σ) δt G9 H9 δq ∧ Rep X.K G9 v sq.fz) I8 (p2.toV (shM ML) G1 H0 G8 H8 _ _ sq δq _ S8 e4 fun v G9 H9 S9 g9 r9 => ⟨G9, S9, g9, r9⟩)) fun xv s9 ⟨v, H9, I9, r9, G9, S9, g9, rd9⟩ => ?_
          have g79 := (g8.trans g9).tail
          have hv9 : H9 s2.heap.objs.size = some (.lst vs) := g79.hs _ _ hv noOw
          have hgl9 : G9 s2.heap.objs.size = none := g79.fr _ (by rw [hv]; simp) hgl noOw
          have lenA : vs.length = acc.length := ra.len
          refine thn (mt_append _ s9 _ H9 (.ref s2.heap.objs.size) [v] (.ref s2.heap.objs.size) [xv] (fun _ H10 => H10 = upd H9 s2.heap.objs.size (.lst (vs ++ [v]))) I9 rfl (.cons r9 .nil) ⟨_, vs, v, rfl, rfl, hv9, by rw [lenA]; exact hsz, rfl⟩) fun _ s10 ⟨_, H10, I10, _, q10⟩ => ?_
          subst q10
          obtain ⟨st10, fr10⟩ := back I10
          have gA : Gr G1 H1 σ δ1 G9 (upd H9 s2.heap.objs.size (.lst (vs ++ [v]))) δq.tail := by
            have g := g'.trans g79
            refine ⟨fun b o q n => ?_, fun b n => ?_, g.gg, g.fr, g.shr⟩
            · rw [upd_ne (ne_of_none q hl)]
              exact g.hs b o q n
            · by_cases hb : b = s2.heap.objs.size
              · subst hb; exact absurd hl n
              · rw [upd_ne hb]; exact g.hd b n
          refine ⟨ds.length - (i + 1), by omega, i + 1, some y, G9, _, δq.tail, vs ++ [v], acc ++ [sq.fz], I10.unpinned, st10, fr10, hlt, rfl,
            S9.tail.poke hgl9 (fun z => noOw1 (gA.shr _ z)) hl0, gA, upd_same, hgl9, (RepL.mono (g8.gg.trans g9.gg) ra).app (.cons rd9 .nil), e5⟩
        · cases e5
    · -- the end
      have he' : i = ds.length := by omega
      subst he'
      rw [List.drop_length] at ed
      cases ed
      refine thn (T.done (compCx X M scope x s3 (upd H1 s2.heap.objs.size (.lst [])) fp (X.pn ++ pins)) rfl rfl rfl hc ds.length [] s' (ov :: σ) H' _ I' (stat fr') st' (io.stop H' (S'.g0.trans S'.gh))) fun r s5 ⟨hr, I5⟩ => ?_
      subst hr
      have up : StOk X.K ML G0 H0 G' H' σ δE := S.unbase S'
      refine hR _ _ s5 G' H' vs hl (by rw [e3, Heap.size_push]; exact Nat.le_succ _) I5.free ?_ up g' hv hgl ra fun h' hsb' => inv_back I3 hf3 I5 hsb'
      obtain ⟨m, hn, _⟩ := I5.loc
      exact ⟨m, hn⟩
  show codeAny (model X.prog X.w) X.A (.compStart (.ListComp elt [⟨.Name x px, iter, ifs, 0⟩] scope pos) 0 (.ref it) (.ref s2.heap.objs.size) (compEnvC scope (clOf X.env.cells scope.names []) s3.heap.objs.size X.env)) (RR (.ref s2.heap.objs.size) s3.heap.objs.size) _
  exact codeAny_compStart_list (loop _ (by rw [← hs3])) (T.self _ 0 _ _ _ st4 (loop _ (by rw [← hs3])))
end
end L4


namespace L4
open PySem PySem.Spec PyProof.Rows L2
section
variable {X : Cx} {M : List Str} {scope : Scope} {x : Str} {elt iter : Expr} {ifs : List Expr} {pos px : Pos} {fs : FL} {fc : Option FT} {fe : FE}
theorem de_comp (c : CompOk X M scope x) (hc : X.calm = true) (src : DI X (.Name x px) iter fs) (ht : TestsOk X M scope x ifs fc) (he : ∀ s H fp pn, DE (compCx X M scope x s H fp pn) elt fe) (hs : ∀ y, foldedSetIterable iter X.env y = pure y := by intro _; rfl) :
    DE X (.ListComp elt [⟨.Name x px, iter, ifs, 0⟩] scope pos) (fComp fs fc fe) := by
  refine ⟨fun σ H Q => ∀ pins s, Inv X pins σ H s → wpAny (model X.prog X.w) X.A (eval (.ListComp elt [⟨.Name x px, iter, ifs, 0⟩] scope pos) X.env) (EP X pins σ Q) X.xe s, fun pins s σ H Q I h => h pins s I, ?_⟩
  intro ML G0 H0 G H σ δ sl δ' Q S e k pins s I
  obtain ⟨wi, hi, si⟩ := src
  rcases Rs.inv e with ⟨ds, δ1, e1, e⟩ | ⟨x', e1, rfl⟩
  rotate_left
  · rw [eval_ListComp]
    exact wpAny_comprehension_free (use := none) rfl hs (closure_eq (c.cells I.ok)) c.kind c.names
      (thn (hi pins s σ H (fun _ _ => False) I (si ML G0 H0 G H σ δ (.error x') _ _ S e1 k)) fun v s1 h1 => thn h1 fun itv s2 h2 => by
        obtain ⟨_, _, _, _, _, _, _, _, _, _, z⟩ := h2; exact z.elim)
  obtain ⟨res, δ2, e2, e⟩ : ∃ (res : List D) (δ2 : DEnv), compD fc fe ds [] δ1 = some (res, δ2) ∧ some (Except.ok (Sl.own (.lst res)), δ2) = some (sl, δ') := by
    split at e
    · rename_i r9 δ9 e9; exact ⟨r9, δ9, e9, e⟩
    · cases e
  cases e
  rw [eval_ListComp]
  refine wpAny_comprehension_free (use := none) rfl hs (closure_eq (c.cells I.ok)) c.kind c.names
    (thn (hi pins s σ H (fun J H1 => ∃ G1, StOk X.K ML G0 H0 G1 H1 σ δ1 ∧ Gr G H σ δ G1 H1 δ1 ∧ IterOk X.K J ds G1) I (si ML G0 H0 G H σ δ (.ok ds) δ1 _ S e1 fun J G1 H1 S1 g1 io => ⟨G1, S1, g1, io⟩)) fun v s1 h1 => thn h1 fun itv s2 h2 => ?_)
  obtain ⟨it, fp, tn, J, H1, rfl, I2, T, st2, f2, G1, S1, g1, io⟩ := h2
  refine comp_block (RR := fun acc C => compPost (model X.prog X.w) X.A X.xe none (EP X pins σ Q) acc C) c hc ht he I2 T st2 f2 S1 io e2 ?_
  intro l C s' G' H' vs hl _ _ hm S' g' hv hgl ra back
  obtain ⟨m, hn⟩ := hm
  refine ⟨m, hn, fun h' hsb => ⟨.ref l, H', back h' hsb, rfl, k _ G' H' S' (g1.trans g') ⟨⟨l, rfl, hgl, vs, hv, ra⟩, fun _ => ⟨⟨_, rfl⟩, l, rfl, g1.free hl⟩⟩⟩⟩
theorem tests_no : TestsOk X M scope x [] none := .inl ⟨rfl, rfl⟩
end
end L4


namespace L4
open PySem PySem.Spec PyProof.Rows L2
/-! ### a text walked sign by sign -/
section
variable {X : Cx} {tg : Expr}
end
noncomputable def signsD (z : Str) : List D := z.cps.toList.map fun c => D.str ⟨#[c]⟩
noncomputable def itemsD : D → Option (List D)
  | .lst ds => some ds
  | .tup ds => some ds
  | .str z => some (signsD z)
  | _ => none
noncomputable def fItA (f : FE) : FL := fun δ => (f δ).bind fun p δ => lift (itemsD p.fz) δ
/-! ### texts: slices, int(text), index -/
theorem part_of {v : Value} {o : Option Int} (h : IsPart v o) : ∃ l : Option (Int × Tok), v = partValue l ∧ l.map (·.1) = o := by
  cases h with
  | none => exact ⟨none, rfl, rfl⟩
  | int i t => exact ⟨some (i, t), rfl, rfl⟩
noncomputable def cutS (z : Str) (lo hi : Option Int) : Str := if (Builtin.Str.strSliceIndices lo hi 1 z.length).length = z.length then z else ⟨((Builtin.Str.strSliceIndices lo hi 1 z.length).filterMap (z.cps[·]?)).toArray⟩
theorem sl_str {X : Cx} : SlR X (fun x lo hi H Q => ∃ z, x = .str z ∧ (cutS z lo hi).length ≤ sizeLine ∧ Q (.str (cutS z lo hi)) H) := by
  intro pins s σ H x v vl vu lo hi sl Q I rx hs pl pu h
  obtain ⟨z, rfl, hz, q⟩ := h
  obtain ⟨t, rfl⟩ := rx
  obtain ⟨l, rfl, rfl⟩ := part_of pl
  obtain ⟨u, rfl, rfl⟩ := part_of pu
  refine ⟨"str", _, F.slot_str_getitem.lookup, typeIs_str _ z t, wpAny_getItem_str_slice (l := l) (u := u) (st := none) ?_ rfl ?_⟩
  · obtain ⟨o, h1, h2, h3⟩ := hs
    exact ⟨o, h1, h2, h3⟩
  · unfold sliceMade slicePicked
    have e1 : ((Option.map (fun x => x.1) (none : Option (Int × Tok))).getD 1) = 1 := rfl
    rw [e1]
    by_cases hw : (Builtin.Str.strSliceIndices (l.map (·.1)) (u.map (·.1)) 1 z.length).length = z.length
    · rw [if_pos (by simp [hw])]
      refine ⟨.str z, H, I, ⟨t, rfl⟩, ?_⟩
      unfold cutS at q
      rw [if_pos hw] at q
      exact q
    · rw [if_neg (by simp [hw])]
      unfold cutS at q hz
      rw [if_neg hw] at q hz
      exact ⟨hz, .str _, H, I.tok _, ⟨_, rfl⟩, q⟩
noncomputable def slSD (d : D) (lo hi : Option Int) : Option Sl := match d with
  | .lst ds => some (.own (.lst (cutD ds lo hi)))
  | .str z => if (cutS z lo hi).length ≤ sizeLine then some (.val (.str (cutS z lo hi))) else none
  | .tup ds => if ¬ (HT.sIx ds.length 0 lo = 0 ∧ HT.sIx ds.length ds.length hi = ds.length) then some (.val (.tup (cutD ds lo hi))) else none
  | _ => none
theorem s_any {K : PySem.W.Frag} : SndSl K (fun x lo hi H Q => rSlL K x lo hi H Q ∨ rSlT K x lo hi H Q ∨ ∃ z, x = .str z ∧ (cutS z lo hi).length ≤ sizeLine ∧ Q (.str (cutS z lo hi)) H) slSD := by
  intro M G0 H0 G H σ δ x d lo hi s Q S r e k
  unfold slSD at e
  split at e
  · cases e
    obtain ⟨l, xs, rfl, q1, l1⟩ := rep_lst r
    refine .inl ⟨l, xs, rfl, (same_ls S.gh q1).sq, fun p hp => ?_⟩
    obtain ⟨S2, g2, r⟩ := S.newLst hp (l1.cut lo hi)
    exact k _ _ _ S2 g2 r
  · split at e
    · rename_i hz
      cases e
      cases rep_str r
      exact .inr (.inr ⟨_, rfl, hz, k _ G H S (Gr.refl ..) (.val (.str _))⟩)
    · cases e
  · split at e
    · rename_i hw
      cases e
      obtain ⟨l, xs, rfl, q1, l1⟩ := rep_tup r
      refine .inr (.inl ⟨l, xs, rfl, same_sqT S.gh q1, by rw [l1.len]; exact hw, fun p hp => ?_⟩)
      obtain ⟨S2, g2, r⟩ := S.newTup hp (l1.cut lo hi)
      exact k _ _ _ S2 g2 r
    · cases e
  · cases e
section
variable {X : Cx} {e : Expr} {es : List Expr} {f1 : FE} {fl : FL} {pos p : Pos}
theorem de_slS {lo hi : Option Expr} {fl fh : FO} {p2 : Pos} (ha : DE X e f1) (hl : DP X lo fl) (hh : DP X hi fh) : DE X (.Subscript e (.Slice lo hi none p2) pos) (fSl slSD f1 fl fh) :=
  let ⟨_, a1, a2⟩ := ha; let ⟨_, b1, b2⟩ := hl; let ⟨_, y1, y2⟩ := hh; ⟨_, pe_slice (sl_list.or (sl_tup.or sl_str)) a1 b1 y1, snd_sl s_any a2 b2 y2⟩
end
end L4


namespace L4
open PySem PySem.Spec PyProof.Rows L2
/-! ### methods of a text -/
/-! ### all, any of a list of bools -/
/-! ### int of a text -/
noncomputable def intSD (d : D) : Option Sl := match d with
  | .str z => if z.length ≤ 640 then (intText? z).map fun n => .val (.int n) else none
  | d => intD d
section
variable {X : Cx} {e o : Expr} {es : List Expr} {f1 fo : FE} {fl : FL} {pos p : Pos}
end
end L4


namespace L4
open PySem PySem.Spec PyProof.Rows L2
noncomputable def compChk (scope sc : Scope) (M N : List Str) (x : Str) : Bool :=
  (scope.kind == .function) && scope.names.all (fun p => p.2 != .cell) && (scope.names.lookup x == some .local) && scope.names.all (fun p => p.2 != .local || (scope.names.lookup p.1 == some .local && !M.contains p.1)) &&
    scope.names.all (fun p => p.2 != .free || (sc.names.lookup p.1 == some .cell || sc.names.lookup p.1 == some .free)) && scope.names.all (fun p => p.1 != "") && (M.length == N.length) && (M.zip N).all (fun p => p.1 == "" || p.1 == p.2) && decide ((x :: M).Nodup)
theorem comp_ok {X : Cx} {M : List Str} {scope : Scope} {x : Str} {sc : Scope} {N : List Str} (hsc : X.env.scope = sc) (hN : X.N = N) (chk : compChk scope sc M N x = true) : CompOk X M scope x := by
  subst hsc hN
  unfold compChk at chk
  simp only [Bool.and_eq_true] at chk
  obtain ⟨⟨⟨⟨⟨⟨⟨⟨h1, h2⟩, h3⟩, h4⟩, h5⟩, h6⟩, h7⟩, h8⟩, h9⟩ := chk
  have a4 : ∀ p ∈ scope.names, p.2 = .local → scope.names.lookup p.1 = some .local ∧ p.1 ∉ M := fun p hp hl => by
    have := List.all_eq_true.mp h4 p hp
    rw [Bool.or_eq_true] at this
    rcases this with z | z
    · rw [hl] at z; simp at z
    · rw [Bool.and_eq_true] at z
      exact ⟨eq_of_beq z.1, fun hm => by simp [hm] at z⟩
  refine ⟨eq_of_beq h1, fun p hp e => ?_, eq_of_beq h3, fun p hp hl => (a4 p hp hl).1, fun p hp hl => (a4 p hp hl).2, fun p hp hf => ?_, fun p hp e => ?_, eq_of_beq h7, fun p hp => ?_, of_decide_eq_true h9⟩
  · have := List.all_eq_true.mp h2 p hp
    rw [e] at this; simp at this
  · have := List.all_eq_true.mp h5 p hp
    rw [Bool.or_eq_true] at this
    rcases this with z | z
    · rw [hf] at z; simp at z
    · rw [Bool.or_eq_true] at z
      exact z.imp eq_of_beq eq_of_beq
  · have := List.all_eq_true.mp h6 p hp
    rw [e] at this; simp at this
  · have := List.all_eq_true.mp h8 p hp
    rw [Bool.or_eq_true] at this
    exact this.imp eq_of_beq eq_of_beq
end L4


namespace L4
open PySem PySem.Spec PyProof.Rows L2
/-! ### sum, max, min of a list of ints; insert -/
section
variable {X : Cx} {e : Expr} {es : List Expr} {fl : FL} {pos p : Pos}
end
/-! x.insert(k, v) -/
noncomputable def insAt {α : Type} (xs : List α) (k : Nat) (x : α) : List α := xs.take k ++ x :: xs.drop k
theorem Vals.ins {x : V} {u : Value} (r : RelV x u) {xs : List V} {us : List Value} (k : Nat) (h : Vals xs us) : Vals (insAt xs k x) (insAt us k u) := (h.take k).append (.cons r (h.drop k))
theorem RepL.ins {K : PySem.W.Frag} {G : Hp} {v : V} {d : D} (h : Rep K G v d) {vs : List V} {ds : List D} (k : Nat) (r : RepL K G vs ds) : RepL K G (insAt vs k v) (insAt ds k d) := (RepL.take k r).app (.cons h (RepL.drop k r))
section
variable {X : Cx} {e o : Expr} {es : List Expr} {fe : FE} {fl : FL} {pos p : Pos}
end
end L4


namespace L4
open PySem L2
/-! ### more values, for rewriting -/
theorem isi_str (x : Str) : isiD (.str x) (.ty "str") = some (.val (.bl true)) := rfl
end L4


namespace L4
open PySem PySem.Spec PyProof.Rows L2
section
variable {X : Cx} {pins : List (Addr × Obj)} {σ : L2.St} {H : Hp} {s : Shared}
theorem hok_there {P : Program} {w : World} {h : Heap} (hok : HOk P w H h) {b : Addr} {o : HO} (q : H b = some o) : ∃ ob, h.get? b = some ob := by
  have k := hok b o q
  cases o with
  | lst xs => obtain ⟨_, its, n, _, e⟩ := k; exact ⟨_, e⟩
  | tup xs => obtain ⟨_, its, _, ob, e, _⟩ := k; exact ⟨_, e⟩
  | dK kvs => obtain ⟨_, _, _, _, ob, _, _, e, _⟩ := k; exact ⟨_, e⟩
  | dT kvs => obtain ⟨_, _, _, _, ob, _, _, e, _⟩ := k; exact ⟨_, e⟩
  | set S n => obtain ⟨ob, _, _, _, e, _⟩ := k; exact ⟨_, e⟩
  | ins C dx fs => obtain ⟨_, _, _, e, _⟩ := k; exact ⟨_, e⟩
  | own y => obtain ⟨ob, e⟩ := k; exact ⟨_, e⟩
  | xd fs => obtain ⟨mA, ⟨od, _, _, e, _⟩, _⟩ := k; exact ⟨_, e⟩
  | rng lo hi => obtain ⟨_, _, _, e⟩ := k; exact ⟨_, e⟩
  | frz ob u => obtain ⟨e, _⟩ := k; exact ⟨_, e⟩
  | tbl ps => have e : h.get? b = some { cls := .none, data := .fields ps } := k; exact ⟨_, e⟩
  | met f y => have e : h.get? b = some (PySem.W.methodObj (.ref f) (.ref y)) := k; exact ⟨_, e⟩
  | ext φ => obtain ⟨_, ⟨ob, e⟩, _⟩ := k; exact ⟨_, e⟩
theorem Inv.new (I : Inv X pins σ H s) {b : Addr} (hb : s.heap.get? b = none) : New X pins b ∧ H b = none := by
  refine ⟨⟨fun hx => ?_, fun p hp z => ?_⟩, ?_⟩
  · cases q' : X.s₀.heap.get? b with
    | none => rfl
    | some o =>
      obtain ⟨o', z⟩ := I.base.there b o q' hx
      rw [hb] at z; cases z
  · have := (I.pin p hp).1
    rw [z, hb] at this; cases this
  · cases q : H b with
    | none => rfl
    | some o => obtain ⟨ob, z⟩ := hok_there I.hok q; rw [hb] at z; cases z
end
abbrev veBm : List Value := [.type "ValueError", .type "Exception", .type "BaseException", .type "object"]
structure ExC (K : PySem.W.Frag) (x : Str) (C : Addr) : Prop where
  at' : ExN K x (.ref C)
  is : PySem.W.excIn K C veBm "ValueError.__new__" = true
theorem ExC.obj {K : PySem.W.Frag} {x : Str} {C : Addr} {h : Heap} (c : ExC K x C) (KX : K.In h) :
    ∃ bm N nm q bs hdct sn sub ab col dd k0 k1 k2 k3 k5 mN, h.get? C = some (excClassObj nm q C N bs bm hdct sn sub ab col dd k0 k1 k2 k3 k5 "ValueError.__new__") ∧ h.Ns N mN ∧ mN "__init__" = none ∧ OwnTail h veBm bm := by
  have q := c.is
  unfold PySem.W.excIn at q
  split at q
  · rename_i dd cd sl ho
    split at q
    · rename_i C' bm k0 k1 k2 k3 n k5 hm hs
      simp only [Bool.and_eq_true, beq_iff_eq, Bool.not_eq_true'] at q
      obtain ⟨⟨⟨⟨⟨e1, e2⟩, e3⟩, e4⟩, e5⟩, e6⟩ := q
      subst e1 e2
      cases cd with
      | mk nm bs mro ns qn hd sn sub ab col del =>
        dsimp only at hm e3 e5 e6
        subst hm e3
        have es : sl = #[k0, k1, k2, k3, some (.builtin "ValueError.__new__"), k5] := by
          cases sl with
          | mk l => simp only at hs; rw [hs]
        subst es
        exact ⟨bm, ns, nm, qn, bs, hd, sn, sub, ab, col, dd, k0, k1, k2, k3, k5, _, KX _ _ ho, .of_isNs (PySem.W.isNs_of_in KX e5), PySem.W.nsMap_none_of_in KX e5 e6, PySem.W.tail_of_in KX e4⟩
    · cases q
  · cases q
section
variable {X : Cx} {x : Str} {C : Addr} {np cpos pos : Pos} {e : Expr} {es : List Expr} {t : TA} {fl : FL}
end
end L4


namespace L4
open PySem PySem.Spec PyProof.Rows L2
/-! ### try -/
abbrev _root_.L2.Cx.suite (X : Cx) (e : Addr) (E : Value → Shared → Prop) : Cx := { X with A := X.A.mark (some (.ref e)), calm := false, xe := E }
section
variable {X : Cx} {pins pins' pn : List (Addr × Obj)} {σ : L2.St} {H : Hp} {s : Shared} {e : Addr} {E E₁ : Value → Shared → Prop} {J : Value → Shared → Prop}
theorem _root_.L2.Inv.suite (I : Inv X pins σ H s) : Inv (X.suite e E) pins σ H s :=
  ⟨⟨I.ok.mod, I.ok.kind, I.ok.glob, I.ok.blt, I.ok.above, I.ok.inj, I.ok.has, I.ok.cab, (fun z => nomatch z), I.ok.frames, I.ok.stk, I.ok.exf, I.ok.bs, I.ok.bsz, I.ok.noex, I.ok.exfs, I.ok.funs, I.ok.frf⟩, I.os, I.bare, I.base, I.loc, I.cell, I.free, I.freeC, I.pin, I.hok, I.len⟩
theorem _root_.L2.Inv.unsuite {σ' : L2.St} {H' : Hp} {s' : Shared} (I : Inv X pins σ H s) (I' : Inv (X.suite e E) pins σ' H' s') : Inv X pins σ' H' s' := ⟨I.ok, I'.os, I'.bare, I'.base, I'.loc, I'.cell, I'.free, I'.freeC, I'.pin, I'.hok, I'.len⟩
theorem Air.sub {N N' : Addr → Prop} {h : Heap} {C : Value} (a : Air N H h e C) (k : ∀ b, N b → N' b) : Air N' H h e C := by
  refine ⟨k _ a.n, a.f, ?_⟩
  obtain ⟨oe, vs, e1, e2, e3, e4⟩ := a.ex
  refine ⟨oe, vs, e1, e2, e3, ?_⟩
  rcases e4 with e4 | ⟨T, oT, ts, y1, y2, y3⟩
  · exact .inl e4
  · exact .inr ⟨T, oT, ts, y1, k _ y2, y3⟩
theorem SP.unsuite {D : Ends} {f : Flow} {s' : Shared} (I : Inv X pins σ H s) (h : SP (X.suite e E) pins D f s') : SP X pins D f s' := by
  cases f with
  | next => obtain ⟨σ', H', I', q⟩ := h; exact ⟨σ', H', I.unsuite I', q⟩
  | brk => obtain ⟨σ', H', I', q⟩ := h; exact ⟨σ', H', I.unsuite I', q⟩
  | cont => obtain ⟨σ', H', I', q⟩ := h; exact ⟨σ', H', I.unsuite I', q⟩
  | ret u => obtain ⟨v, σ', H', I', r, q⟩ := h; exact ⟨v, σ', H', I.unsuite I', r, q⟩
theorem _root_.L2.Inv.track {C : Value} (I : Inv X pins σ H s) (a : Air (New X pins) H s.heap e C) (hex : X.ex = []) : Inv X pins σ (upd H e (.ext (XObj e C))) s := by
  obtain ⟨oe, vs, he, hC, hd, _⟩ := a.ex
  obtain ⟨y1, y2, y3⟩ := rec_ne I he hd
  have ne : ∀ b o, H b = some o → b ≠ e := fun b o q z => by rw [z, a.f] at q; cases q
  have n0 : ∀ b o, X.s₀.heap.get? b = some o → b ≠ e := fun b o q z => by rw [z, a.n.1 (by rw [hex]; simp)] at q; cases q
  refine ⟨I.ok, I.os, I.bare, ⟨I.base.keep, I.base.slot, fun b o q n hx => ?_, I.base.there, fun b xs q => ?_, fun b o u q => ?_, fun b ps q => ?_⟩, I.loc, I.cell, ?_, fun x c hc => ?_, fun p hp => ?_, fun b o q => ?_, I.len⟩
  · rw [upd_ne (n0 b o q)]; exact I.base.free b o q n hx
  · have z := I.base.tups b xs q
    rw [upd_ne (ne b _ z)]; exact z
  · have z := I.base.frzs b o u q
    rw [upd_ne (ne b _ z)]; exact z
  · obtain ⟨more, z⟩ := I.base.tbls b ps q
    exact ⟨more, by rw [upd_ne (ne b _ z)]; exact z⟩
  · rw [upd_ne (Ne.symm y1)]; exact I.free
  · rw [upd_ne (y2 x c hc)]; exact I.freeC x c hc
  · obtain ⟨q1, q2, q3⟩ := I.pin p hp
    exact ⟨q1, by rw [upd_ne (a.n.2 p hp)]; exact q2, q3⟩
  · by_cases hb : b = e
    · subst hb
      rw [upd_same] at q
      cases q
      refine ⟨⟨oe, vs, he, hC, hd⟩, ⟨oe, he⟩, fun h1 h2 ⟨o1, v1, z1, z2⟩ k => ⟨o1, v1, k _ z1, z2⟩⟩
    · rw [upd_ne hb] at q
      exact (I.hok b o q).stay (fun _ _ _ z => z) (fun c z => by rw [upd_ne (ne c _ z)]; exact z) fun c xs z => by rw [upd_ne (ne c _ z)]; exact z
theorem _root_.L2.Inv.unset {i : Nat} {n : Str} {h' : Heap} {v : Option Value} {t : Nat} (I : Inv X pins σ H s) (hN : X.N.Nodup) (hi : X.N[i]? = some n) {m : Str → Option Value} (hl : ∀ (i : Nat) (x : Str) (v : V), X.N[i]? = some x → σ[i]? = some (some v) → Vis X.env.scope x → ∃ u, RelV v u ∧ Look X.env s.heap m x u) (hn' : h'.Ns X.env.locals (fun x => if x = n then v else m x)) (hs : Heap.SameBut X.env.locals s.heap h') : Inv X pins (σ.set i none) H { s with heap := h', toks := t } := by
  have cne := I.cne
  have nl : ∀ b o, X.s₀.heap.get? b = some o → b ≠ X.env.locals := fun b o e => Nat.ne_of_lt (Nat.lt_of_lt_of_le (Heap.lt_size e) I.ok.above)
  refine ⟨I.ok, I.os, I.bare, ⟨fun b o e n hb hx => (hs.2 b (nl b o e)).trans (I.base.keep b o e n hb hx), fun b o e n hb hx => ?_, I.base.free, fun b o e hx => ?_, I.base.tups, I.base.frzs, I.base.tbls⟩, ⟨_, hn', fun j y v' e1 e2 e3 => ?_⟩, fun y c e => ?_, I.free, I.freeC, fun p hp => ?_, fun b o q => ?_, by simpa using I.len⟩
  · obtain ⟨sl, e1⟩ := I.base.slot b o e n hb hx
    exact ⟨sl, (hs.2 b (nl b o e)).trans e1⟩
  · obtain ⟨o', e1⟩ := I.base.there b o e hx
    exact ⟨o', (hs.2 b (nl b o e)).trans e1⟩
  · by_cases hj : j = i
    · subst hj
      by_cases hl' : j < σ.length
      · rw [List.getElem?_set_self hl'] at e2; cases e2
      · rw [List.getElem?_eq_none (by simpa using Nat.le_of_not_lt hl')] at e2; cases e2
    · rw [List.getElem?_set_ne (Ne.symm hj)] at e2
      obtain ⟨u', r', q⟩ := hl j y v' e1 e2 e3
      refine ⟨u', r', ?_⟩
      rcases q with ⟨k, e⟩ | ⟨k, c, e, z⟩
      · refine .inl ⟨k, ?_⟩
        have : y ≠ n := fun e => hj (nodup_ix hN e1 (e ▸ hi))
        simp [this, e]
      · exact .inr ⟨k, c, e, z.sameBut hs (cne y c e)⟩
  · obtain ⟨w', z⟩ := I.cell y c e
    exact ⟨w', z.sameBut hs (cne y c e)⟩
  · obtain ⟨e, n, ne, nf, d⟩ := I.pin p hp
    exact ⟨(hs.2 p.1 ne).trans e, n, ne, nf, d⟩
  · refine (I.hok b o q).stay (fun c w' hc z => (hs.2 c ?_).trans z) (fun _ z => z) fun _ _ z => z
    rintro rfl
    rcases hc with hc | hc
    · rw [← hc, I.free] at q; cases q
    · rw [I.free] at hc; cases hc
theorem name_goes {A : Around} {i : Nat} {n : Str} {pos : Pos} {Q : Unit → Shared → Prop} (I : Inv X pins σ H s) (hN : X.N.Nodup) (hi : X.N[i]? = some n) (hx : X.env.scope.names.lookup n = some .local) (k : ∀ s', Inv X pins (σ.set i none) H s' → Q () s') :
    wpAny (model X.prog X.w) A (do bindName X.env n .none; unbindBehindTheSuite X.env n pos) Q E s := by
  obtain ⟨m, hn, hl⟩ := id I.loc
  exact wpAny_nameGoes_keeps hx hn (by rw [I.ok.kind]; rfl) fun h' v hn' hs => k _ (I.unset hN hi hl hn' hs)
end
theorem StOk.unset {K : PySem.W.Frag} {M : Nat → Option Addr} {G0 H0 G H : Hp} {σ : L2.St} {δ : DEnv} (S : StOk K M G0 H0 G H σ δ) (i : Nat) : StOk K M G0 H0 G H (σ.set i none) (δ.set i none) ∧ ∀ p, Ow (σ.set i none) (δ.set i none) p → Ow σ δ p := by
  have at_ : ∀ (j : Nat) (s : Sl), (δ.set i none)[j]? = some (some s) → j ≠ i ∧ δ[j]? = some (some s) := fun j s z => by
    by_cases hj : j = i
    · subst hj
      by_cases hl : j < δ.length
      · rw [List.getElem?_set_self hl] at z; cases z
      · rw [List.getElem?_eq_none (by simpa using Nat.le_of_not_lt hl)] at z; cases z
    · rw [List.getElem?_set_ne (Ne.symm hj)] at z; exact ⟨hj, z⟩
  have ow : ∀ p, Ow (σ.set i none) (δ.set i none) p → Ow σ δ p := fun p ⟨j, s, z1, os, z2⟩ => by
    obtain ⟨hj, z1⟩ := at_ j s z1
    rw [List.getElem?_set_ne (Ne.symm hj)] at z2
    exact ⟨j, s, z1, os, z2⟩
  refine ⟨⟨S.gh, ⟨by simpa using S.env.len, fun j s z => ?_, fun j j' p a b z1 z2 oa ob z3 z4 => ?_⟩, S.h0, S.g0, S.fr, fun p z => S.own0 p (ow p z), fun j d z => ?_⟩, ow⟩
  · obtain ⟨hj, z⟩ := at_ j s z
    rw [List.getElem?_set_ne (Ne.symm hj)]
    exact S.env.at' j s z
  · obtain ⟨h1, z1⟩ := at_ j a z1
    obtain ⟨h2, z2⟩ := at_ j' b z2
    rw [List.getElem?_set_ne (Ne.symm h1)] at z3
    rw [List.getElem?_set_ne (Ne.symm h2)] at z4
    exact S.env.sep j j' p a b z1 z2 oa ob z3 z4
  · obtain ⟨hj, z⟩ := at_ j _ z
    rw [List.getElem?_set_ne (Ne.symm hj)]
    exact S.mt j d z
structure Hd where
  m : Str → Option Bool
  as : Option Nat
  f : FS
noncomputable def Out.isEx : Out → Bool
  | .ex _ _ => true
  | _ => false
noncomputable def Out.clear (i : Nat) : Out → Out
  | .next δ => .next (δ.set i none)
  | .brk δ => .brk (δ.set i none)
  | .cont δ => .cont (δ.set i none)
  | .ret s δ => .ret s (δ.set i none)
  | .ex x δ => .ex x δ
noncomputable def suiteD (h : Hd) (x : XD) (δ : DEnv) : Option Out := match h.as with
  | none => (h.f δ).bind fun o => if o.isEx = true then none else some o
  | some i => (h.f (δ.set i (some (.val (.exc x.c))))).bind fun o => if o.isEx = true then none else some (o.clear i)
noncomputable def hanD : List Hd → XD → DEnv → Option Out
  | [], _, _ => none
  | h :: r, x, δ => match h.m x.c with
    | some true => suiteD h x δ
    | some false => hanD r x δ
    | none => none
noncomputable def Takes (K : PySem.W.Frag) (m : Str → Option Bool) (Cn : Value) : Prop := ∀ c b, m c = some b → ∀ C, ExN K c C → PySem.W.exmOne K C Cn = some b
inductive DH (X : Cx) : List ExceptHandler → List Hd → Prop where
  | nil : DH X [] []
  | plain {cn : Str} {np pos : Pos} {b₀ : Stmt} {suite : List Stmt} {rest : List ExceptHandler} {hs : List Hd} {m : Str → Option Bool} {f : FS} {Cn : Value} : Gl X cn → (cn == ("__debug__" : Str)) = false → ExN X.K cn Cn → Takes X.K m Cn →
      (∀ e, DB (X.suite e fun _ _ => False) (b₀ :: suite) f) → DH X rest hs → DH X (.ExceptHandler (some (.Name cn np)) none (b₀ :: suite) pos :: rest) (⟨m, none, f⟩ :: hs)
  | as {cn n : Str} {i : Nat} {np pos : Pos} {b₀ : Stmt} {suite : List Stmt} {rest : List ExceptHandler} {hs : List Hd} {m : Str → Option Bool} {f : FS} {Cn : Value} : Gl X cn → (cn == ("__debug__" : Str)) = false → ExN X.K cn Cn → Takes X.K m Cn →
      X.N.Nodup → X.N[i]? = some n → X.env.scope.names.lookup n = some .local →
      (∀ e, DB (X.suite e fun _ _ => False) (b₀ :: suite) f) → DH X rest hs → DH X (.ExceptHandler (some (.Name cn np)) (some n) (b₀ :: suite) pos :: rest) (⟨m, some i, f⟩ :: hs)
section
variable {X : Cx} {pins : List (Addr × Obj)} {e : Addr} {C : Value} {x : XD} {M : Nat → Option Addr} {G0 H0 : Hp} {D : Ends}
theorem handled (hex : X.ex = []) (nc : ExN X.K x.c C) {hs : List ExceptHandler} {ds : List Hd} (h : DH X hs ds) : ∀ {σ : L2.St} {δ : DEnv} {G H : Hp} {s : Shared} {o : Out}, StOk X.K M G0 H0 G H σ δ → Inv X pins σ H s → Air (New X pins) H s.heap e C → hanD ds x δ = some o → PostS X M G0 H0 D o →
    wpAny (model X.prog X.w) X.A (handleBy (.ref e) X.env hs) (SP X pins D) X.xe s := by
  induction h with
  | nil => intro σ δ G H s o _ _ _ q; cases q
  | @plain cn np pos b₀ suite rest hs m f Cn hg hdb hcn hm hb _ ih =>
    intro σ δ G H s o S I air q k
    obtain ⟨oe, vs, he, hC, hd, _⟩ := id air.ex
    refine wpAny_handleBy_cons (codeAny_handlers_test ?_) (by intro z; cases z)
    refine ld_glob (X := X.suite e fun _ _ => False) I.suite hg (PySem.W.mg_of I.mod.kin I.mod.glob hcn) ?_ hdb
    unfold hanD at q
    dsimp only at q
    have LT : PySem.W.Looks (model X.prog X.w) s.heap (typeOf (.ref e)) C := by
      rw [← hC]
      exact (PySem.W.Looks.ld he).andThen .now
    cases hb' : m x.c with
    | none => rw [hb'] at q; cases q
    | some b =>
      rw [hb'] at q
      refine (PySem.W.exm_one I.kIn LT (hm x.c b hb' C nc)).here ?_
      cases b with
      | false => exact ih S I air q k
      | true =>
        refine codeAny_handlers_suite ?_
        refine air_flight I air hex fun h' I' air' => ?_
        obtain ⟨t, pt, snd⟩ := hb e
        obtain ⟨o1, q1, q2⟩ := Option.bind_eq_some_iff.mp (show (f δ).bind _ = some o from q)
        by_cases hx1 : o1.isEx = true
        · rw [if_pos hx1] at q2; cases q2
        · rw [if_neg hx1] at q2
          have e12 : o1 = o := Option.some.inj q2
          subst e12
          refine wpAny_mono (pt pins _ σ H D I'.suite (snd M G0 H0 G H σ δ o1 D S q1 ?_)) (fun fl s2 z => ?_) fun _ _ z => z.elim
          · cases o1 with
            | ex x' δ' => exact absurd rfl hx1
            | _ => exact k
          · exact SP.unsuite I' z
  | @as cn n i np pos b₀ suite rest hs m f Cn hg hdb hcn hm hN hi hx hb _ ih =>
    intro σ δ G H s o S I air q k
    obtain ⟨oe, vs, he, hC, hd, _⟩ := id air.ex
    refine wpAny_handleBy_cons (codeAny_handlers_test ?_) (by intro z; cases z)
    refine ld_glob (X := X.suite e fun _ _ => False) I.suite hg (PySem.W.mg_of I.mod.kin I.mod.glob hcn) ?_ hdb
    unfold hanD at q
    dsimp only at q
    have LT : PySem.W.Looks (model X.prog X.w) s.heap (typeOf (.ref e)) C := by
      rw [← hC]
      exact (PySem.W.Looks.ld he).andThen .now
    cases hb' : m x.c with
    | none => rw [hb'] at q; cases q
    | some b =>
      rw [hb'] at q
      refine (PySem.W.exm_one I.kIn LT (hm x.c b hb' C nc)).here ?_
      cases b with
      | false => exact ih S I air q k
      | true =>
        refine codeAny_handlers_suite_as ?_
        refine air_flight I air hex fun h' I' air' => ?_
        obtain ⟨t, pt, snd⟩ := hb e
        obtain ⟨o1, q1, q2⟩ := Option.bind_eq_some_iff.mp (show (f (δ.set i (some (.val (.exc x.c))))).bind _ = some o from q)
        have I2 := I'.track air' hex
        obtain ⟨S1, g1, n1⟩ := S.new (o := .ext (XObj e C)) air.f
        obtain ⟨S2, hs2⟩ := S1.showAt (p := e) (o := .ext (XObj e C)) upd_same n1 (fun z => S.noOw air.f z) (Same.free S.h0 air.f)
        have S3 := S2.set i (v := .ref e) (s := .val (.exc x.c)) (.exc nc upd_same) fun z => nomatch z
        refine store_ok (X := X.suite e fun _ _ => False) I2.suite hN hi (.inl hx) (v := .ref e) rfl (fun s3 I3 => ?_) (.inr hx)
        by_cases hx1 : o1.isEx = true
        · rw [if_pos hx1] at q2; cases q2
        · rw [if_neg hx1] at q2
          cases q2
          refine wpAny_mono (pt pins _ _ _ { nx := fun σ H => D.nx (σ.set i none) H, rt := D.rt, bk := fun σ H => D.bk (σ.set i none) H, ct := fun σ H => D.ct (σ.set i none) H } I3 (snd M G0 H0 _ _ _ _ o1 _ S3 q1 ?_)) (fun fl s4 z => ?_) fun _ _ z => z.elim
          · cases o1 with
            | ex x' δ' => exact absurd rfl hx1
            | next δ' => intro σ' G' H' S'; exact k _ G' H' (S'.unset i).1
            | brk δ' => intro σ' G' H' S'; exact k _ G' H' (S'.unset i).1
            | cont δ' => intro σ' G' H' S'; exact k _ G' H' (S'.unset i).1
            | ret r δ' =>
              intro v σ' G' H' S' r'
              obtain ⟨S5, ow⟩ := S'.unset i
              exact k v _ G' H' S5 ⟨r'.1, fun z => let ⟨a, p, e1, e2, e3⟩ := r'.2 z; ⟨a, p, e1, e2, fun y => e3 (ow p y)⟩⟩
          · cases fl with
            | next => obtain ⟨σ', H', I4, q⟩ := z; exact name_goes (I2.unsuite I4) hN hi hx fun s5 I5 => ⟨_, H', I5, q⟩
            | brk => obtain ⟨σ', H', I4, q⟩ := z; exact name_goes (I2.unsuite I4) hN hi hx fun s5 I5 => ⟨_, H', I5, q⟩
            | cont => obtain ⟨σ', H', I4, q⟩ := z; exact name_goes (I2.unsuite I4) hN hi hx fun s5 I5 => ⟨_, H', I5, q⟩
            | ret u => obtain ⟨v, σ', H', I4, r, q⟩ := z; exact name_goes (I2.unsuite I4) hN hi hx fun s5 I5 => ⟨v, _, H', I5, r, q⟩
end
end L4


namespace L4
open PySem PySem.Spec PyProof.Rows PySem.W L2
/-! ### isinstance of an exception -/
noncomputable def AreT (K : PySem.W.Frag) (cs : List Str) (T : String) : Prop := ∀ c, c ∈ cs → ∀ C, ExN K c C → PySem.W.kitOne K C (.type T) = some true
section
variable {X : Cx} {cs : List Str} {T : String}
theorem bo_ValueError : bootBuiltins "ValueError" = some (.type "ValueError") := by decide +kernel
end
end L4
namespace L4
open PySem PySem.Spec PyProof.Rows L2
/-! ### which classes a handler takes, by a table -/
noncomputable def tblM (l : List (Str × Bool)) (c : Str) : Option Bool := l.lookup c
theorem Takes.nil {K : PySem.W.Frag} {Cn : Value} : Takes K (tblM []) Cn := fun c b h => by cases h
theorem Takes.cons {K : PySem.W.Frag} {Cn C : Value} {l : List (Str × Bool)} {a : Str} {b : Bool} (hn : ExN K a C) (he : PySem.W.exmOne K C Cn = some b) (h : Takes K (tblM l) Cn) : Takes K (tblM ((a, b) :: l)) Cn := fun c b' hb C' hc => by
  unfold tblM at hb
  rw [List.lookup_cons] at hb
  split at hb
  · rename_i e
    have e' : c = a := eq_of_beq e
    cases hb
    subst e'
    have := hn.symm.trans hc
    cases this
    exact he
  · exact h c b' hb C' hc
theorem AreT.nil {K : PySem.W.Frag} {T : String} : AreT K [] T := fun c h => by cases h
theorem AreT.cons {K : PySem.W.Frag} {T : String} {C : Value} {l : List Str} {a : Str} (hn : ExN K a C) (he : PySem.W.kitOne K C (.type T) = some true) (h : AreT K l T) : AreT K (a :: l) T := fun c hc C' hn' => by
  rcases List.mem_cons.mp hc with rfl | hc
  · have := hn.symm.trans hn'
    cases this
    exact he
  · exact h c hc C' hn'
section
variable {X : Cx} {cn n : Str} {np pos : Pos} {b₀ : Stmt} {suite : List Stmt} {rest : List ExceptHandler} {hs : List Hd} {m : Str → Option Bool} {f : FS}
end
/-! ### a text, so many times -/
end L4


namespace L4
open PySem PySem.Spec PyProof.Rows Builtin Builtin.Str L2
/-! ### text.lower(), sep.join(texts), f"{e!r}.." -/
section
variable {X : Cx} {o e a b : Expr} {es : List Expr} {fo f1 f2 : FE} {fl : FL} {pos : Pos}
end
end L4


namespace L4
open PySem L2 PySem.Spec PyProof.Rows
section
variable {X : Cx} {a b e : Expr} {es : List Expr} {f1 f2 fe fk : FE} {fl : FL} {p pos : Pos}
/-! ### abs, tuple -/
noncomputable def tupleD (d : D) : Option Sl := match d with | .lst ds => some (.val (.tup ds)) | .tup ds => some (.val (.tup ds)) | _ => none
/-! ### tuples one behind the other -/
/-! ### great numbers -/
noncomputable def CMulB (i j : Int) : Prop := CMul i j ∨ (i.natAbs < 2 ^ 256 ∧ j.natAbs < 2 ^ 256)
theorem CMulB.ok {i j : Int} (h : CMulB i j) : IntMulOk i j := by
  rcases h with h | ⟨h1, h2⟩
  · exact h.ok
  · have b1 := intBits_le_iff.mpr h1
    have b2 := intBits_le_iff.mpr h2
    unfold IntMulOk
    have : Builtin.Int.intTooBig (Builtin.Int.intBits i + Builtin.Int.intBits j) = false := by
      unfold Builtin.Int.intTooBig
      exact decide_eq_false (by have : bitsLine = 134217728 := by decide
                                omega)
    rw [this]
    simp
/-! ### x += e, of ints -/
/-! ### xs[k] = e, of a list of one's own -/
noncomputable def setD (j : Nat) (p : D) (k : D) (δ : DEnv) : Option Out := match δ[j]? with
  | some (some s) => if s.isO = true then (match s.fz, k with
    | .lst ds, .int k => (match ixN ds.length k with | some n => some (.next (δ.set j (some (s.now (.lst (ds.set n p)))))) | none => none)
    | _, _ => none) else none
  | _ => none
noncomputable def fSetI (j : Nat) (fk fe : FE) : FS := fun δ => thenS (fe δ) fun p δ => match δ[j]? with
  | some (some _) => thenS (fk δ) fun q δ => setD j p.fz q.fz δ
  | _ => none
/-! ### x[lo:hi] of a list of one's own, which stays one's own -/
noncomputable def fSlO (i : Nat) (l h : FO) : FE := fun δ => match δ[i]? with
  | some (some _) => (l δ).bind fun q δ => (h δ).bind fun r δ => (match δ[i]? with
    | some (some s) => if s.isO = true then (match s.fz with | .lst ds => some (.ok (.own (.lst (cutD ds q r))), δ) | _ => none) else none
    | _ => none)
  | _ => none
end
end L4


namespace L4
open PySem L2 PySem.Spec PyProof.Rows
section
variable {X : Cx} {a b : Expr} {fl : FL} {p p2 pos pos2 : Pos}
/-! ### list(range(a, b)) -/
end
end L4


namespace L4
open PySem L2 PySem.Spec PyProof.Rows
/-! ### max(xs, default=d), of a list of ints -/
section
variable {prog : Program} {w : World} {A : Around} {R : Result → Shared → Prop} {it best : Addr} {foot out : List Addr} {len : Nat} {Is : Nat → Value → Prop} {At : Nat → Heap → Prop} {kws : List (Str × Value)}
end
section
variable {prog : Program} {w : World} {A : Around} {E : Value → Shared → Prop} {s : Shared} {l : Addr} {xs : Array (Int × Tok)}
end
section
variable {X : Cx} {e dv : Expr} {f1 f2 : FE} {p pos kp : Pos}
end
end L4


namespace L2
open PySem PySem.Spec PyProof.Rows

end L2

namespace L2
open PySem PySem.Spec PyProof.Rows

section
variable (P : Program) (w : World)
end

section
variable {P : Program} {w : World} {H H' : Hp} {h h' : Heap} {a : Addr} {o : HO}
end

section
variable {P : Program} {w : World} {H : Hp} {h h' : Heap} {x e : Addr} {o' : HO}
end

section
variable {fs fs' ex ex' : List Addr} {H H1 H2 : Hp} {h h1 h2 h' : Heap} {a x e : Addr} {o : HO}
end

end L2

namespace L2
open PySem PySem.Spec PyProof.Rows

section
variable {X : Cx} {pins : List (Addr × Obj)} {σ : List (Option V)} {H H' : Hp} {s : Shared} {h' : Heap}

end

end L2

namespace L2
open PySem PySem.Spec PyProof.Rows
section
variable {X : Cx}

variable {a b : Expr} {ta tb : TE} {pos : Pos}
variable {tA tB' : TT} {rest : List Expr}
end
end L2

namespace L2
open PySem PySem.Spec PyProof.Rows

section
variable {X : Cx} {pins : List (Addr × Obj)} {σ : St} {H : Hp} {s : Shared} {a : Addr} {xs ys : List V}
end

section
variable {X : Cx} {pins : List (Addr × Obj)} {σ : St} {H : Hp} {s : Shared} {E : Value → Shared → Prop}
end

section
variable {X : Cx} {st : Stmt} {rest : List Stmt} {t u : TS} {e : Expr} {te : TE} {pos : Pos}
end

section
variable {X : Cx} {pos : Pos}
end

section
variable {X : Cx} {pos : Pos}
end

end L2

namespace L2
open PySem PySem.Spec PyProof.Rows
section
variable {X : Cx} {tg : Expr}
end

end L2

namespace L2
open PySem PySem.Spec PyProof.Rows

section
variable {X : Cx} {a b c : Expr} {ta tb tc : TE} {pos : Pos}

end

section
variable {X : Cx} {a b c : Expr} {ta tb tc : TE} {pos : Pos}
end
end L2

namespace L2
open PySem PySem.Spec PyProof.Rows

section
variable {prog : Program} {w : World} {A : Around} {E : Value → Shared → Prop} {s : Shared} {K : PySem.W.Frag} {x dx C f : Addr} {mA : Str → Option Value} {name : Str} {v : Value}

end

section
variable {P : Program} {w : World} {H H' : Hp} {h h' : Heap} {a C dx : Addr} {fs fs' : List (Str × V)}
end

section
variable {X : Cx} {pins : List (Addr × Obj)} {σ : St} {H : Hp} {s : Shared} {a C dx : Addr} {fs : List (Str × V)} {f : Str} {v : V} {A : Around} {E : Value → Shared → Prop}

end

section
variable {X : Cx} {o e value : Expr} {f : Str} {pos pos' tpos : Pos} {ta tv : TE}
end

section
variable {X : Cx} {pins : List (Addr × Obj)} {σ : St} {H : Hp} {s : Shared} {A : Around} {E : Value → Shared → Prop} {Q : Value → Shared → Prop} {c : Value} {b : Bool}
end
end L2

namespace L2
open PySem PySem.Spec PyProof.Rows

section
variable {X : Cx} {e : Expr} {es : List Expr} {te : TE} {t : TA} {pos : Pos}
end

section
variable {X : Cx} {pins : List (Addr × Obj)} {σ : St} {H : Hp} {s s' : Shared}
end

section
variable {X : Cx} {CX : CXT} {k : Nat} {f C : Addr} {fd : FuncData} {ps : List Str} {sp : Sp} {dvs : List V} {ds : List Value} {E : XK} {x m : Str} {p pos apos : Pos} {e o : Expr} {es : List Expr} {ta : TE} {t : TA}

end

section
variable {X : Cx} {CX : CXT} {k : Nat} {f C : Addr} {fd : FuncData} {ps ks : List Str} {sp : Sp} {E : XK} {x m : Str} {p pos apos kpos : Pos} {e o : Expr} {es : List Expr} {kws : List Keyword} {te ta : TE} {t tk : TA} {nm : Option Str}
variable {g : List Value → List Value → List Value} {gV : List V → List V → List V}
end

end L2

namespace L2
open PySem PySem.Spec PyProof.Rows
section
variable {X : Cx} {x : Str} {p pos : Pos} {e : Expr} {es : List Expr} {t : TA} {id T : String} {r : List V → Hp → VK → Prop}

end
end L2

namespace L2
open PySem PySem.Spec PyProof.Rows

section
variable {κ : Type} [DecidableEq κ]
noncomputable def valV (kvs : List (κ × V)) (k : κ) : Option V := (kvs.find? fun kv => decide (kv.1 = k)).map (·.2)
noncomputable def putK (kvs : List (κ × V)) (k : κ) (v : V) : List (κ × V) :=
  if (kvs.any fun kv => decide (kv.1 = k)) = true then kvs.map (fun kv => if kv.1 = k then (kv.1, v) else kv) else kvs ++ [(k, v)]
noncomputable def dropK (kvs : List (κ × V)) (k : κ) : List (κ × V) := kvs.filter fun kv => decide (kv.1 ≠ k)

theorem valV_pos {p : κ × V} {r : List (κ × V)} {k : κ} (e : p.1 = k) : valV (p :: r) k = some p.2 := by simp [valV, List.find?_cons, e]
theorem valV_neg {p : κ × V} {r : List (κ × V)} {k : κ} (e : ¬ p.1 = k) : valV (p :: r) k = valV r k := by simp [valV, List.find?_cons, e]
theorem RelO.getD {o : Option V} {u : Option Value} {d : V} {d' : Value} (r : RelO o u) (rd : RelV d d') : RelV (o.getD d) (u.getD d') := by
  cases o with
  | none => cases u with
    | none => exact rd
    | some _ => exact (show False from r).elim
  | some _ => cases u with
    | none => exact (show False from r).elim
    | some _ => exact r

theorem KV.val {kvs : List (κ × V)} {vs : List (κ × Value)} (r : KV kvs vs) (k : κ) : RelO (valV kvs k) (valueAt vs k) := by
  unfold KV at r
  induction r with
  | nil => exact True.intro
  | @cons p q ps qs h t ih =>
    obtain ⟨h1, h2⟩ := h
    by_cases e : p.1 = k
    · have e' : q.1 = k := h1.symm.trans e
      have b : valueAt (q :: qs) k = some q.2 := by simp [valueAt, List.find?_cons, e']
      rw [valV_pos e, b]; exact h2
    · have e' : ¬ q.1 = k := fun z => e (h1.trans z)
      have b : valueAt (q :: qs) k = valueAt qs k := by simp [valueAt, List.find?_cons, e']
      rw [valV_neg e, b]; exact ih
theorem KV.any {kvs : List (κ × V)} {vs : List (κ × Value)} (r : KV kvs vs) (k : κ) : (kvs.any fun kv => decide (kv.1 = k)) = vs.any fun kv => decide (kv.1 = k) := by
  unfold KV at r
  induction r with
  | nil => rfl
  | cons h t ih => rw [List.any_cons, List.any_cons, ih, h.1]
theorem KV.drop {kvs : List (κ × V)} {vs : List (κ × Value)} (r : KV kvs vs) (k : κ) : KV (dropK kvs k) (without vs k) := by
  unfold KV at r ⊢
  unfold dropK without
  induction r with
  | nil => exact .nil
  | @cons p q ps qs h t ih =>
    obtain ⟨h1, h2⟩ := h
    rw [List.filter_cons, List.filter_cons]
    by_cases e : p.1 = k
    · have a : ¬ decide (p.1 ≠ k) = true := by simp [e]
      have b : ¬ decide (q.1 ≠ k) = true := by simp [h1.symm.trans e]
      rw [if_neg a, if_neg b]; exact ih
    · have e' : ¬ q.1 = k := fun z => e (h1.trans z)
      have a : decide (p.1 ≠ k) = true := by simp [e]
      have b : decide (q.1 ≠ k) = true := by simp [e']
      rw [if_pos a, if_pos b]; exact .cons ⟨h1, h2⟩ ih
theorem KV.length {kvs : List (κ × V)} {vs : List (κ × Value)} (r : KV kvs vs) : kvs.length = vs.length := Paired.length r
end


abbrev KT (H : Hp) : List (List Key × V) → List (List Key × Addr × Value) → Prop := Paired fun p q => p.1 = q.1 ∧ H q.2.1 = some (.tup (p.1.map kV)) ∧ RelV p.2 q.2.2
theorem KT.val {H : Hp} {kvs : List (List Key × V)} {xs : List (List Key × Addr × Value)} (r : KT H kvs xs) (k : List Key) : RelO (valV kvs k) ((atKey xs k).map (·.2)) := by
  induction r with
  | nil => exact True.intro
  | @cons p q ps qs h t ih =>
    obtain ⟨h1, _, h2⟩ := h
    by_cases e : p.1 = k
    · have e' : q.1 = k := h1.symm.trans e
      have b : atKey (q :: qs) k = some q.2 := by simp [atKey, List.find?_cons, e']
      rw [valV_pos e, b]; exact h2
    · have e' : ¬ q.1 = k := fun z => e (h1.trans z)
      have b : atKey (q :: qs) k = atKey qs k := by simp [atKey, List.find?_cons, e']
      rw [valV_neg e, b]; exact ih
theorem KT.keeps {H H' : Hp} {kvs : List (List Key × V)} {xs : List (List Key × Addr × Value)} (r : KT H kvs xs) (ht : ∀ b ys, H b = some (.tup ys) → H' b = some (.tup ys)) : KT H' kvs xs :=
  Paired.mapP r fun _ _ z => ⟨z.1, ht _ _ z.2.1, z.2.2⟩

section
variable {P : Program} {w : World} {H : Hp} {h : Heap} {a : Addr}
end

noncomputable def DGet (H : Hp) (a : Addr) (y : V) (r : Option V) : Prop :=
  (∃ kvs k, Rd H a (.dK kvs) ∧ y = kV k ∧ r = valV kvs k) ∨ ∃ kvs k b, Rd H a (.dT kvs) ∧ y = .ref b ∧ H b = some (.tup (k.map kV)) ∧ r = valV kvs k
noncomputable def DPut (H : Hp) (a : Addr) (y v : V) (H' : Hp) : Prop :=
  (∃ kvs k, H a = some (.dK kvs) ∧ y = kV k ∧ kvs.length < sizeLine ∧ H' = upd H a (.dK (putK kvs k v))) ∨
  ∃ kvs k b, H a = some (.dT kvs) ∧ y = .ref b ∧ H b = some (.tup (k.map kV)) ∧ kvs.length < sizeLine ∧ H' = upd H a (.dT (putK kvs k v))
theorem DGet.k {H : Hp} {a : Addr} {kvs : List (Key × V)} {k : Key} (e : H a = some (.dK kvs)) : DGet H a (kV k) (valV kvs k) := .inl ⟨kvs, k, .inl e, rfl, rfl⟩
theorem DGet.t {H : Hp} {a b : Addr} {kvs : List (List Key × V)} {k : List Key} (e : H a = some (.dT kvs)) (eb : H b = some (.tup (k.map kV))) : DGet H a (.ref b) (valV kvs k) := .inr ⟨kvs, k, b, .inl e, rfl, eb, rfl⟩
theorem DPut.k {H : Hp} {a : Addr} {kvs : List (Key × V)} {k : Key} {v : V} (e : H a = some (.dK kvs)) (hl : kvs.length < sizeLine) : DPut H a (kV k) v (upd H a (.dK (putK kvs k v))) := .inl ⟨kvs, k, e, rfl, hl, rfl⟩
theorem DPut.t {H : Hp} {a b : Addr} {kvs : List (List Key × V)} {k : List Key} {v : V} (e : H a = some (.dT kvs)) (eb : H b = some (.tup (k.map kV))) (hl : kvs.length < sizeLine) :
    DPut H a (.ref b) v (upd H a (.dT (putK kvs k v))) := .inr ⟨kvs, k, b, e, rfl, eb, hl, rfl⟩


section
variable {X : Cx} {pins : List (Addr × Obj)} {σ : St} {H : Hp} {s : Shared} {a : Addr} {y v : V} {u r : Value} {o : Option V} {A : Around} {E : Value → Shared → Prop}

end

section
variable {X : Cx} {pins : List (Addr × Obj)} {σ : St} {H : Hp} {s : Shared} {a : Addr} {kvs : List (Key × V)} {k : Key} {u : Value} {A : Around} {E : Value → Shared → Prop}
end


section
variable {X : Cx} {o i e value : Expr} {pos pos' tpos : Pos} {td ty tv : TE}
end


section
variable {X : Cx} {pos : Pos}
end

structure M1 (X : Cx) (o : Expr) (m : Str) (apos : Pos) (e : Expr) (cpos : Pos) : Prop where
  base : attributeBase o m X.env (eval o X.env) = eval o X.env
  few : ((backTo cpos (starEach [e] X.env)).all (fun x => !x.1) && (backToKw cpos (keywordEach [] X.env)).all (fun x => x.1.isSome)
    && decide (([e] : List Expr).length + ([] : List Keyword).length + (if ([] : List Keyword).isEmpty then 0 else 1) < 30)) = true
  line : (apos.endLine == cpos.line) = true
  trees : backTo cpos (starEach [e] X.env) = [(false, eval e X.env)]
structure M2 (X : Cx) (o : Expr) (m : Str) (apos : Pos) (e f : Expr) (cpos : Pos) : Prop where
  base : attributeBase o m X.env (eval o X.env) = eval o X.env
  few : ((backTo cpos (starEach [e, f] X.env)).all (fun x => !x.1) && (backToKw cpos (keywordEach [] X.env)).all (fun x => x.1.isSome)
    && decide (([e, f] : List Expr).length + ([] : List Keyword).length + (if ([] : List Keyword).isEmpty then 0 else 1) < 30)) = true
  line : (apos.endLine == cpos.line) = true
  trees : backTo cpos (starEach [e, f] X.env) = [(false, eval e X.env), (false, eval f X.env)]

section
variable {X : Cx} {pins : List (Addr × Obj)} {σ : St} {H : Hp} {s : Shared} {a : Addr} {y d : V} {u r : Value} {o : Option V} {A : Around} {E : Value → Shared → Prop}
end

section
variable {X : Cx} {o e f : Expr} {apos cpos : Pos} {td ty tx : TE}
end

section
variable {X : Cx} {pins : List (Addr × Obj)} {σ : St} {H : Hp} {s : Shared} {a : Addr} {kvs : List (Key × V)} {A : Around} {E : Value → Shared → Prop}
end


section
variable {X : Cx} {pins : List (Addr × Obj)} {σ : St} {H : Hp} {s : Shared} {a : Addr} {y : V} {u : Value} {A : Around} {E : Value → Shared → Prop}
end
end L2

namespace Att
open PySem PySem.W PySem.Calls PyProof.Rows

section
variable {prog : Program} {w : World} {A : Around} {E : Value → Shared → Prop} {s : Shared} {K : Frag}

end
end Att

namespace L2
open PySem PySem.Spec PyProof.Rows

end L2

namespace L2
open PySem PySem.Spec PyProof.Rows

end L2

namespace L2
open PySem PySem.Spec PyProof.Rows

section
variable {P : Program} {w : World} {K : PySem.W.Frag} {mg : Str → Option Value} {base : Heap}
end
section
variable {X : Cx}
end

section
variable {κ : Type} [DecidableEq κ]
end
end L2



namespace L4
open PySem L2 PySem.Spec PyProof.Rows
/-! ### dicts by tuples of ints -/
section
variable {K : PySem.W.Frag} {G : Hp}
end
section
variable {X : Cx} {e k o : Expr} {fe fk : FE} {pos : Pos}
/-! `{}` -/
/-! d[k] = v, of a dict of one's own -/
/-! d.get(k) of a name -/
end
end L4


namespace L4
open PySem L2
/-! ### the values, for rewriting -/
theorem fz_val (d : D) : (Sl.val d).fz = d := rfl
theorem fz_own (d : D) : (Sl.own d).fz = d := rfl
theorem fz_lnt (d : D) : (Sl.lnt d).fz = d := rfl
theorem runD_ret {n m : Nat} {f : FS} {ds : List D} {s : Sl} {δ : DEnv} (h : ds.length = m) (e : f (startD n [] ds) = some (.ret s δ)) : runD n m [] f ds = some (.ok s, []) := by
  unfold runD; rw [if_pos h, e]; rfl
theorem fSeq_next {a b : FS} {δ δ' : DEnv} (e : a δ = some (.next δ')) : fSeq a b δ = b δ' := by unfold fSeq; rw [e, Option.bind_some]
theorem fSeq_ret {a b : FS} {δ δ' : DEnv} {s : Sl} (e : a δ = some (.ret s δ')) : fSeq a b δ = some (.ret s δ') := by unfold fSeq; rw [e, Option.bind_some]
theorem fIf_true {c : FT} {a b : FS} {δ δ' : DEnv} (e : c δ = some (.ok true, δ')) : fIf c a b δ = a δ' := by unfold fIf; rw [e]; rfl
theorem fIf_false {c : FT} {a b : FS} {δ δ' : DEnv} (e : c δ = some (.ok false, δ')) : fIf c a b δ = b δ' := by unfold fIf; rw [e]; rfl
theorem fRet_of {f : FE} {δ δ' : DEnv} {s : Sl} (e : f δ = some (.ok s, δ')) : fRet f δ = some (.ret s δ') := by unfold fRet; rw [e]; rfl
theorem addD_int (i j : Int) : addD (.int i) (.int j) = some (.val (.int (i + j))) := rfl
theorem subD_int (i j : Int) : subD (.int i) (.int j) = some (.val (.int (i - j))) := rfl
theorem modD_int (i j : Int) (h : 0 < j) : modD (.int i) (.int j) = some (.val (.int (i % j))) := by
  show (if decide (0 < j) = true then some (Sl.val (D.int (i % j))) else none) = _
  rw [if_pos (decide_eq_true h)]
theorem fdivD_int (i j : Int) (h : 0 < j) (h2 : j < 1073741824) : fdivD (.int i) (.int j) = some (.val (.int (i / j))) := by
  show (if (decide (0 < j) && decide (j < 1073741824)) = true then some (Sl.val (D.int (i / j))) else none) = _
  rw [if_pos (by rw [decide_eq_true h, decide_eq_true h2]; rfl)]
theorem mulD_int (i j : Int) (h : (-(2 ^ 64) < i ∧ i < 2 ^ 64) ∨ (-(2 ^ 64) < j ∧ j < 2 ^ 64)) : mulD (.int i) (.int j) = some (.val (.int (i * j))) := by
  show (if cMul i j = true then some (Sl.val (D.int (i * j))) else none) = _
  rw [if_pos]
  unfold cMul
  rw [Bool.or_eq_true, Bool.and_eq_true, Bool.and_eq_true]
  exact h.imp (fun z => ⟨decide_eq_true z.1, decide_eq_true z.2⟩) fun z => ⟨decide_eq_true z.1, decide_eq_true z.2⟩
theorem ltD_int (i j : Int) : ltD (.int i) (.int j) = some (.val (.bl (decide (i < j)))) := rfl
theorem leD_int (i j : Int) : leD (.int i) (.int j) = some (.val (.bl (decide (i ≤ j)))) := rfl
theorem gtD_int (i j : Int) : gtD (.int i) (.int j) = some (.val (.bl (decide (j < i)))) := rfl
theorem geD_int (i j : Int) : geD (.int i) (.int j) = some (.val (.bl (decide (j ≤ i)))) := rfl
theorem negD_int (i : Int) : negD (.int i) = some (.val (.int (-i))) := rfl
theorem maxD_int (i j : Int) : maxD (.int i) (.int j) = some (.val (.int (if j > i then j else i))) := rfl
theorem minD_int (i j : Int) : minD (.int i) (.int j) = some (.val (.int (if j < i then j else i))) := rfl
theorem eqOp_int (n : Bool) (i j : Int) : eqOp n (.int i) (.int j) = some (.val (.bl (if n then !decide (i = j) else decide (i = j)))) := by
  unfold eqOp
  rw [if_pos (by rw [show depD (D.int i) = 0 by unfold depD; rfl, show plainD (.int i) = true by unfold plainD; rfl, show plainD (.int j) = true by unfold plainD; rfl]; decide)]
  rw [show eqD (.int i) (.int j) = decide (i = j) from by unfold eqD; by_cases h : i = j <;> simp [h]]
theorem eqOp_bl (n : Bool) (i j : Bool) : eqOp n (.bl i) (.bl j) = some (.val (.bl (if n then !(i == j) else (i == j)))) := by
  unfold eqOp
  rw [if_pos (by rw [show depD (D.bl i) = 0 by unfold depD; rfl, show plainD (.bl i) = true by unfold plainD; rfl, show plainD (.bl j) = true by unfold plainD; rfl]; decide)]
  rw [show eqD (.bl i) (.bl j) = (i == j) from by unfold eqD; rfl]
theorem atI_of {α : Type} {xs : List α} {k : Int} (h0 : 0 ≤ k) (h : k < xs.length) : atI xs k = xs[k.toNat]? := by
  unfold atI ixN
  rw [if_pos h0, if_pos h]
  rfl
theorem ix0_tup (a : D) (r : List D) : ixD (.tup (a :: r)) (.int 0) = some (.val a) := by
  show (atI (a :: r) 0).map Sl.val = _
  rw [show (atI (a :: r) (0 : Int)) = some a from by rw [atI_of (by decide) (by rw [List.length_cons]; omega)]; rfl]
  rfl
theorem ix1_tup (a b : D) (r : List D) : ixD (.tup (a :: b :: r)) (.int 1) = some (.val b) := by
  show (atI (a :: b :: r) 1).map Sl.val = _
  rw [show (atI (a :: b :: r) (1 : Int)) = some b from by rw [atI_of (by decide) (by rw [List.length_cons, List.length_cons]; omega)]; rfl]
  rfl
theorem isi_tup (ds : List D) : isiD (.tup ds) (.ty "tuple") = some (.val (.bl true)) := rfl
theorem isi_lst (ds : List D) : isiD (.lst ds) (.ty "list") = some (.val (.bl true)) := rfl
theorem isi_int (i : Int) : isiD (.int i) (.ty "int") = some (.val (.bl true)) := rfl
theorem isi_int_bool (i : Int) : isiD (.int i) (.ty "bool") = some (.val (.bl false)) := rfl
theorem isi_bl (i : Bool) : isiD (.bl i) (.ty "bool") = some (.val (.bl true)) := rfl
theorem len_lst (ds : List D) : lenD (.lst ds) = some (.val (.int ds.length)) := rfl
theorem gTup2 (a b : D) : gTupD [a, b] = some (.val (.tup [a, b])) := by
  unfold gTupD; rw [if_pos (by show 2 ≤ sizeLine; decide)]
theorem sizeLine_is : sizeLine = 16777216 := by decide
mutual
theorem eqD_refl : ∀ d : D, plainD d = true → eqD d d = true
  | .non, _ => rfl
  | .bl _, _ => by unfold eqD; exact beq_self_eq_true _
  | .int _, _ => by unfold eqD; exact beq_self_eq_true _
  | .str _, _ => by unfold eqD; exact beq_self_eq_true _
  | .tup ds, h => by unfold eqD; exact eqDs_refl ds (by unfold plainD at h; exact h)
  | .lst ds, h => by unfold eqD; exact eqDs_refl ds (by unfold plainD at h; exact h)
  | .ty e, h => by unfold plainD at h; cases h
  | .dct _ _, h => by unfold plainD at h; cases h
  | .exc _, h => by unfold plainD at h; cases h
  | .emp, h => by unfold plainD at h; cases h
  | .exa _ _, h => by unfold plainD at h; cases h
  | .exo _, h => by unfold plainD at h; cases h
theorem eqDs_refl : ∀ ds : List D, plainDs ds = true → eqDs ds ds = true
  | [], _ => by unfold eqDs; rfl
  | d :: ds, h => by
    unfold plainDs at h
    rw [Bool.and_eq_true] at h
    unfold eqDs
    rw [eqD_refl d h.1, eqDs_refl ds h.2]
    rfl
end
theorem cell_ix (ns : List Int) (k : Int) (h : 0 ≤ k) (hk : k < (ns.length : Int)) : ixD (.lst (ns.map D.int)) (.int k) = some (.val (.int (ns.getD k.toNat 0))) := by
  have hk' : k.toNat < ns.length := by omega
  show (atI (ns.map D.int) k).map Sl.val = _
  rw [atI_of h (by rw [List.length_map]; exact hk), List.getElem?_map, List.getElem?_eq_getElem hk']
  simp [List.getD, hk']
end L4


namespace L4
open PySem PySem.Spec PyProof.Rows L2
/-! ### isinstance of an exception, by a class of one's own -/
noncomputable def AreC (K : PySem.W.Frag) (cs : List Str) (Cn : Value) : Prop := ∀ c, c ∈ cs → ∀ C, ExN K c C → PySem.W.kitOne K C Cn = some true
theorem AreC.nil {K : PySem.W.Frag} {Cn : Value} : AreC K [] Cn := fun c h => by cases h
theorem AreC.cons {K : PySem.W.Frag} {Cn C : Value} {l : List Str} {a : Str} (hn : ExN K a C) (he : PySem.W.kitOne K C Cn = some true) (h : AreC K l Cn) : AreC K (a :: l) Cn := fun c hc C' hn' => by
  rcases List.mem_cons.mp hc with rfl | hc
  · have := hn.symm.trans hn'
    cases this
    exact he
  · exact h c hc C' hn'
section
variable {X : Cx} {cs : List Str} {b : Addr}
theorem pe_cls {cn : Str} {np : Pos} (hn : ExN X.K cn (.ref b)) (hg : Gl X cn) (hd : (cn == ("__debug__" : Str)) = false := by decide) : PE X (.Name cn np) (tC (.ref b)) :=
  fun _ _ _ H _ I h => ld_glob I hg (PySem.W.mg_of I.mod.kin I.mod.glob hn) ⟨.ref b, H, I, rfl, h⟩ hd
end
end L4


namespace L4
open PySem PySem.Spec PyProof.Rows L2
section
variable {prog : Program} {w : World} {A : Around} {E : Value → Shared → Prop} {h : Heap} {g : Array GenState} {d : Drawn} {t : Nat} {os : OsState}
variable {nm q : Str} {C N : Addr} {bs bm bmB : List Value} {hdct : Bool} {sn : List Str} {sub : List Value} {ab : Bool} {col : Option Bool} {dd : Option Addr} {k0 k1 k2 k3 k5 : Option Value} {B Bn newId nid initId inN : String} {bmN : List Value}
abbrev rawX (C tt : Addr) : Obj := { cls := .ref C, data := .fields #[.ref tt, .none, .none, .none, .bool false, .none] }
abbrev rawH (h : Heap) (C : Addr) (rest : List Value) : Heap := (h.push { cls := .type "tuple", data := .seq rest.toArray }).push (rawX C h.objs.size)
theorem typecall_init (Fn : ExcBaseFacts Bn newId inN bmN) (hBn : bmB.contains (.type Bn) = true) (F : ExcBaseFacts B nid initId bmB) (T : OwnTail h bmB bm) {mN : Str → Option Value} {rest : List Value} {fI : Addr} {oI : Obj} {Q : PySem.Fin → Shared → Prop}
    (hC : h.get? C = some (excClassObj nm q C N bs bm hdct sn sub ab col dd k0 k1 k2 k3 k5 newId)) (hn : h.Ns N mN) (hi : mN "__init__" = some (.ref fI)) (hfI : h.get? fI = some oI) (hfc : oI.cls = .type "function")
    (hq : wpAny (model prog w) A (call (.ref fI) (.ref (h.objs.size + 1) :: rest)) (fun r s' => r = .none ∧ Q (.done (.ret (.ref (h.objs.size + 1)))) s') E ⟨rawH h C rest, g, d, t, os⟩) (hrest : rest.length ≤ sizeLine) :
    wpAny (model prog w) A (Builtin.«type.__call__» ⟨.ref C :: rest, []⟩) Q E ⟨h, g, d, t, os⟩ := by
  have up : ∀ {b : Addr} {o : Obj}, h.get? b = some o → (rawH h C rest).get? b = some o := fun e => Heap.get?_push_of_some _ (Heap.get?_push_of_some _ e)
  have made : (rawH h C rest).get? (h.objs.size + 1) = some (rawX C h.objs.size) := by heap_get
  have hC1 := up hC
  have hN1 : (rawH h C rest).Ns N mN := let ⟨o, es, ep, e, r⟩ := hn; ⟨o, es, ep, up e, r⟩
  have T1 := T.keeps (h' := rawH h C rest) fun b o e => up e
  have own : (Value.ref C :: bm).contains (.ref C) = true := by simp
  have tyI : Shared.TypeIs ⟨rawH h C rest, g, d, t, os⟩ (.ref fI) "function" := ⟨_, up hfI, hfc⟩
  have bound : ∀ {Q' : Value × List Value → Shared → Prop}, Q' (.ref fI, [.ref (h.objs.size + 1)]) ⟨rawH h C rest, g, d, t, os⟩ → wpAny (model prog w) A (bindSpecial (.ref fI) (.ref (h.objs.size + 1))) Q' E ⟨rawH h C rest, g, d, t, os⟩ := by
    intro Q' q'
    unfold bindSpecial
    wp_walk using wpAny_typeOf (T := "function") tyI
    exact q'
  have run : ∀ {Q' : Value → Shared → Prop}, (∀ s', Q (.done (.ret (.ref (h.objs.size + 1)))) s' → Q' .none s') → wpAny (model prog w) A (call (.ref fI) ((Value.ref fI, [Value.ref (h.objs.size + 1)]).2 ++ rest) (⟨.ref C :: rest, []⟩ : Args).kw) Q' E ⟨rawH h C rest, g, d, t, os⟩ := fun k => wpAny_mono hq (fun r s' e => e.1 ▸ k s' e.2) fun _ _ e => e
  wp_walk using wpAny_loadPart_at hC, wpAny_madeBy_exc hC
  apply codeAny_call_builtin_code (Code.quiet_builtin _ Fn.quiet)
  apply wpAny_check_new_subU Fn hBn T hC
  apply codeAny_exc_new_subU Fn hBn F T hC (hrest := hrest)
  wp_walk using wpAny_loadPart_at made, wpAny_isSubtype_exc hC1, wpAny_typeLookup_tail hC1 hN1 T1 F.mroIs F.init.lookup
  rw [hi]
  wp_walk using bound, run
  intro s' q'
  wp_walk
  exact q'
theorem call_cls {rest : List Value} {Q : Value → Shared → Prop} (hC : h.get? C = some (excClassObj nm q C N bs bm hdct sn sub ab col dd k0 k1 k2 k3 k5 newId))
    (body : wpAny (model prog w) (A.under (.builtin "type.__call__" ⟨.ref C :: rest, []⟩)) (Builtin.«type.__call__» ⟨.ref C :: rest, []⟩)
      (fun f s' => match f with | .done x => (match (Except.ok x : Result) with | .ok (.ret v) => Q v s' | .ok _ => False | .error e => E e s') | .again c => c.quiet = true ∧ codeAny (model prog w) A c (fun r s' => match r with | .ok (.ret v) => Q v s' | .ok _ => False | .error e => E e s') s') E ⟨h, g, d, t, os⟩) :
    wpAny (model prog w) A (call (.ref C) rest) Q E ⟨h, g, d, t, os⟩ := by
  have ty : (⟨h, g, d, t, os⟩ : Shared).TypeIs (.ref C) "type" := ⟨_, hC, rfl⟩
  have look := tc_lookup
  have bind := tc_bind (.ref C)
  apply wpAny_call
  apply codeAny_of_tree
  wp_walk using wpAny_loadPart_at hC
  refine ⟨rfl, ?_⟩
  apply codeAny_call_builtin_at (Code.quiet_builtin _ (by decide +kernel)) entry_typeCall
  apply wpAny_check_type_call_sub hC
  exact body
theorem call_initX (Fn : ExcBaseFacts Bn newId inN bmN) (hBn : bmB.contains (.type Bn) = true) (F : ExcBaseFacts B nid initId bmB) (T : OwnTail h bmB bm) {mN : Str → Option Value} {rest : List Value} {fI : Addr} {oI : Obj} {Q : Value → Shared → Prop}
    (hC : h.get? C = some (excClassObj nm q C N bs bm hdct sn sub ab col dd k0 k1 k2 k3 k5 newId)) (hn : h.Ns N mN) (hi : mN "__init__" = some (.ref fI)) (hfI : h.get? fI = some oI) (hfc : oI.cls = .type "function")
    (hq : wpAny (model prog w) (A.under (.builtin "type.__call__" ⟨.ref C :: rest, []⟩)) (call (.ref fI) (.ref (h.objs.size + 1) :: rest)) (fun r s' => r = .none ∧ Q (.ref (h.objs.size + 1)) s') E ⟨rawH h C rest, g, d, t, os⟩) (hrest : rest.length ≤ sizeLine) :
    wpAny (model prog w) A (call (.ref C) rest) Q E ⟨h, g, d, t, os⟩ := by
  exact call_cls hC (typecall_init Fn hBn F T hC hn hi hfI hfc hq hrest)
end
end L4


namespace L4
open PySem PySem.Spec PyProof.Rows L2 PySem.W
theorem sl_bga : Slot "ValueError" "__getattribute__" "BaseException.__getattribute__" :=
  .of (owner := "BaseException") (n := "__getattribute__") (by rw [typeLookup_type, builtinLookup_eq_fast]; kernel_rfl) (by decide +kernel) (by decide +kernel) (by decide +kernel) (by first | exact .inl (by decide +kernel) | exact .inr (by decide +kernel)) (by rw [isSubtype_type]; kernel_rfl)
section
variable {prog : Program} {w : World} {A : Around} {E : Value → Shared → Prop} {s : Shared} {K : Frag} {x C : Addr} {ox : Obj} {od : Option Obj} {name : Str} {expr : Bool} {v : Value}
theorem getX {Q : Value → Shared → Prop} (X : K.In s.heap) (I : InstAt s.heap x ox C od) (hga : findIn K (.ref C) "__getattribute__" = some (some (.builtin "BaseException.__getattribute__"))) (hgh : findIn K (.ref C) "__getattr__" = some none)
    (hsb : subIn K (.ref C) (.type "BaseException") = some true) (hf : findObj K C od name = some (.value v)) (hh : handedIn v = true) (h : Q v { s with toks := s.toks + 1 }) : wpAny (model prog w) A (getAttr (.ref x) name expr) Q E s := by
  refine wpAny_bind (wpAny_mkText (wpAny_holding (wpAny_bind (I.type _ _ _ _ (fun _ _ e => e) (wpAny_bind (looks_findIn X hga _ _ _ _ (fun _ _ e => e) ?_))))))
  dsimp only
  rw [show (onTheHeap (Value.ref C) && Value.builtin "BaseException.__getattribute__" == Value.builtin "object.__getattribute__") = false from by rw [show (Value.builtin "BaseException.__getattribute__" == Value.builtin "object.__getattribute__") = false from by decide +kernel, Bool.and_false], if_neg (by decide)]
  refine wpAny_bind (looks_hook (mc := .ref C) X (r := none) (show (if onTheHeap (Value.ref C) = true then findIn K (.ref C) "__getattr__" else some none) = some none from hgh) _ _ _ _ (fun _ _ e => e) (wpAny_bind (wpAny_attempt (wpAny_holding ?_))))
  unfold callGetattribute; rw [show (expr && onTheHeap (Value.builtin "BaseException.__getattribute__")) = false from Bool.and_false _, if_neg (by decide)]
  unfold boundAndCalled; rw [sl_bga.bind]
  refine wpAny_bind (wpAny_pure ?_); show wpAny _ _ (call (.builtin "BaseException.__getattribute__") [.ref x, .str name s.toks]) _ _ _
  refine wpAny_call (codeAny_call_builtin sl_bga.plain PySem.F.entry_bexc_ga ?_)
  refine @check_slot (model prog w) _ _ { s with toks := s.toks + 1 } "BaseException.__getattribute__" "BaseException" "__getattribute__" (.ref x) [.str name s.toks] [] _ (by decide +kernel) (by decide +kernel) (I.type.andThen (looks_subIn X hsb)) (PySem.F.args_bexc_ga (.ref x) (.str name s.toks)) ?_
  unfold Builtin.«object.__getattribute__»
  refine wpAny_bind (m := slotArgs "__getattribute__" 1 _) (wpAny_of_eq (a := (.ref x, [.str name s.toks])) rfl ?_); dsimp only
  refine wpAny_bind (wpAny_pure (wpAny_bind (I.type _ _ _ _ (fun _ _ e => e) (wpAny_bind (looks_find X I hf _ _ _ _ (fun _ _ e => e) ?_))))); dsimp only
  refine wpAny_pure ?_
  show wpAny _ _ (handedOut v) _ _ _
  exact handed_on hh h
end
end L4


namespace L4
open PySem PySem.Spec PyProof.Rows L2 PySem.W Builtin Builtin.ObjectAttr
section
variable {prog : Program} {w : World} {A : Around} {E : Value → Shared → Prop} {s : Shared} {K : Frag} {x C S : Addr} {ox : Obj} {name : Str} {v : Value} {cd : ClassData}
theorem pass_ve (self : Value) : refuseLoop self "__setattr__" (.ref C :: .ref S :: [.type "ValueError", .type "Exception", .type "BaseException", .type "object"]) = pure () := by
  rw [refuseLoop_ref, refuseLoop_ref]; exact PySem.F.store_ValueError.passes self
theorem setX {Q : Unit → Shared → Prop} (X : K.In s.heap) (hx : s.heap.get? x = some ox) (hc : ox.cls = .ref C) (hdn : ox.dict = none) (hdf : ∃ vs, ox.data = .fields vs)
    (hs : findIn K (.ref C) "__setattr__" = some (some (.builtin "object.__setattr__"))) (hcl : clsIn K C = some cd) (hm : cd.mro = .ref C :: .ref S :: [.type "ValueError", .type "Exception", .type "BaseException", .type "object"]) (hd : cd.hasDict = true) (hn : findIn K (.ref C) name = some none)
    (h : ∀ h' tk, h'.Ns1 s.heap.objs.size (fun y => if y = name then some v else none) → h'.get? x = some { ox with dict := some s.heap.objs.size } → (∀ b o, b ≠ x → s.heap.get? b = some o → h'.get? b = some o) → Q () { s with heap := h', toks := tk }) :
    wpAny (model prog w) A (setAttr (.ref x) name v) Q E s := by
  obtain ⟨oc, odi, oda, osl⟩ := ox
  obtain ⟨vs, hv⟩ := hdf
  cases hc
  cases hdn
  cases hv
  have inst : InstAt s.heap x ⟨.ref C, none, .fields vs, osl⟩ C none := ⟨hx, rfl, rfl, trivial⟩
  have obj : Looks (model prog w) s.heap (isInstance (.ref x) (.type "object")) true := inst.type.andThen (looks_mroIn X (by unfold mroIn; rw [hcl, Option.bind_some, hm]; rfl))
  have cls := looks_clsIn (M := model prog w) X hcl
  have mro : Looks (model prog w) s.heap (mroOf (.ref C)) cd.mro := cls.andThen .now
  have no := looks_findIn (M := model prog w) X hn
  have sf := PySem.F.store_object
  apply set_plain X inst hs
  apply codeAny_call_builtin sf.slot.plain sf.entry
  apply @check_slot (model prog w) _ _ { s with toks := s.toks + 1 } "object.__setattr__" "object" "__setattr__" (.ref x) [.str name s.toks, v] [] _ sf.kind sf.split obj (sf.args (.ref x) (.str name s.toks) v)
  rw [osa_eq, refuse_eq]
  have pass : refuseLoop (.ref x) "__setattr__" cd.mro = pure () := hm ▸ pass_ve _
  have key : cd.hasDict = true := hd
  have two : x ≠ s.heap.objs.size := Nat.ne_of_lt (Heap.lt_size hx)
  have new : ((s.heap.push { cls := .type "dict", data := .dict #[] }).update x fun o => { cls := o.cls, dict := some s.heap.objs.size, data := o.data, slots := o.slots }).Ns s.heap.objs.size (fun _ => none) :=
    ⟨_, #[], _, (Heap.get?_update_ne _ _ _ _ two.symm).trans (Heap.get?_push_at rfl rfl), rfl, fun e m => absurd m (by simp), fun _ => rfl⟩
  wp_walk using inst.type.at, mro.at, wpAny_of_eq pass, no.at, cls.at, wpAny_nsSet1 (Heap.Ns1.of_empty new)
  intro h' now kept
  obtain ⟨od, es, ep, god, dod, cod⟩ := now.count (Within.cons name v Within.nil)
  have short : es.size ≤ sizeLine + 1 := Nat.le_trans cod (by rw [List.length_cons, List.length_nil, sizeLine_eq]; omega)
  wp_walk using wpAny_lookBehind god
  · rw [dod]
    exact pastItsLine_dict short
  · wp_walk
    have hx1 : (s.heap.push { cls := .type "dict", data := .dict #[] }).get? x = some ⟨.ref C, none, .fields vs, osl⟩ := Heap.get?_push_of_some _ hx
    refine h h' _ now ((kept.2 x two).trans (Heap.get?_update_self _ hx1 rfl)) fun b o ne gb => ?_
    rw [kept.2 b (Nat.ne_of_lt (Heap.lt_size gb))]
    exact (Heap.get?_update_ne _ _ _ _ ne).trans (Heap.get?_push_of_some _ gb)
end
end L4


namespace L4
open PySem PySem.Spec PyProof.Rows L2
section
variable {prog : Program} {w : World} {A : Around} {E : Value → Shared → Prop} {h : Heap} {g : Array GenState} {d : Drawn} {t : Nat} {os : OsState}
variable {nm q : Str} {C N : Addr} {bs bm bmB : List Value} {hdct : Bool} {sn : List Str} {sub : List Value} {ab : Bool} {col : Option Bool} {dd : Option Addr} {k0 k1 k2 k3 k5 : Option Value} {B newId nid initId : String}
theorem initB (F : ExcBaseFacts B nid initId bmB) (T : OwnTail h bmB bm) {e tt : Addr} {rest : List Value} {Q : Value → Shared → Prop} (hC : h.get? C = some (excClassObj nm q C N bs bm hdct sn sub ab col dd k0 k1 k2 k3 k5 newId))
    (he : h.get? e = some (rawX C tt)) (hr : rest.length ≤ sizeLine)
    (hq : ∀ h' t1, (∀ b o, b ≠ e → h.get? b = some o → h'.get? b = some o) → h'.get? e = some (rawX C t1) → Q .none ⟨h', g, d, t, os⟩) :
    wpAny (model prog w) A (call (.builtin initId) (.ref e :: rest)) Q E ⟨h, g, d, t, os⟩ := by
  refine wpAny_call (codeAny_call_builtin F.init.plain F.initEntry (wpAny_check_init_subU F T hC he rfl ?_))
  wp_walk
  refine hq _ h.objs.size (fun b o hb e1 => ?_) ?_
  · exact (Heap.get?_update_other _ _ (Ne.symm hb)).trans (Heap.get?_push_of_some _ e1)
  · exact Heap.get?_update_self _ (Heap.get?_push_of_some _ he) rfl
end
end L4


namespace L4
open PySem PySem.Spec PyProof.Rows L2 PySem.W
noncomputable def RawE (e C : Addr) (h : Heap) : Prop := ∃ tt, h.get? e = some (rawX C tt)
structure ExA (K : Frag) (C S N f : Addr) : Prop where
  cls : ∃ nm q bs sn sub ab col dd k0 k1 k2 k3 k5, K.lookup C = some (excClassObj nm q C N bs (.ref S :: veBm) true sn sub ab col dd k0 k1 k2 k3 k5 "ValueError.__new__")
  sup : ∃ nm q N' bs hd sn sub ab col dd k0 k1 k2 k3 k5 nid, K.lookup S = some (excClassObj nm q S N' bs veBm hd sn sub ab col dd k0 k1 k2 k3 k5 nid) ∧ nsOkIn K N' = true ∧ nsIn K N' "__init__" = some none
  nsok : nsOkIn K N = true
  init : nsIn K N "__init__" = some (some (.ref f))
  fn : typeIn K (.ref f) = some (.type "function")
  sa : findIn K (.ref C) "__setattr__" = some (some (.builtin "object.__setattr__"))
  na : findIn K (.ref C) "at" = some none
  ga : findIn K (.ref C) "__getattribute__" = some (some (.builtin "BaseException.__getattribute__"))
  gh : findIn K (.ref C) "__getattr__" = some none
  sb : subIn K (.ref C) (.type "BaseException") = some true
  sg : specialIn K (.ref S) "__getattribute__" = some (some (.builtin "type.__getattribute__"))
  sr : readsIn K S (.type "type") = true
  sf : findCls K (.ref S) (.type "type") "__init__" = some (.val (.builtin "ValueError.__init__"))
  kp : keepIn K (.ref C) = true
theorem ExA.tail {K : Frag} {C S N f : Addr} {h : Heap} (a : ExA K C S N f) (X : K.In h) : OwnTail h veBm (.ref S :: veBm) := by
  obtain ⟨nm, q, N', bs, hd, sn, sub, ab, col, dd, k0, k1, k2, k3, k5, nid, h1, h2, h3⟩ := a.sup
  exact .own (X _ _ h1) (.of_isNs (isNs_of_in X h2)) (nsMap_none_of_in X h2 h3) .base
theorem ns_some_of {K : Frag} {h : Heap} {N : Addr} {mg : Str → Option Value} {n : Str} {v : Value} (X : K.In h) (G : h.Ns N mg) (e : nsIn K N n = some (some v)) : mg n = some v := by
  obtain ⟨o, es, ep, ho, hd, _, hf⟩ := G
  unfold nsIn at e
  split at e
  · rename_i c d es' n' sl q
    have := X _ _ q
    rw [ho] at this
    cases this
    cases hd
    split at e
    · rename_i en he
      rw [← hf]
      unfold nsFind findBy
      rw [← Array.find?_toList, he]
      simpa using e
    · split at e <;> cases e
  · cases e
section
variable {X : Cx} {C S N f : Addr} {e1 e2 : Expr} {t1 t2 : TE} {np apos pos : Pos}
/-! S.__init__(self, text) -/
noncomputable def tSup (C : Addr) (t1 t2 : TE) : TE := fun σ H Q => t1 σ H fun x H1 => t2 σ H1 fun _ H2 => ∃ e, x = .ref e ∧ H2 e = some (.ext (RawE e C)) ∧ Q .non (upd H2 e (.ext (RawE e C)))
theorem raw_ok {P : Program} {w : World} {H : Hp} {h : Heap} {e C tt : Addr} (he : h.get? e = some (rawX C tt)) : ObjOk P w H h e (.ext (RawE e C)) := ⟨⟨tt, he⟩, ⟨_, he⟩, fun _ _ ⟨tt, p⟩ k => ⟨tt, k _ p⟩⟩
theorem sup_ok {pins : List (Addr × Obj)} {σ : L2.St} {H : Hp} {s : Shared} {e : Addr} {u : Value} {Q : Value → Shared → Prop} {E : Value → Shared → Prop} {A : Around} (a : ExA X.K C S N f) (I : Inv X pins σ H s) (he : H e = some (.ext (RawE e C)))
    (h : ∀ s', Inv X pins σ (upd H e (.ext (RawE e C))) s' → Q .none s') : wpAny (model X.prog X.w) A (call (.builtin "ValueError.__init__") [.ref e, u]) Q E s := by
  obtain ⟨tt, hr⟩ := (show ObjOk X.prog X.w H s.heap e (.ext (RawE e C)) from I.hok e _ he).1
  obtain ⟨nm, q, bs, sn, sub, ab, col, dd, k0, k1, k2, k3, k5, hC⟩ := a.cls
  obtain ⟨hp, g, d, t, os⟩ := s
  refine initB PySem.F.excBase_ValueError (a.tail I.kIn) (I.kIn _ _ hC) hr (by show 1 ≤ sizeLine; decide) fun h' t1 k1 k2 => ?_
  exact h _ (I.write (x := e) (e := e) (t' := t) (by rw [he]; trivial) (.inl rfl) k1 ⟨_, k2⟩ (raw_ok k2))
theorem pe_sup {cn : Str} {pl : Sem Bool} (a : ExA X.K C S N f) (hS : ExN X.K cn (.ref S)) (hg : Gl X cn) (h1 : PE X e1 t1) (h2 : PE X e2 t2) (hd : (cn == ("__debug__" : Str)) = false := by decide)
    (hb : backTo pos (starEach [e1, e2] X.env) = [(false, eval e1 X.env), (false, eval e2 X.env)] := by rfl)
    (ht : eval (.Call (.Attribute (.Name cn np) "__init__" apos) [e1, e2] [] pos) X.env = (do
      let ov ← eval (.Name cn np) X.env
      standAt apos.atName
      let (f, first) ← holding [ov] (getMethod ov "__init__" pl)
      callWith pos f first (backTo pos (starEach [e1, e2] X.env)) (backToKw pos (keywordEach [] X.env))) := by rfl) :
    PE X (.Call (.Attribute (.Name cn np) "__init__" apos) [e1, e2] [] pos) (tSup C t1 t2) := by
  intro pins s σ H Q I h
  refine methodCall_KW (pl := pl) (ld_glob I hg (mg_of I.mod.kin I.mod.glob hS) ?_ hd) ht
  refine method_cls I.kIn a.sg (cls_value I.kIn a.sr a.sf (by decide +kernel) ?_)
  have I0 : Inv X pins σ H { s with toks := s.toks + 1 } := I.tok _
  rw [hb]
  refine Calls.callWith_builtin rfl (Calls.evalArgs_plain (Calls.spliced_cons (thn (h1 pins _ σ H _ I0 h) fun u s1 ⟨x, H1, I1, rx, q1⟩ => Calls.spliced_cons (thn (h2 pins s1 σ H1 _ I1 q1) fun u2 s2 ⟨y, H2, I2, ry, e, ex, he, q2⟩ => Calls.spliced_nil ?_))))
  subst ex
  cases rx
  exact sup_ok a I2 he fun s3 I3 => ⟨.non, _, I3, rfl, q2⟩
/-! self.at = v -/
noncomputable def tsAt (C : Addr) (ts tv : TE) : TS := fun D σ H => tv σ H fun y H1 => ts σ H1 fun x H2 => ∃ e i, x = .ref e ∧ y = .int i ∧ H2 e = some (.ext (RawE e C)) ∧
  ∀ dx, H2 dx = none → dx ≠ e → D.nx σ (upd (upd H2 dx (.ext (XADict dx i))) e (.ext (XAObj e (.ref C) dx)))
theorem ps_at {o value : Expr} {ts tv : TE} {pos' : Pos} (a : ExA X.K C S N f) (ho : PE X o ts) (hv : PE X value tv) (hs : swapsWith value (some (.Attribute o "at" pos')) pos.line X.env = pure false := by rfl) :
    PS X (.Assign [.Attribute o "at" pos'] value pos) (tsAt C ts tv) := by
  intro pins s σ H D I h
  refine plainObj_wpAny_Assign_Attribute (thn (hv pins s σ H _ I h) fun u s1 ⟨y, H1, I1, ry, q⟩ => thn (ho pins s1 σ H1 _ I1 q) fun ov s2 ⟨x, H2, I2, rx, e, i, ex, ey, he, q2⟩ => ?_) hs
  subst ex ey
  obtain rfl : ov = Value.ref e := rx
  obtain ⟨t, rfl⟩ := ry
  obtain ⟨tt, hr⟩ := (show ObjOk X.prog X.w H2 s2.heap e (.ext (RawE e C)) from I2.hok e _ he).1
  obtain ⟨nm, qq, bs, sn, sub, ab, col, dd, k0, k1, k2, k3, k5, hC⟩ := a.cls
  obtain ⟨cd, hcl, hm, hd⟩ : ∃ cd, clsIn X.K C = some cd ∧ cd.mro = .ref C :: .ref S :: veBm ∧ cd.hasDict = true := by unfold clsIn; rw [hC]; exact ⟨_, rfl, rfl, rfl⟩
  refine setX (S := S) I2.kIn hr rfl rfl ⟨_, rfl⟩ a.sa hcl hm hd a.na fun h' tk hn hx hk => ?_
  have hne : s2.heap.objs.size ≠ e := Nat.ne_of_gt (Heap.lt_size hr)
  have q3 := q2 s2.heap.objs.size (I2.hok.fresh (Nat.le_refl _)) hne
  obtain ⟨od, es, ep, hod, r⟩ := id hn
  have hat : (fun y => if y = ("at" : Str) then some (Value.int i t) else none) = (fun y => if y = ("at" : Str) then some (Value.int i t) else none) := rfl
  have ext : ObjOk X.prog X.w (upd H2 s2.heap.objs.size (.ext (XADict s2.heap.objs.size i))) (s2.heap.push od) s2.heap.objs.size (.ext (XADict s2.heap.objs.size i)) := by
    have hg : (s2.heap.push od).get? s2.heap.objs.size = some od := Heap.get?_push_size _ (Heap.get?_some_iff.mp hod).2
    exact ⟨⟨t, od, es, ep, hg, r⟩, ⟨od, hg⟩, fun h1 h2 ⟨t, p⟩ k => ⟨t, p.at fun o z => k o z⟩⟩
  have I3 := I2.laid (a := s2.heap.objs.size) (o := .ext (XADict s2.heap.objs.size i)) (t' := tk) (fun b u z => Heap.get?_push_of_some _ z) (Nat.le_refl _) ext
  have I4 := I3.write (x := e) (e := e) (o := .ext (XAObj e (.ref C) s2.heap.objs.size)) (t' := tk) (h' := h') (by rw [upd_ne (Ne.symm hne), he]; trivial) (.inl rfl) (fun b u hb z => ?_) ⟨_, hx⟩ ?_
  · exact ⟨σ, _, I4, q3⟩
  · by_cases hbs : b = s2.heap.objs.size
    · subst hbs
      have hg : (s2.heap.push od).get? s2.heap.objs.size = some od := Heap.get?_push_size _ (Heap.get?_some_iff.mp hod).2
      have z' : (s2.heap.push od).get? s2.heap.objs.size = some u := z
      rw [hg] at z'
      cases z'
      exact hod
    · have z' : (s2.heap.push od).get? b = some u := z
      rw [Heap.get?_push_ne _ _ _ hbs] at z'
      exact hk b u hb z'
  · exact ⟨⟨hne, _, hx, rfl, ⟨_, rfl⟩, rfl⟩, ⟨_, hx⟩, fun h1 h2 ⟨p1, o, p2, p3⟩ k => ⟨p1, o, k o p2, p3⟩⟩
end
end L4


namespace L4
open PySem PySem.Spec PyProof.Rows L2 PySem.W
noncomputable def spI (C : Addr) : Sp := fun vs H Q _ => ∃ e y i, vs = [.ref e, y, .int i] ∧ H e = some (.ext (RawE e C)) ∧ ∀ dx, H dx = none → dx ≠ e → Q .non (upd (upd H dx (.ext (XADict dx i))) e (.ext (XAObj e (.ref C) dx)))
theorem upd_id {H : Hp} {e : Addr} {o : HO} (h : H e = some o) : upd H e o = H := by
  funext b
  by_cases hb : b = e
  · subst hb; rw [upd_same, h]
  · rw [upd_ne hb]
theorem spI_len {C : Addr} (vs : List V) (H : Hp) (Q : VK) (E : XK) (h : spI C vs H Q E) : vs.length = (["self", "text", "at"] : List Str).length := by
  obtain ⟨e, y, i, rfl, _⟩ := h; rfl
theorem init_t {C : Addr} {vs : List V} {H : Hp} {Q : VK} {E : XK} (h : spI C vs H Q E) : (tSeq (tDrop (tSup C (tVar 0) (tVar 1))) (tsAt C (tVar 0) (tVar 2))) { nx := fun _ H' => Q .non H', rt := Q } (start (["self", "text", "at"] : List Str) vs) H := by
  obtain ⟨e, y, i, rfl, he, hq⟩ := h
  refine ⟨.ref e, rfl, y, rfl, e, rfl, he, ?_⟩
  rw [upd_id he]
  exact ⟨.int i, rfl, .ref e, rfl, e, i, rfl, rfl, he, hq⟩
section
variable {X : Cx} {CX : CXT} {k : Nat} {C S N f : Addr} {fd : FuncData} {dvs : List V} {ds : List Value} {E : XK} {x : Str} {p pos : Pos} {e : Expr} {es : List Expr} {t : TA}
noncomputable def tNewA (C : Addr) (dvs : List V) (t : TA) : TE := fun σ H Q => t σ H fun vs H1 => ∃ y i, vs ++ dvs = [y, .int i] ∧ ∀ a dx, H1 a = none → H1 dx = none → dx ≠ a → Q (.ref a) (upd (upd H1 dx (.ext (XADict dx i))) a (.ext (XAObj a (.ref C) dx)))
theorem upd_upd {H : Hp} {a : Addr} {o o' : HO} : upd (upd H a o) a o' = upd H a o' := by
  funext b
  by_cases hb : b = a
  · subst hb; rw [upd_same, upd_same]
  · rw [upd_ne hb, upd_ne hb, upd_ne hb]
theorem upd_swap {H : Hp} {a b : Addr} {o o' : HO} (h : a ≠ b) : upd (upd H a o) b o' = upd (upd H b o') a o := by
  funext c
  by_cases h1 : c = b
  · subst h1; rw [upd_same, upd_ne (Ne.symm h), upd_same]
  · by_cases h2 : c = a
    · subst h2; rw [upd_ne h1, upd_same, upd_same]
    · rw [upd_ne h1, upd_ne h2, upd_ne h2, upd_ne h1]
theorem run_newA {pins : List (Addr × Obj)} {σ : L2.St} {H : Hp} {s : Shared} {Q : VK} {us : List Value} {vs : List V} (a : ExA X.K C S N f) (F : FnOk X.prog X.w X.K X.mg X.base CX k f fd ["self", "text", "at"] (spI C)) (hr : Room (k + 1) X.A) (hb : Binds X.K fd ["self", "text", "at"] ds) (hd : Vals dvs ds)
    (hx : Passes CX X E) (I : Inv X pins σ H s) (r : Vals vs us) (h : ∃ y i, vs ++ dvs = [y, .int i] ∧ ∀ a dx, H a = none → H dx = none → dx ≠ a → Q (.ref a) (upd (upd H dx (.ext (XADict dx i))) a (.ext (XAObj a (.ref C) dx)))) :
    wpAny (model X.prog X.w) X.A (call (.ref C) us) (EP X pins σ Q) X.xe s := by
  obtain ⟨y, i, ev, hq⟩ := h
  obtain ⟨nm, q, bs, sn, sub, ab, col, dd, k0, k1, k2, k3, k5, hC⟩ := a.cls
  obtain ⟨of, hof, hoc⟩ : ∃ of, X.K.lookup f = some of ∧ of.cls = .type "function" := by
    have := a.fn
    unfold typeIn at this
    obtain ⟨of, h1, h2⟩ := Option.map_eq_some_iff.mp this
    exact ⟨of, h1, h2⟩
  have G : s.heap.Ns N (s.heap.nsMap N) := .of_isNs (isNs_of_in I.kIn a.nsok)
  have hl : us.length ≤ sizeLine := by
    have e1 : vs.length = us.length := r.length
    have e2 : (vs ++ dvs).length = 2 := by rw [ev]; rfl
    rw [List.length_append] at e2
    have : (2 : Nat) ≤ sizeLine := by decide
    omega
  have keep : ∀ b o, s.heap.get? b = some o → (rawH s.heap C us).get? b = some o := fun b o z => Heap.get?_push_of_some _ (Heap.get?_push_of_some _ z)
  have hget : (rawH s.heap C us).get? (s.heap.objs.size + 1) = some (rawX C s.heap.objs.size) := by heap_get
  have hn0 : H (s.heap.objs.size + 1) = none := I.hok.fresh (Nat.le_succ _)
  have I2 : Inv X pins σ (upd H (s.heap.objs.size + 1) (.ext (RawE (s.heap.objs.size + 1) C))) { s with heap := rawH s.heap C us } := I.laid (a := s.heap.objs.size + 1) (t' := s.toks) keep (Nat.le_succ _) (raw_ok hget)
  have hsp : spI C (V.ref (s.heap.objs.size + 1) :: (vs ++ dvs)) (upd H (s.heap.objs.size + 1) (.ext (RawE (s.heap.objs.size + 1) C))) (fun v H2 => v = .non ∧ Q (.ref (s.heap.objs.size + 1)) H2) E := by
    refine ⟨_, y, i, by rw [ev], upd_same, fun dx h1 h2 => ⟨rfl, ?_⟩⟩
    rw [upd_ne h2] at h1
    rw [upd_swap (Ne.symm h2), upd_upd]
    exact hq _ dx hn0 h1 h2
  have r2 : Vals (V.ref (s.heap.objs.size + 1) :: (vs ++ dvs)) (Value.ref (s.heap.objs.size + 1) :: (us ++ ds)) := .cons rfl (r.append hd)
  have hl2 : (Value.ref (s.heap.objs.size + 1) :: us ++ ds).length = (["self", "text", "at"] : List Str).length := by
    have e := r2.length
    rw [F.len _ _ _ _ hsp] at e
    exact e.symm
  obtain ⟨hp, g, d, t, os⟩ := s
  refine call_initX PySem.F.excBase_ValueError (by decide) PySem.F.excBase_ValueError (a.tail I.kIn) (I.kIn _ _ hC) G (ns_some_of I.kIn G a.init) (I.kIn _ _ hof) hoc ?_ hl
  refine wpAny_call (codeAny_mono (F.run _ X.stack _ _ ⟨Value.ref (hp.objs.size + 1) :: us, []⟩ (Value.ref (hp.objs.size + 1) :: (us ++ ds)) _ _ E (hr.make C us []) (I2.env0.make C us []) (hb _ (Value.ref (hp.objs.size + 1) :: us) I2.kIn hl2) r2 hsp) fun r s' hq' => ?_)
  cases r with
  | error e => exact hx pins σ _ _ e s' I2 hq'
  | ok fl =>
    cases fl with
    | ret u =>
      obtain ⟨v, H', I3, rv, ev, q3⟩ := I2.after hq'
      subst ev
      exact ⟨rv, ⟨V.ref (hp.objs.size + 1), H', I3, rfl, q3⟩⟩
    | next => exact False.elim hq'
    | brk => exact False.elim hq'
    | cont => exact False.elim hq'
theorem pe_newA (a : ExA X.K C S N f) (hn : ExN X.K x (.ref C)) (F : FnOk X.prog X.w X.K X.mg X.base CX k f fd ["self", "text", "at"] (spI C)) (hr : Room (k + 1) X.A) (hg : Gl X x) (hb : Binds X.K fd ["self", "text", "at"] ds) (hd : Vals dvs ds) (hx : Passes CX X E)
    (ha : PA X (e :: es) t) (hdb : (x == ("__debug__" : Str)) = false := by decide) (he : starEach (e :: es) X.env = (false, eval e X.env) :: starEach es X.env := by rfl) (hpl : (backTo pos (starEach es X.env)).any (·.1) = false := by rfl) :
    PE X (.Call (.Name x p) (e :: es) [] pos) (tNewA C dvs t) := by
  intro pins s σ H Q I h
  refine wpAny_Call_Name_kw (ld_glob I hg (mg_of I.mod.kin I.mod.glob hn) ?_ hdb)
  refine PySem.W.callWith_K (h₀ := X.base) I.ok.mod.kin a.kp (thn (ha pos pins s σ H _ I h) fun us s1 ⟨vs, H1, I1, r, q⟩ => ⟨I1.kIn, ?_⟩) he hpl
  exact run_newA a F hr hb hd hx I1 r q
end
end L4


namespace L4
open PySem PySem.Spec PyProof.Rows L2 PySem.W
structure KX (K : Frag) (C : Addr) : Prop where
  ga : findIn K (.ref C) "__getattribute__" = some (some (.builtin "BaseException.__getattribute__"))
  gh : findIn K (.ref C) "__getattr__" = some none
  sb : subIn K (.ref C) (.type "BaseException") = some true
  hd : hasDictIn K C = true
  fc : findIn K (.ref C) "__class__" = some (some (.builtin "object.__class__"))
  gt : specialIn K (.builtin "object.__class__") "__get__" = some (some (.builtin "getset_descriptor.__get__"))
  tk : takesIn K (.builtin "object.__class__") = some true
  mo : mroIn K C (.type "object") = some true
section
variable {prog : Program} {w : World} {A : Around} {E : Value → Shared → Prop} {s : Shared} {K : Frag} {x C : Addr} {ox : Obj} {od : Option Obj}
theorem KX.found (k : KX K C) : findObj K C od "__class__" = some (.bind (.builtin "getset_descriptor.__get__") (.builtin "object.__class__")) := by
  obtain ⟨cd, hc, _⟩ := any_some k.hd
  unfold findObj
  rw [hc, Option.bind_some, k.fc, Option.bind_some]
  simp only [k.gt, k.tk, Option.bind_some]
theorem classX {Q : Option Value → Shared → Prop} (k : KX K C) (X : K.In s.heap) (I : InstAt s.heap x ox C od) (h : Q (some (.ref C)) { s with toks := s.toks + 1 }) : wpAny (model prog w) A (getAttr? (.ref x) "__class__") Q E s := by
  have ga := looks_findIn (M := model prog w) X k.ga
  have gh := looks_findIn (M := model prog w) X k.gh
  have other : (Value.builtin "BaseException.__getattribute__" == Value.builtin "object.__getattribute__") = false := by decide +kernel
  have exc : Looks (model prog w) s.heap (isInstance (.ref x) (.type "BaseException")) true := I.type.andThen (looks_subIn X k.sb)
  have found := looks_find (M := model prog w) X I k.found
  have asked : ∀ {Q' E' : Value → Shared → Prop}, Q' (.ref C) { s with toks := s.toks + 1 } → wpAny (model prog w) A (call (.builtin "BaseException.__getattribute__") ([.ref x] ++ [.str "__class__" s.toks])) Q' E' { s with toks := s.toks + 1 } := by
    intro Q' E' q
    apply wpAny_call
    apply codeAny_call_builtin sl_bga.plain PySem.F.entry_bexc_ga
    apply @check_slot (model prog w) _ _ { s with toks := s.toks + 1 } "BaseException.__getattribute__" "BaseException" "__getattribute__" (.ref x) [.str "__class__" s.toks] [] _ (by decide +kernel) (by decide +kernel) exc (PySem.F.args_bexc_ga (.ref x) (.str "__class__" s.toks))
    wp_walk using I.type.at, found.at
    apply class_get (s := { s with toks := s.toks + 1 }) X I k.mo
    wp_walk
    exact q
  unfold getAttr?
  wp_walk using wpAny_mkText, I.type.at, ga.at, gh.at, wpAny_of_eq (sl_bga.bind _), asked
  exact h
theorem kitx_exc (k : KX K C) : KitX K (.ref x) (.ref C) (fun h => ∃ ox od, InstAt h x ox C od) where
  ty := fun _ _ _ ⟨_, _, I⟩ => I.type
  it := fun _ _ X _ => by
    obtain ⟨cd, hc, _⟩ := any_some k.hd
    unfold clsIn at hc
    split at hc
    · rename_i ho
      intro A' Q' E' s' kk q
      unfold isType loadHead; exact wpAny_bind (wpAny_loadPart (kk _ _ (X _ _ ho)) (wpAny_pure q))
    · cases hc
  ne := fun h tp dd its n sl X htp => by
    obtain ⟨cd, hc, _⟩ := any_some k.hd
    refine Bool.eq_false_iff.mpr fun q => ?_
    have e : C = tp := Value.ref.inj (beq_iff_eq.mp q)
    subst e
    unfold clsIn at hc
    split at hc
    · rename_i ho
      cases (X _ _ ho).symm.trans htp
    · cases hc
  ca := fun X ⟨_, _, I⟩ z => classX k X I z
end
end L4


namespace L4
open PySem PySem.Spec PyProof.Rows L2 PySem.W
section
variable {K : Frag}
theorem StOk.newG {M : Nat → Option Addr} {G0 H0 G H : Hp} {σ : L2.St} {δ : DEnv} (S : StOk K M G0 H0 G H σ δ) {p : Addr} (o : HO) (hp : H p = none) : StOk K M G0 H0 (upd G p o) (upd H p o) σ δ ∧ Gr G H σ δ (upd G p o) (upd H p o) δ ∧ Same G (upd G p o) := by
  obtain ⟨S1, g1, hg⟩ := S.new (o := o) hp
  obtain ⟨S2, hs⟩ := S1.showAt upd_same hg (S.noOw hp) (Same.free S.h0 hp)
  refine ⟨S2, ⟨g1.hs, g1.hd, hs, fun b hb n o => ?_, fun _ z => z⟩, hs⟩
  rw [upd_ne (fun z => hb (by rw [z]; exact hp))]
  exact n
/-! C(..), C with its own __init__ -/
noncomputable def rNewA (C : Addr) (dvs : List V) : List V → Hp → VK → Prop := fun vs H1 Q => ∃ y i, vs ++ dvs = [y, .int i] ∧ ∀ a dx, H1 a = none → H1 dx = none → dx ≠ a → Q (.ref a) (upd (upd H1 dx (.ext (XADict dx i))) a (.ext (XAObj a (.ref C) dx)))
noncomputable def newA1 (c : Str) (ds : List D) : Option Sl := match ds with | [_] => some (.val (.exa c 0)) | _ => none
noncomputable def newA2 (c : Str) (ds : List D) : Option Sl := match ds with | [_, .int i] => some (.val (.exa c i)) | _ => none
theorem newA_k {M : Nat → Option Addr} {G0 H0 G H : Hp} {σ : L2.St} {δ : DEnv} {c : Str} {C : Addr} {i : Int} {Q : VK} (hn : ExN K c (.ref C)) (S : StOk K M G0 H0 G H σ δ)
    (k : ∀ v G' H', StOk K M G0 H0 G' H' σ δ → Gr G H σ δ G' H' δ → RepR K H G' H' v (.val (.exa c i)) → Q v H') (a dx : Addr) (ha : H a = none) (hdx : H dx = none) (hne : dx ≠ a) :
    Q (.ref a) (upd (upd H dx (.ext (XADict dx i))) a (.ext (XAObj a (.ref C) dx))) := by
  obtain ⟨S1, g1, s1⟩ := S.newG (.ext (XADict dx i)) hdx
  obtain ⟨S2, g2, s2⟩ := S1.newG (.ext (XAObj a (.ref C) dx)) (by rw [upd_ne (Ne.symm hne)]; exact ha)
  exact k _ _ _ S2 (g1.trans g2) (.val (.exa hn upd_same (by rw [upd_ne hne, upd_same])))
theorem c_newA1 {c : Str} {C : Addr} (hn : ExN K c (.ref C)) : SndN K (rNewA C [.int 0]) (newA1 c) := by
  intro M G0 H0 G H σ δ xs ds s Q S r e k
  unfold newA1 at e
  split at e
  · cases e
    obtain ⟨x, rfl, rr⟩ := repL1 r
    exact ⟨x, 0, rfl, newA_k hn S k⟩
  · cases e
theorem c_newA2 {c : Str} {C : Addr} (hn : ExN K c (.ref C)) : SndN K (rNewA C []) (newA2 c) := by
  intro M G0 H0 G H σ δ xs ds s Q S r e k
  unfold newA2 at e
  split at e
  · cases e
    obtain ⟨x, y, rfl, r1, r2⟩ := repL2 r
    cases rep_int r2
    exact ⟨x, _, rfl, newA_k hn S k⟩
  · cases e
end
section
variable {X : Cx} {CX : CXT} {k : Nat} {C S N f : Addr} {fd : FuncData} {ds : List Value} {E : XK} {x : Str} {p pos : Pos} {e : Expr} {es : List Expr} {fl : FL}
theorem de_newA {dvs : List V} {g : List D → Option Sl} (a : ExA X.K C S N f) (hn : ExN X.K x (.ref C)) (F : FnOk X.prog X.w X.K X.mg X.base CX k f fd ["self", "text", "at"] (spI C)) (hr : Room (k + 1) X.A) (hg : Gl X x) (hb : Binds X.K fd ["self", "text", "at"] ds) (hd : Vals dvs ds) (hx : Passes CX X E)
    (hs : SndN X.K (rNewA C dvs) g) (ha : DA X (e :: es) fl) (hdb : (x == ("__debug__" : Str)) = false := by decide) (he : starEach (e :: es) X.env = (false, eval e X.env) :: starEach es X.env := by rfl) (hpl : (backTo pos (starEach es X.env)).any (·.1) = false := by rfl) :
    DE X (.Call (.Name x p) (e :: es) [] pos) (fArgs g fl) :=
  let ⟨_, a1, a2⟩ := ha; ⟨_, pe_newA a hn F hr hg hb hd hx a1 hdb he hpl, snd_cb hs a2⟩
end
/-! C(e), C without an __init__ of its own -/
section
variable {prog : Program} {w : World} {A : Around} {E : Value → Shared → Prop} {h : Heap} {g : Array GenState} {d : Drawn} {t : Nat} {os : OsState}
variable {nm q : Str} {C N : Addr} {bs bm bmB : List Value} {hdct : Bool} {sn : List Str} {sub : List Value} {ab : Bool} {col : Option Bool} {dd : Option Addr} {k0 k1 k2 k3 k5 : Option Value} {B newId initId : String}
theorem typecall_plain (F : ExcBaseFacts B newId initId bmB) (T : OwnTail h bmB bm) {mN : Str → Option Value} {rest : List Value} {Q : PySem.Fin → Shared → Prop}
    (hC : h.get? C = some (excClassObj nm q C N bs bm hdct sn sub ab col dd k0 k1 k2 k3 k5 newId)) (hn : h.Ns N mN) (hni : mN "__init__" = none)
    (hq : ∀ h' t1, (∀ b o, h.get? b = some o → h'.get? b = some o) → h'.get? (h.objs.size + 1) = some (rawX C t1) → Q (.done (.ret (.ref (h.objs.size + 1)))) ⟨h', g, d, t, os⟩) (hrest : rest.length ≤ sizeLine) :
    wpAny (model prog w) A (Builtin.«type.__call__» ⟨.ref C :: rest, []⟩) Q E ⟨h, g, d, t, os⟩ := by
  have up : ∀ {b : Addr} {o : Obj}, h.get? b = some o → (rawH h C rest).get? b = some o := fun e => Heap.get?_push_of_some _ (Heap.get?_push_of_some _ e)
  have made : (rawH h C rest).get? (h.objs.size + 1) = some (rawX C h.objs.size) := by heap_get
  have hC1 := up hC
  have hN1 : (rawH h C rest).Ns N mN := let ⟨o, es, ep, e, r⟩ := hn; ⟨o, es, ep, up e, r⟩
  have T1 := T.keeps (h' := rawH h C rest) fun b o e => up e
  have own : (Value.ref C :: bm).contains (.ref C) = true := by simp
  wp_walk using wpAny_loadPart_at hC, wpAny_madeBy_exc hC
  apply codeAny_call_builtin_code (Code.quiet_builtin _ F.quiet)
  apply wpAny_check_new_subU F F.hasB T hC
  apply codeAny_exc_new_subU F F.hasB F T hC (hrest := hrest)
  wp_walk using wpAny_loadPart_at made, wpAny_isSubtype_exc hC1, wpAny_typeLookup_tail hC1 hN1 T1 F.mroIs F.init.lookup
  rw [hni]
  have init : ∀ {Q' : Value → Shared → Prop}, (∀ h' t1, (∀ b o, b ≠ h.objs.size + 1 → (rawH h C rest).get? b = some o → h'.get? b = some o) → h'.get? (h.objs.size + 1) = some (rawX C t1) → Q' .none ⟨h', g, d, t, os⟩) →
      wpAny (model prog w) A (call (.builtin initId) ((Value.builtin initId, [Value.ref (h.objs.size + 1)]).2 ++ rest) (⟨.ref C :: rest, []⟩ : Args).kw) Q' E ⟨rawH h C rest, g, d, t, os⟩ := fun k => initB F T1 hC1 made hrest k
  wp_walk using wpAny_of_eq (F.init.bind _), init
  intro h' t1 kept at_
  wp_walk
  exact hq h' t1 (fun b o z => kept b o (Nat.ne_of_lt (Nat.lt_succ_of_lt (Heap.lt_size z))) (up z)) at_
theorem call_plainX (F : ExcBaseFacts B newId initId bmB) (T : OwnTail h bmB bm) {mN : Str → Option Value} {rest : List Value} {Q : Value → Shared → Prop}
    (hC : h.get? C = some (excClassObj nm q C N bs bm hdct sn sub ab col dd k0 k1 k2 k3 k5 newId)) (hn : h.Ns N mN) (hni : mN "__init__" = none)
    (hq : ∀ h' t1, (∀ b o, h.get? b = some o → h'.get? b = some o) → h'.get? (h.objs.size + 1) = some (rawX C t1) → Q (.ref (h.objs.size + 1)) ⟨h', g, d, t, os⟩) (hrest : rest.length ≤ sizeLine) :
    wpAny (model prog w) A (call (.ref C) rest) Q E ⟨h, g, d, t, os⟩ := by
  exact call_cls hC (typecall_plain F T hC hn hni hq hrest)
end
section
variable {X : Cx} {C : Addr} {x : Str} {p pos : Pos} {e : Expr} {es : List Expr} {t : TA} {fl : FL} {K : Frag}
noncomputable def rNewX (C : Addr) : List V → Hp → VK → Prop := fun vs H Q => vs.length ≤ sizeLine ∧ ∀ a, H a = none → Q (.ref a) (upd H a (.ext (XObj0 a (.ref C))))
theorem xobj_ok {P : Program} {w : World} {H : Hp} {h : Heap} {e C tt : Addr} (he : h.get? e = some (rawX C tt)) : ObjOk P w H h e (.ext (XObj0 e (.ref C))) := ⟨⟨_, _, he, rfl, rfl, rfl⟩, ⟨_, he⟩, fun _ _ ⟨o, vs, p, r⟩ k => ⟨o, vs, k _ p, r⟩⟩
theorem pe_newX (c : ExC X.K x C) (kp : keepIn X.K (.ref C) = true) (hg : Gl X x) (ha : PA X (e :: es) t) (hdb : (x == ("__debug__" : Str)) = false := by decide)
    (he : starEach (e :: es) X.env = (false, eval e X.env) :: starEach es X.env := by rfl) (hpl : (backTo pos (starEach es X.env)).any (·.1) = false := by rfl) : PE X (.Call (.Name x p) (e :: es) [] pos) (tCB (rNewX C) t) := by
  intro pins s σ H Q I h
  refine wpAny_Call_Name_kw (ld_glob I hg (mg_of I.mod.kin I.mod.glob c.at') ?_ hdb)
  refine callWith_K (h₀ := X.base) I.ok.mod.kin kp (thn (ha pos pins s σ H _ I h) fun us s1 ⟨vs, H1, I1, r, hl, q⟩ => ⟨I1.kIn, ?_⟩) he hpl
  obtain ⟨bm, N, nm, qq, bs, hdct, sn, sub, ab, col, dd, k0, k1, k2, k3, k5, mN, hC, hN, hni, T⟩ := c.obj I1.kIn
  obtain ⟨hp, g, d, t, os⟩ := s1
  refine call_plainX PySem.F.excBase_ValueError T hC hN hni (fun h' t1 k1 k2 => ?_) (by show us.length ≤ sizeLine; rw [← r.length]; exact hl)
  exact ⟨.ref (hp.objs.size + 1), _, I1.laid (a := hp.objs.size + 1) (o := .ext (XObj0 (hp.objs.size + 1) (.ref C))) (t' := t) k1 (Nat.le_succ _) (xobj_ok k2), rfl, q _ (I1.hok.fresh (Nat.le_succ _))⟩
noncomputable def newX1 (c : Str) (ds : List D) : Option Sl := match ds with | [_] => some (.val (.exo c)) | _ => none
theorem c_newX {c : Str} (hn : ExN K c (.ref C)) : SndN K (rNewX C) (newX1 c) := by
  intro M G0 H0 G H σ δ xs ds s Q S r e k
  unfold newX1 at e
  split at e
  · cases e
    obtain ⟨x, rfl, rr⟩ := repL1 r
    refine ⟨by show 1 ≤ sizeLine; decide, fun a ha => ?_⟩
    obtain ⟨S1, g1, s1⟩ := S.newG (.ext (XObj0 a (.ref C))) ha
    exact k _ _ _ S1 g1 (.val (.exo hn upd_same))
  · cases e
theorem de_newX (c : ∃ C, ExC X.K x C ∧ keepIn X.K (.ref C) = true) (hg : Gl X x) (ha : DA X (e :: es) fl) (hdb : (x == ("__debug__" : Str)) = false := by decide)
    (he : starEach (e :: es) X.env = (false, eval e X.env) :: starEach es X.env := by rfl) (hpl : (backTo pos (starEach es X.env)).any (·.1) = false := by rfl) : DE X (.Call (.Name x p) (e :: es) [] pos) (fArgs (newX1 x) fl) :=
  let ⟨_, c, kp⟩ := c; let ⟨_, a1, a2⟩ := ha; ⟨_, pe_newX c kp hg a1 hdb he hpl, snd_cb (c_newX c.at') a2⟩
end
end L4


namespace L4
open PySem PySem.Spec PyProof.Rows L2 PySem.W
section
variable {X : Cx} {e : Expr} {te : TE} {fe : FE} {pos : Pos}
/-! e.at -/
noncomputable def tAtR (K : Frag) (te : TE) : TE := fun σ H Q => te σ H fun x H1 => ∃ a dx C i, x = .ref a ∧ H1 a = some (.ext (XAObj a (.ref C) dx)) ∧ H1 dx = some (.ext (XADict dx i)) ∧ KX K C ∧ findIn K (.ref C) "at" = some none ∧ Q (.int i) H1
theorem pe_atR (he : PE X e te) (hb : attributeBase e "at" X.env (eval e X.env) = eval e X.env := by rfl) : PE X (.Attribute e "at" pos) (tAtR X.K te) := by
  intro pins s σ H Q I h
  refine attr_of hb (thn (he pins s σ H _ I h) fun u s1 ⟨x, H1, I1, rx, a, dx, C, i, ex, ha, hdx, k, hn, q⟩ => ?_)
  subst ex
  cases rx
  obtain ⟨hne, o, ho, hc, ⟨vs, hv⟩, hd⟩ := (show ObjOk X.prog X.w H1 s1.heap a (.ext (XAObj a (.ref C) dx)) from I1.hok a _ ha).1
  obtain ⟨t, hns⟩ := (show ObjOk X.prog X.w H1 s1.heap dx (.ext (XADict dx i)) from I1.hok dx _ hdx).1
  obtain ⟨od, hod, hl⟩ := lookIn_ns hns
  obtain ⟨oc, odi, oda, osl⟩ := o
  dsimp only at hc hv hd
  subst hc hv hd
  have J : InstAt s1.heap a ⟨.ref C, some dx, .fields vs, osl⟩ C (some od) := ⟨ho, rfl, rfl, hod⟩
  refine getX I1.kIn J k.ga k.gh k.sb (v := .int i t) (findObj_own k.hd hn rfl (by rw [hl]; rfl)) rfl ?_
  exact ⟨.int i, H1, I1.tok _, ⟨t, rfl⟩, q⟩
noncomputable def AtOk (K : Frag) (cs : List Str) : Prop := ∀ c, c ∈ cs → ∀ C, ExN K c C → ∃ A, C = .ref A ∧ KX K A ∧ findIn K (.ref A) "at" = some none
noncomputable def atD (cs : List Str) (d : D) : Option Sl := match d with | .exa c i => if c ∈ cs then some (.val (.int i)) else none | _ => none
noncomputable def fAt (cs : List Str) (fe : FE) : FE := fun δ => (fe δ).bind fun p δ => lift (atD cs p.fz) δ
theorem snd_atR {cs : List Str} (hc : AtOk X.K cs) (he : SndE X te fe) : SndE X (tAtR X.K te) (fAt cs fe) := by
  intro M G0 H0 G H σ δ q δ' Q S e k
  rcases Rs.inv e with ⟨s0, δ0, e0, e⟩ | ⟨x, e0, rfl⟩
  rotate_left
  · exact he M G0 H0 G H σ δ _ _ _ S e0 k
  refine he.toV M G0 H0 G H σ δ s0 δ0 _ S e0 fun x G1 H1 S1 g1 r1 => ?_
  obtain ⟨s3, e3, rfl, rfl⟩ := lift_inv e
  unfold atD at e3
  split at e3
  · rename_i c i hd
    split at e3
    · rename_i hm
      cases e3
      rw [hd] at r1
      cases r1 with
      | exa hn h1 h2 =>
        obtain ⟨A, rfl, kx, hna⟩ := hc c hm _ hn
        exact ⟨_, _, A, i, rfl, S1.gh _ _ h1, S1.gh _ _ h2, kx, hna, k _ G1 H1 S1 g1 (.val (.int _))⟩
    · cases e3
  · cases e3
theorem de_atR {cs : List Str} (hc : AtOk X.K cs) (he : DE X e fe) (hb : attributeBase e "at" X.env (eval e X.env) = eval e X.env := by rfl) : DE X (.Attribute e "at" pos) (fAt cs fe) :=
  let ⟨_, a1, a2⟩ := he; ⟨_, pe_atR a1 hb, snd_atR hc a2⟩
end
/-! isinstance, by a table -/
noncomputable def IsTb (K : Frag) (tb : List (Str × Bool)) (Cn : Value) : Prop := ∀ c b, tblM tb c = some b → ∀ C, ExN K c C → ∃ A, C = .ref A ∧ KX K A ∧ kitOne K C Cn = some b
theorem IsTb.nil {K : Frag} {Cn : Value} : IsTb K [] Cn := fun c b h => by cases h
theorem IsTb.cons {K : Frag} {Cn : Value} {A : Addr} {l : List (Str × Bool)} {a : Str} {b : Bool} (hn : ExN K a (.ref A)) (kx : KX K A) (he : kitOne K (.ref A) Cn = some b) (h : IsTb K l Cn) : IsTb K ((a, b) :: l) Cn := fun c b' hb C' hc => by
  unfold tblM at hb
  rw [List.lookup_cons] at hb
  split at hb
  · rename_i e
    have e' : c = a := eq_of_beq e
    cases hb
    subst e'
    have := hn.symm.trans hc
    cases this
    exact ⟨A, rfl, kx, he⟩
  · exact h c b' hb C' hc
section
variable {X : Cx} {e : Expr} {te : TE} {fe : FE} {cn : Str} {p pos np : Pos} {tb : List (Str × Bool)} {w' : V} {cv : Value}
noncomputable def rIsiK (tb : List (Str × Bool)) (cv : V) (K : Frag) : List V → Hp → VK → Prop := fun xs H Q => ∃ a C c b, xs = [.ref a, cv] ∧ tblM tb c = some b ∧ ExN K c C ∧ (H a = some (.ext (XObj0 a C)) ∨ ∃ dx i, H a = some (.ext (XAObj a C dx)) ∧ H dx = some (.ext (XADict dx i))) ∧ Q (.bl b) H
theorem call_isiK (hcv : ∀ u, RelV w' u → u = cv) (h : IsTb X.K tb cv) : CallR X (.builtin "isinstance") (rIsiK tb w' X.K) := by
  intro pins s σ H xs us Q I r q
  obtain ⟨a, C, c, b, rfl, hc, hn, ha, q⟩ := q
  obtain ⟨u, w2, rfl, ru, rw'⟩ := vals2 r
  cases ru
  rw [hcv _ rw']
  obtain ⟨A, rfl, kx, hk⟩ := h c b hc C hn
  have J : ∃ ox od, InstAt s.heap a ox A od := by
    rcases ha with ha | ⟨dx, i, ha, hdx⟩
    · obtain ⟨oe, vs, he, hC, hd, hdn⟩ := (show ObjOk X.prog X.w H s.heap a (.ext (XObj0 a (.ref A))) from I.hok a _ ha).1
      obtain ⟨oc, odi, oda, osl⟩ := oe
      dsimp only at hC hd hdn
      subst hC hd hdn
      exact ⟨_, none, he, rfl, rfl, trivial⟩
    · obtain ⟨hne, o, ho, hc', ⟨vs, hv⟩, hd⟩ := (show ObjOk X.prog X.w H s.heap a (.ext (XAObj a (.ref A) dx)) from I.hok a _ ha).1
      obtain ⟨t, hns⟩ := (show ObjOk X.prog X.w H s.heap dx (.ext (XADict dx i)) from I.hok dx _ hdx).1
      obtain ⟨od, hod, hl⟩ := lookIn_ns hns
      obtain ⟨oc, odi, oda, osl⟩ := o
      dsimp only at hc' hv hd
      subst hc' hv hd
      exact ⟨_, some od, ho, rfl, rfl, hod⟩
  exact kia_one (kitx_exc kx) I.kIn J hk (fun z => nomatch z) fun tk => ⟨.bl b, H, I.tok tk, rfl, q⟩
noncomputable def isiKD (tb : List (Str × Bool)) (d : D) : Option Sl := match d with
  | .exo c => (tblM tb c).map fun b => .val (.bl b)
  | .exa c _ => (tblM tb c).map fun b => .val (.bl b)
  | _ => none
noncomputable def fIsiK (tb : List (Str × Bool)) (fe : FE) : FE := fun δ => (fe δ).bind fun p δ => lift (isiKD tb p.fz) δ
theorem snd_isiK (he : SndE X te fe) : SndE X (tCB (rIsiK tb w' X.K) (tCons te (tCons (tC w') tNil))) (fIsiK tb fe) := by
  intro M G0 H0 G H σ δ q δ' Q S e k
  rcases Rs.inv e with ⟨s0, δ0, e0, e⟩ | ⟨x, e0, rfl⟩
  rotate_left
  · exact he M G0 H0 G H σ δ _ _ _ S e0 k
  refine he.toV M G0 H0 G H σ δ s0 δ0 _ S e0 fun x G1 H1 S1 g1 r1 => ?_
  obtain ⟨s3, e3, rfl, rfl⟩ := lift_inv e
  unfold isiKD at e3
  split at e3
  · rename_i c hc
    obtain ⟨b, hb, rfl⟩ := Option.map_eq_some_iff.mp e3
    rw [hc] at r1
    cases r1 with
    | exo hn ha => exact ⟨_, _, c, b, rfl, hb, hn, .inl (S1.gh _ _ ha), k _ G1 H1 S1 g1 (.val (.bl _))⟩
  · rename_i c i hc
    obtain ⟨b, hb, rfl⟩ := Option.map_eq_some_iff.mp e3
    rw [hc] at r1
    cases r1 with
    | exa hn h1 h2 => exact ⟨_, _, c, b, rfl, hb, hn, .inr ⟨_, _, S1.gh _ _ h1, S1.gh _ _ h2⟩, k _ G1 H1 S1 g1 (.val (.bl _))⟩
  · cases e3
theorem de_isiK (h : ∃ b, ExN X.K cn (.ref b) ∧ IsTb X.K tb (.ref b)) (hgc : Gl X cn) (hg : Gl X "isinstance") (hm : X.mg "isinstance" = none) (ha : DE X e fe) (hdc : (cn == ("__debug__" : Str)) = false := by decide)
    (he : starEach (e :: [.Name cn np]) X.env = (false, eval e X.env) :: starEach [.Name cn np] X.env := by rfl) (hpl : (backTo pos (starEach [.Name cn np] X.env)).any (·.1) = false := by rfl) (h2 : starEach (.Name cn np :: []) X.env = (false, eval (.Name cn np) X.env) :: starEach [] X.env := by rfl) :
    DE X (.Call (.Name "isinstance" p) [e, .Name cn np] [] pos) (fIsiK tb fe) :=
  let ⟨b, hn, hc⟩ := h; let ⟨_, a1, a2⟩ := ha; ⟨_, pe_callB (call_isiK (w' := .ref b) (fun u r => by cases r; rfl) hc) hg hm bo_isinstance (pa_cons a1 (pa_cons (pe_cls hn hgc hdc) pa_nil h2) he) (by decide) (by decide) he hpl, snd_isiK a2⟩
theorem de_isiKT {T : String} (h : IsTb X.K tb (.type T)) (hgc : Gl X cn) (hmc : X.mg cn = none) (hv : bootBuiltins cn = some (.type T)) (hg : Gl X "isinstance") (hm : X.mg "isinstance" = none) (ha : DE X e fe) (hnn : cn ≠ "__name__" := by decide) (hdc : (cn == ("__debug__" : Str)) = false := by decide)
    (he : starEach (e :: [.Name cn np]) X.env = (false, eval e X.env) :: starEach [.Name cn np] X.env := by rfl) (hpl : (backTo pos (starEach [.Name cn np] X.env)).any (·.1) = false := by rfl) (h2 : starEach (.Name cn np :: []) X.env = (false, eval (.Name cn np) X.env) :: starEach [] X.env := by rfl) :
    DE X (.Call (.Name "isinstance" p) [e, .Name cn np] [] pos) (fIsiK tb fe) :=
  let ⟨_, a1, a2⟩ := ha; ⟨_, pe_callB (call_isiK (w' := .ty T) (fun u r => by cases r; rfl) h) hg hm bo_isinstance (pa_cons a1 (pa_cons (pe_bltn (v := .ty T) hgc hmc hv rfl hnn hdc) pa_nil h2) he) (by decide) (by decide) he hpl, snd_isiK a2⟩
end
end L4


namespace L4
open PySem PySem.Spec PyProof.Rows L2 PySem.W
abbrev psI : List Str := ["self", "text", "at"]
theorem cxa_none {P : Program} {w : World} {o : List Env} {H : Hp} {s s' : Shared} {e : Value} (h : CXA P w o H s (fun _ _ _ => False) e s') : False := let ⟨_, _, _, _, _, _, _, _, _, q⟩ := h; q
structure BFm (P : Program) (w : World) (K : Frag) (mg : Str → Option Value) (base : Heap) (c : Str) : Prop where
  ex : ∃ C S N f fd tk, ExA K C S N f ∧ ExN K c (.ref C) ∧ FnOk P w K mg base (CXA P w) 1 f fd psI (spI C) ∧ Binds K fd psI [.int 0 tk] ∧ Binds K fd psI []
section
variable {X : Cx} {c : Str} {p pos : Pos} {e e2 : Expr} {fl : FL}
theorem de_bf1 (b : BFm X.prog X.w X.K X.mg X.base c) (hr : Room 2 X.A) (hg : Gl X c) (ha : DA X [e] fl) (hdb : (c == ("__debug__" : Str)) = false := by decide) (he : starEach [e] X.env = (false, eval e X.env) :: starEach [] X.env := by rfl) (hpl : (backTo pos (starEach [] X.env)).any (·.1) = false := by rfl) :
    DE X (.Call (.Name c p) [e] [] pos) (fArgs (newA1 c) fl) :=
  let ⟨_, _, _, _, _, tk, a, hn, F, b1, _⟩ := b.ex
  de_newA (E := fun _ _ _ => False) a hn F hr hg b1 (dvs := [.int 0]) (.cons ⟨tk, rfl⟩ .nil) (fun _ _ _ _ _ _ _ z => (cxa_none z).elim) (c_newA1 hn) ha hdb he hpl
theorem de_bf2 (b : BFm X.prog X.w X.K X.mg X.base c) (hr : Room 2 X.A) (hg : Gl X c) (ha : DA X [e, e2] fl) (hdb : (c == ("__debug__" : Str)) = false := by decide) (he : starEach [e, e2] X.env = (false, eval e X.env) :: starEach [e2] X.env := by rfl) (hpl : (backTo pos (starEach [e2] X.env)).any (·.1) = false := by rfl) :
    DE X (.Call (.Name c p) [e, e2] [] pos) (fArgs (newA2 c) fl) :=
  let ⟨_, _, _, _, _, _, a, hn, F, _, b2⟩ := b.ex
  de_newA (E := fun _ _ _ => False) a hn F hr hg b2 (dvs := []) .nil (fun _ _ _ _ _ _ _ z => (cxa_none z).elim) (c_newA2 hn) ha hdb he hpl
end
theorem nsok_of {K : Frag} {N : Addr} {oc : Value} {od : Option Addr} {es : Array DictEntry} {ep : Nat} {sl : Array (Option Value)} (h : K.lookup N = some ⟨oc, od, .dict es ep, sl⟩) (h2 : (es.toList.all fun e => match e.key with | .str _ _ => true | _ => false) = true) : nsOkIn K N = true := by
  unfold nsOkIn; rw [h]; show es.all _ = true; rw [← Array.all_toList]; exact h2
theorem two_of {us : List Value} {d : Value} (h : (us ++ [d]).length = 3) : ∃ a b, us = [a, b] := by
  rw [List.length_append] at h
  have h2 : us.length = 2 := by simpa using h
  cases us with
  | nil => cases h2
  | cons a r => cases r with
    | nil => cases h2
    | cons b r => cases r with
      | nil => exact ⟨a, b, rfl⟩
      | cons c r => simp at h2
theorem three_of {us : List Value} (h : (us ++ []).length = 3) : ∃ a b c, us = [a, b, c] := by
  rw [List.append_nil] at h
  cases us with
  | nil => cases h
  | cons a r => cases r with
    | nil => cases h
    | cons b r => cases r with
      | nil => cases h
      | cons c r => cases r with
        | nil => exact ⟨a, b, c, rfl⟩
        | cons d r => simp at h
noncomputable def inner (s : Stmt) (j : Nat) : Stmt := match s with
  | .ClassDef _ _ _ body _ _ _ _ _ _ _ => body.getD j s
  | _ => s
end L4


namespace Toy
open PySem L4
noncomputable def ecls : List Str := ["SlateError", "BadPlace", "BadFormula", "TooGreat", "NoRing", "BadSize", "Outside", "BadSpan", "BadRow"]
noncomputable def t_BadFormula : List (Str × Bool) := [("BadPlace", false), ("BadFormula", true), ("TooGreat", false), ("NoRing", false), ("BadSize", false), ("Outside", false), ("BadSpan", false), ("BadRow", false)]
noncomputable def t_BadPlace : List (Str × Bool) := [("BadPlace", true), ("BadFormula", false), ("TooGreat", false), ("NoRing", false), ("BadSize", false), ("Outside", false), ("BadSpan", false), ("BadRow", false)]
noncomputable def t_BadRow : List (Str × Bool) := [("BadPlace", false), ("BadFormula", false), ("TooGreat", false), ("NoRing", false), ("BadSize", false), ("Outside", false), ("BadSpan", false), ("BadRow", true)]
noncomputable def t_BadSize : List (Str × Bool) := [("BadPlace", false), ("BadFormula", false), ("TooGreat", false), ("NoRing", false), ("BadSize", true), ("Outside", false), ("BadSpan", false), ("BadRow", false)]
noncomputable def t_BadSpan : List (Str × Bool) := [("BadPlace", false), ("BadFormula", false), ("TooGreat", false), ("NoRing", false), ("BadSize", false), ("Outside", false), ("BadSpan", true), ("BadRow", false)]
noncomputable def t_NoRing : List (Str × Bool) := [("BadPlace", false), ("BadFormula", false), ("TooGreat", false), ("NoRing", true), ("BadSize", false), ("Outside", false), ("BadSpan", false), ("BadRow", false)]
noncomputable def t_Outside : List (Str × Bool) := [("BadPlace", false), ("BadFormula", false), ("TooGreat", false), ("NoRing", false), ("BadSize", false), ("Outside", true), ("BadSpan", false), ("BadRow", false)]
noncomputable def t_SlateError : List (Str × Bool) := [("BadPlace", true), ("BadFormula", true), ("TooGreat", true), ("NoRing", true), ("BadSize", true), ("Outside", true), ("BadSpan", true), ("BadRow", true)]
noncomputable def t_TooGreat : List (Str × Bool) := [("BadPlace", false), ("BadFormula", false), ("TooGreat", true), ("NoRing", false), ("BadSize", false), ("Outside", false), ("BadSpan", false), ("BadRow", false)]
noncomputable def t_ValueError : List (Str × Bool) := [("BadPlace", true), ("BadFormula", true), ("TooGreat", true), ("NoRing", true), ("BadSize", true), ("Outside", true), ("BadSpan", true), ("BadRow", true)]
/-- _law_cell_at(_law_script, _law_k): slots 0 _law_script, 1 _law_k -/
noncomputable def f_q_cell_at : FS := (fSeq (fIf (fTb (fOp ltD (fVar 1) (fArgs (g1 lenD) (fCons (fVar 0) fNil)))) (fRet (fOp ixD (fVar 0) (fVar 1))) fNext)
    (fRet (fC (.int 0))))
noncomputable def r_q_cell_at : Fn := runD 2 2 [] f_q_cell_at
/-- _law_made(_law_kind, _law_words): slots 0 _law_kind, 1 _law_words -/
noncomputable def f_q_made_7 : FS := (fRet (fArgs (newX1 "BadRow") (fCons (fVar 1) fNil)))
noncomputable def f_q_made_6 : FS := (fSeq (fIf (fTb (fOp (eqOp false) (fVar 0) (fC (.int 6)))) (fRet (fArgs (newX1 "BadSpan") (fCons (fVar 1) fNil))) fNext)
    f_q_made_7)
noncomputable def f_q_made_5 : FS := (fSeq (fIf (fTb (fOp (eqOp false) (fVar 0) (fC (.int 5)))) (fRet (fArgs (newX1 "Outside") (fCons (fVar 1) fNil))) fNext)
    f_q_made_6)
noncomputable def f_q_made_4 : FS := (fSeq (fIf (fTb (fOp (eqOp false) (fVar 0) (fC (.int 4)))) (fRet (fArgs (newX1 "BadSize") (fCons (fVar 1) fNil))) fNext)
    f_q_made_5)
noncomputable def f_q_made_3 : FS := (fSeq (fIf (fTb (fOp (eqOp false) (fVar 0) (fC (.int 3)))) (fRet (fArgs (newX1 "NoRing") (fCons (fVar 1) fNil))) fNext)
    f_q_made_4)
noncomputable def f_q_made_2 : FS := (fSeq (fIf (fTb (fOp (eqOp false) (fVar 0) (fC (.int 2)))) (fRet (fArgs (newX1 "TooGreat") (fCons (fVar 1) fNil))) fNext)
    f_q_made_3)
noncomputable def f_q_made_1 : FS := (fSeq (fIf (fTb (fOp (eqOp false) (fVar 0) (fC (.int 1)))) (fRet (fArgs (newA1 "BadFormula") (fCons (fVar 1) fNil))) fNext)
    f_q_made_2)
noncomputable def f_q_made : FS := (fSeq (fIf (fTb (fOp (eqOp false) (fVar 0) (fC (.int 0)))) (fRet (fArgs (newX1 "BadPlace") (fCons (fVar 1) fNil))) fNext)
    f_q_made_1)
noncomputable def r_q_made : Fn := runD 2 2 [] f_q_made
/-- _law_whole(_law_found): slots 0 _law_found -/
noncomputable def f_q_whole : FS := (fRet (fAndV (fArgs (g2 isiD) (fCons (fVar 0) (fCons (fC (.ty "int")) fNil))) (fNotV (fArgs (g2 isiD) (fCons (fVar 0) (fCons (fC (.ty "bool")) fNil))))))
noncomputable def r_q_whole : Fn := runD 1 1 [] f_q_whole
/-- _law_kinds(_law_error): slots 0 _law_error, 1 _law_found -/
noncomputable def f_q_kinds : FS := (fSeq (fAsg 1 (fArgs gLstD (fCons (fIsiK t_BadPlace (fVar 0)) (fCons (fIsiK t_BadFormula (fVar 0)) (fCons (fIsiK t_TooGreat (fVar 0)) fNil)))))
    (fSeq (fAsg 1 (fOp addD (fVar 1) (fArgs gLstD (fCons (fIsiK t_NoRing (fVar 0)) (fCons (fIsiK t_BadSize (fVar 0)) (fCons (fIsiK t_Outside (fVar 0)) fNil))))))
    (fRet (fOp addD (fVar 1) (fArgs gLstD (fCons (fIsiK t_BadSpan (fVar 0)) (fCons (fIsiK t_BadRow (fVar 0)) fNil)))))))
noncomputable def r_q_kinds : Fn := runD 2 1 [] f_q_kinds
/-- law(_law_script): slots 0 _law_script, 1 _law_kind, 2 _law_words, 3 _law_error, 4 _law_number, 5 _law_stood_at -/
noncomputable def el_law_1 : FE := (fOp (eqOp false) (fVar 0) (fVar 2))
noncomputable def f_law_8 : FS := (fRet (fOp (eqOp false) (fCall r_q_kinds (fCons (fVar 3) fNil)) (fComp (fRng1 (fCons (fC (.int 8)) fNil)) none el_law_1)))
noncomputable def f_law_7 : FS := (fSeq (fIf (fOrT (fNotT (fTr (fIsiK t_SlateError (fVar 5)))) (fOrT (fNotT (fTr (fCall r_q_whole (fCons (fAt ["BadFormula"] (fVar 5)) fNil)))) (fTb (fOp (eqOp true) (fAt ["BadFormula"] (fVar 5)) (fVar 4))))) (fRet (fC (.bl false))) fNext)
    f_law_8)
noncomputable def f_law_6 : FS := (fSeq (fAsg 5 (fArgs (newA2 "BadFormula") (fCons (fVar 2) (fCons (fVar 4) fNil))))
    f_law_7)
noncomputable def f_law_5 : FS := (fSeq (fAsg 4 (fOp modD (fCall r_q_cell_at (fCons (fVar 0) (fCons (fC (.int 2)) fNil))) (fOp powD (fC (.int 10)) (fC (.int 9)))))
    f_law_6)
noncomputable def f_law_4 : FS := (fSeq (fIf (fAndT (fTb (fOp (eqOp false) (fVar 1) (fC (.int 1)))) (fNotT (fAndT (fTr (fCall r_q_whole (fCons (fAt ["BadFormula"] (fVar 3)) fNil))) (fTb (fOp (eqOp false) (fAt ["BadFormula"] (fVar 3)) (fC (.int 0))))))) (fRet (fC (.bl false))) fNext)
    f_law_5)
noncomputable def f_law_3 : FS := (fSeq (fIf (fOrT (fNotT (fTr (fIsiK t_SlateError (fVar 3)))) (fNotT (fTr (fIsiK t_ValueError (fVar 3))))) (fRet (fC (.bl false))) fNext)
    f_law_4)
noncomputable def f_law_2 : FS := (fSeq (fAsg 3 (fCall r_q_made (fCons (fVar 1) (fCons (fVar 2) fNil))))
    f_law_3)
noncomputable def f_law_1 : FS := (fSeq (fAsg 2 (fSl slSD (fC (.str "abcdefgh")) fNoP (fPart (fOp modD (fCall r_q_cell_at (fCons (fVar 0) (fCons (fC (.int 1)) fNil))) (fC (.int 9))))))
    f_law_2)
noncomputable def f_law : FS := (fSeq (fAsg 1 (fOp modD (fCall r_q_cell_at (fCons (fVar 0) (fCons (fC (.int 0)) fNil))) (fC (.int 8))))
    f_law_1)
noncomputable def r_law : Fn := runD 6 1 [] f_law
end Toy

set_option maxHeartbeats 4000000

namespace Toy
open PySem L2 L4
abbrev sv (d : D) : Option Sl := some (.val d)
noncomputable def fin : Option Out → Option (Except XD Sl × List D)
  | some (.ret s _) => some (.ok s, [])
  | some (.next _) => some (.ok (.val .non), [])
  | some (.ex x _) => some (.error x, [])
  | _ => none
theorem fin_ret (s : Sl) (δ : DEnv) : fin (some (.ret s δ)) = some (.ok s, []) := rfl
theorem fin_next (δ : DEnv) : fin (some (.next δ)) = some (.ok (.val .non), []) := rfl
theorem runE {n m : Nat} {f : FS} {ds : List D} {r : Option (Except XD Sl × List D)} (h : ds.length = m) (e : fin (f (startD n [] ds)) = r) : runD n m [] f ds = r := by
  rw [← e]; unfold runD; rw [if_pos h]
  match f (startD n [] ds) with
  | none => rfl
  | some (.ret s δ) => rfl
  | some (.next δ) => rfl
  | some (.ex x δ) => rfl
  | some (.brk δ) => rfl
  | some (.cont δ) => rfl
theorem eqOp_ii (i j : Int) : eqOp false (.int i) (.int j) = some (.val (.bl (decide (i = j)))) := eqOp_int false i j
theorem eqOp_nii (i j : Int) : eqOp true (.int i) (.int j) = some (.val (.bl (!decide (i = j)))) := eqOp_int true i j
theorem isN_non : isND false .non .non = some (.val (.bl true)) := rfl
theorem isN_int (i : Int) : isND false (.int i) .non = some (.val (.bl false)) := rfl
theorem isN_str (i : Str) : isND false (.str i) .non = some (.val (.bl false)) := rfl
theorem isN_tup (i : List D) : isND false (.tup i) .non = some (.val (.bl false)) := rfl
theorem notN_non : isND true .non .non = some (.val (.bl false)) := rfl
theorem notN_int (i : Int) : isND true (.int i) .non = some (.val (.bl true)) := rfl
theorem notN_str (i : Str) : isND true (.str i) .non = some (.val (.bl true)) := rfl
theorem notN_tup (i : List D) : isND true (.tup i) .non = some (.val (.bl true)) := rfl
theorem isi_str (z : Str) : isiD (.str z) (.ty "str") = some (.val (.bl true)) := rfl
theorem isi_str_int (z : Str) : isiD (.str z) (.ty "int") = some (.val (.bl false)) := rfl
theorem isi_int_str (z : Int) : isiD (.int z) (.ty "str") = some (.val (.bl false)) := rfl
theorem maxD_ii (i j : Int) : maxD (.int i) (.int j) = some (.val (.int (max i j))) := by
  rw [maxD_int]; congr 3; rw [Int.max_def]; split <;> split <;> omega
theorem minD_ii (i j : Int) : minD (.int i) (.int j) = some (.val (.int (min i j))) := by
  rw [minD_int]; congr 3; rw [Int.min_def]; split <;> split <;> omega
theorem gTup1 (a : D) : gTupD [a] = some (.val (.tup [a])) := by unfold gTupD; rw [if_pos (by show 1 ≤ sizeLine; decide)]
theorem gTup3 (a b c : D) : gTupD [a, b, c] = some (.val (.tup [a, b, c])) := by unfold gTupD; rw [if_pos (by show 3 ≤ sizeLine; decide)]
theorem gTup4 (a b c d : D) : gTupD [a, b, c, d] = some (.val (.tup [a, b, c, d])) := by unfold gTupD; rw [if_pos (by show 4 ≤ sizeLine; decide)]
theorem gLst_of (ds : List D) (h : ds.length ≤ 100) : gLstD ds = some (.own (.lst ds)) := by
  unfold gLstD; rw [if_pos (by rw [sizeLine_is]; omega)]
theorem ix2_tup (a b c : D) (r : List D) : ixD (.tup (a :: b :: c :: r)) (.int 2) = some (.val c) := by
  show (atI (a :: b :: c :: r) 2).map Sl.val = _
  rw [show (atI (a :: b :: c :: r) (2 : Int)) = some c from by rw [atI_of (by decide) (by simp only [List.length_cons]; omega)]; rfl]
  rfl
theorem ix3_tup (a b c d : D) (r : List D) : ixD (.tup (a :: b :: c :: d :: r)) (.int 3) = some (.val d) := by
  show (atI (a :: b :: c :: d :: r) 3).map Sl.val = _
  rw [show (atI (a :: b :: c :: d :: r) (3 : Int)) = some d from by rw [atI_of (by decide) (by simp only [List.length_cons]; omega)]; rfl]
  rfl
theorem g1E (g : D → Option Sl) (d : D) : g1 g [d] = g d := rfl
theorem g2E (g : D → D → Option Sl) (a b : D) : g2 g [a, b] = g a b := rfl
/-! one step at a time -/
noncomputable def seqK (o : Option Out) (b : FS) : Option Out := o.bind fun o => match o with | .next δ' => b δ' | o => some o
theorem e_seq (a b : FS) (δ : DEnv) : fSeq a b δ = seqK (a δ) b := rfl
theorem k_seq1 (b : FS) (δ : DEnv) : seqK (some (.next δ)) b = b δ := rfl
theorem k_seq2 (b : FS) (s : Sl) (δ : DEnv) : seqK (some (.ret s δ)) b = some (.ret s δ) := rfl
theorem k_seq3 (b : FS) (x : XD) (δ : DEnv) : seqK (some (.ex x δ)) b = some (.ex x δ) := rfl
theorem k_seq4 (b : FS) (δ : DEnv) : seqK (some (.brk δ)) b = some (.brk δ) := rfl
theorem k_seq5 (b : FS) (δ : DEnv) : seqK (some (.cont δ)) b = some (.cont δ) := rfl
noncomputable def ifK (o : Rs Bool) (a b : FS) : Option Out := thenS o fun p δ => if p then a δ else b δ
theorem e_if (c : FT) (a b : FS) (δ : DEnv) : fIf c a b δ = ifK (c δ) a b := rfl
theorem k_if1 (a b : FS) (δ : DEnv) : ifK (some (.ok true, δ)) a b = a δ := rfl
theorem k_if2 (a b : FS) (δ : DEnv) : ifK (some (.ok false, δ)) a b = b δ := rfl
theorem k_if3 (a b : FS) (x : XD) (δ : DEnv) : ifK (some (.error x, δ)) a b = some (.ex x δ) := rfl
noncomputable def asgK (i : Nat) (o : Rs Sl) : Option Out := thenS o fun p δ => some (.next (δ.set i (some p)))
theorem e_asg (i : Nat) (f : FE) (δ : DEnv) : fAsg i f δ = asgK i (f δ) := rfl
theorem k_asg (i : Nat) (p : Sl) (δ : DEnv) : asgK i (some (.ok p, δ)) = some (.next (δ.set i (some p))) := rfl
theorem k_asgx (i : Nat) (x : XD) (δ : DEnv) : asgK i (some (.error x, δ)) = some (.ex x δ) := rfl
noncomputable def dropK (o : Rs Sl) : Option Out := thenS o fun _ δ => some (.next δ)
theorem e_drop (f : FE) (δ : DEnv) : fDrop f δ = dropK (f δ) := rfl
theorem k_drop (p : Sl) (δ : DEnv) : dropK (some (.ok p, δ)) = some (.next δ) := rfl
noncomputable def retK (o : Rs Sl) : Option Out := thenS o fun p δ => some (.ret p δ)
theorem e_ret (f : FE) (δ : DEnv) : fRet f δ = retK (f δ) := rfl
theorem k_ret (p : Sl) (δ : DEnv) : retK (some (.ok p, δ)) = some (.ret p δ) := rfl
theorem k_retx (x : XD) (δ : DEnv) : retK (some (.error x, δ)) = some (.ex x δ) := rfl
theorem e_retN (δ : DEnv) : fRetN δ = some (.ret (.val .non) δ) := rfl
theorem e_next (δ : DEnv) : fNext δ = some (.next δ) := rfl
theorem e_brk (δ : DEnv) : fBrk δ = some (.brk δ) := rfl
noncomputable def retvK (i : Nat) (δ : DEnv) (o : Option (Option Sl)) : Option Out := match o with | some (some (.val d)) => some (.ret (.val d) δ) | some (some (.own d)) => some (.ret (.own d) (δ.set i none)) | _ => none
theorem e_retv (i : Nat) (δ : DEnv) : fRetV i δ = retvK i δ (δ[i]?) := rfl
theorem k_retv1 (i : Nat) (δ : DEnv) (d : D) : retvK i δ (some (some (.val d))) = some (.ret (.val d) δ) := rfl
theorem k_retv2 (i : Nat) (δ : DEnv) (d : D) : retvK i δ (some (some (.own d))) = some (.ret (.own d) (δ.set i none)) := rfl
noncomputable def varK (i : Nat) (δ : DEnv) (o : Option (Option Sl)) : Rs Sl := match o with | some (some (.val d)) => some (.ok (.val d), δ) | some (some (.own d)) => some (.ok (.val d), δ.set i (some (.val d))) | _ => none
theorem e_var (i : Nat) (δ : DEnv) : fVar i δ = varK i δ (δ[i]?) := rfl
theorem k_var1 (i : Nat) (δ : DEnv) (d : D) : varK i δ (some (some (.val d))) = some (.ok (.val d), δ) := rfl
theorem k_var2 (i : Nat) (δ : DEnv) (d : D) : varK i δ (some (some (.own d))) = some (.ok (.val d), δ.set i (some (.val d))) := rfl
theorem e_c (d : D) (δ : DEnv) : fC d δ = some (.ok (.val d), δ) := rfl
noncomputable def opK (g : D → D → Option Sl) (o : Rs Sl) (f2 : FE) : Rs Sl := o.bind fun p δ => (f2 δ).bind fun q δ => lift (g p.fz q.fz) δ
noncomputable def opK2 (g : D → D → Option Sl) (p : D) (o : Rs Sl) : Rs Sl := o.bind fun q δ => lift (g p q.fz) δ
noncomputable def liK (δ : DEnv) (o : Option Sl) : Rs Sl := lift o δ
theorem e_op (g : D → D → Option Sl) (f1 f2 : FE) (δ : DEnv) : fOp g f1 f2 δ = opK g (f1 δ) f2 := rfl
theorem k_op1 (g : D → D → Option Sl) (f2 : FE) (p : Sl) (δ : DEnv) : opK g (some (.ok p, δ)) f2 = opK2 g p.fz (f2 δ) := rfl
theorem k_op2 (g : D → D → Option Sl) (p : D) (q : Sl) (δ : DEnv) : opK2 g p (some (.ok q, δ)) = liK δ (g p q.fz) := rfl
theorem k_li (δ : DEnv) (s : Sl) : liK δ (some s) = some (.ok s, δ) := rfl
noncomputable def unK (g : D → Option Sl) (o : Rs Sl) : Rs Sl := o.bind fun p δ => lift (g p.fz) δ
theorem e_un (g : D → Option Sl) (f : FE) (δ : DEnv) : fUn g f δ = unK g (f δ) := rfl
theorem k_un (g : D → Option Sl) (p : Sl) (δ : DEnv) : unK g (some (.ok p, δ)) = liK δ (g p.fz) := rfl
noncomputable def argK (g : List D → Option Sl) (o : Rs (List D)) : Rs Sl := o.bind fun p δ => lift (g p) δ
theorem e_arg (g : List D → Option Sl) (r : FL) (δ : DEnv) : fArgs g r δ = argK g (r δ) := rfl
theorem k_arg (g : List D → Option Sl) (p : List D) (δ : DEnv) : argK g (some (.ok p, δ)) = liK δ (g p) := rfl
theorem e_nil (δ : DEnv) : fNil δ = some (.ok [], δ) := rfl
noncomputable def consK (o : Rs Sl) (r : FL) : Rs (List D) := o.bind fun p δ => (r δ).bind fun q δ => some (.ok (p.fz :: q), δ)
noncomputable def consK2 (d : D) (o : Rs (List D)) : Rs (List D) := o.bind fun q δ => some (.ok (d :: q), δ)
theorem e_cons (f : FE) (r : FL) (δ : DEnv) : fCons f r δ = consK (f δ) r := rfl
theorem k_cons1 (r : FL) (p : Sl) (δ : DEnv) : consK (some (.ok p, δ)) r = consK2 p.fz (r δ) := rfl
theorem k_cons2 (d : D) (q : List D) (δ : DEnv) : consK2 d (some (.ok q, δ)) = some (.ok (d :: q), δ) := rfl
noncomputable def callK (F : Fn) (o : Rs (List D)) : Rs Sl := o.bind fun ds δ => match F ds with | some (q, []) => some (q, δ) | _ => none
noncomputable def callK2 (δ : DEnv) (o : Option (Except XD Sl × List D)) : Rs Sl := match o with | some (q, []) => some (q, δ) | _ => none
theorem e_call (F : Fn) (r : FL) (δ : DEnv) : fCall F r δ = callK F (r δ) := rfl
theorem k_call (F : Fn) (ds : List D) (δ : DEnv) : callK F (some (.ok ds, δ)) = callK2 δ (F ds) := rfl
theorem k_call2 (δ : DEnv) (q : Except XD Sl) : callK2 δ (some (q, [])) = some (q, δ) := rfl
noncomputable def tbK (o : Rs Sl) : Rs Bool := o.bind fun p δ => lift (blOf p.fz) δ
theorem e_tb (f : FE) (δ : DEnv) : fTb f δ = tbK (f δ) := rfl
theorem k_tb (b : Bool) (δ : DEnv) : tbK (some (.ok (.val (.bl b)), δ)) = some (.ok b, δ) := rfl
noncomputable def trK (o : Rs Sl) : Rs Bool := o.bind fun p δ => lift (truD p.fz) δ
theorem e_tr (f : FE) (δ : DEnv) : fTr f δ = trK (f δ) := rfl
theorem k_tr (b : Bool) (δ : DEnv) : trK (some (.ok (.val (.bl b)), δ)) = some (.ok b, δ) := rfl
theorem k_tr2 (i : Int) (δ : DEnv) : trK (some (.ok (.val (.int i)), δ)) = some (.ok (decide (i ≠ 0)), δ) := rfl
theorem k_tr3 (ds : List D) (δ : DEnv) : trK (some (.ok (.val (.lst ds)), δ)) = some (.ok (!ds.isEmpty), δ) := rfl
noncomputable def notK (o : Rs Bool) : Rs Bool := o.bind fun p δ => some (.ok (!p), δ)
theorem e_not (f : FT) (δ : DEnv) : fNotT f δ = notK (f δ) := rfl
theorem k_not (b : Bool) (δ : DEnv) : notK (some (.ok b, δ)) = some (.ok (!b), δ) := rfl
noncomputable def andK (o : Rs Bool) (b : FT) : Rs Bool := o.bind fun p δ => if p then b δ else some (.ok false, δ)
theorem e_and (a b : FT) (δ : DEnv) : fAndT a b δ = andK (a δ) b := rfl
theorem k_and1 (b : FT) (δ : DEnv) : andK (some (.ok true, δ)) b = b δ := rfl
theorem k_and2 (b : FT) (δ : DEnv) : andK (some (.ok false, δ)) b = some (.ok false, δ) := rfl
noncomputable def orK (o : Rs Bool) (b : FT) : Rs Bool := o.bind fun p δ => if p then some (.ok true, δ) else b δ
theorem e_or (a b : FT) (δ : DEnv) : fOrT a b δ = orK (a δ) b := rfl
theorem k_or1 (b : FT) (δ : DEnv) : orK (some (.ok true, δ)) b = some (.ok true, δ) := rfl
theorem k_or2 (b : FT) (δ : DEnv) : orK (some (.ok false, δ)) b = b δ := rfl
noncomputable def andvK (o : Rs Sl) (b : FE) : Rs Sl := o.bind fun p δ => match blOf p.fz with | some true => b δ | some false => some (.ok (.val (.bl false)), δ) | none => none
theorem e_andv (a b : FE) (δ : DEnv) : fAndV a b δ = andvK (a δ) b := rfl
theorem k_andv1 (b : FE) (δ : DEnv) : andvK (some (.ok (.val (.bl true)), δ)) b = b δ := rfl
theorem k_andv2 (b : FE) (δ : DEnv) : andvK (some (.ok (.val (.bl false)), δ)) b = some (.ok (.val (.bl false)), δ) := rfl
noncomputable def orvK (o : Rs Sl) (b : FE) : Rs Sl := o.bind fun p δ => match blOf p.fz with | some false => b δ | some true => some (.ok (.val (.bl true)), δ) | none => none
theorem e_orv (a b : FE) (δ : DEnv) : fOrV a b δ = orvK (a δ) b := rfl
theorem k_orv1 (b : FE) (δ : DEnv) : orvK (some (.ok (.val (.bl true)), δ)) b = some (.ok (.val (.bl true)), δ) := rfl
theorem k_orv2 (b : FE) (δ : DEnv) : orvK (some (.ok (.val (.bl false)), δ)) b = b δ := rfl
noncomputable def notvK (o : Rs Sl) : Rs Sl := o.bind fun p δ => lift ((blOf p.fz).map fun k => .val (.bl (!k))) δ
theorem e_notv (a : FE) (δ : DEnv) : fNotV a δ = notvK (a δ) := rfl
theorem k_notv (b : Bool) (δ : DEnv) : notvK (some (.ok (.val (.bl b)), δ)) = some (.ok (.val (.bl (!b))), δ) := rfl
noncomputable def ifeK (o : Rs Bool) (a b : FE) : Rs Sl := o.bind fun p δ => if p then a δ else b δ
theorem e_ife (c : FT) (a b : FE) (δ : DEnv) : fIfE c a b δ = ifeK (c δ) a b := rfl
theorem k_ife1 (a b : FE) (δ : DEnv) : ifeK (some (.ok true, δ)) a b = a δ := rfl
theorem k_ife2 (a b : FE) (δ : DEnv) : ifeK (some (.ok false, δ)) a b = b δ := rfl
noncomputable def forK (i : Nat) (F : FS) (o : Rs (List D)) : Option Out := thenS o fun ds δ => forD i F ds δ
theorem e_for (src : FL) (i : Nat) (F : FS) (δ : DEnv) : fFor src i F δ = forK i F (src δ) := rfl
theorem k_for (i : Nat) (F : FS) (ds : List D) (δ : DEnv) : forK i F (some (.ok ds, δ)) = forD i F ds δ := rfl
noncomputable def itK (o : Rs Sl) : Rs (List D) := o.bind fun p δ => lift (itemsD p.fz) δ
theorem e_it (f : FE) (δ : DEnv) : fItA f δ = itK (f δ) := rfl
theorem k_itl (ds : List D) (δ : DEnv) : itK (some (.ok (.val (.lst ds)), δ)) = some (.ok ds, δ) := rfl
theorem k_ito (ds : List D) (δ : DEnv) : itK (some (.ok (.own (.lst ds)), δ)) = some (.ok ds, δ) := rfl
theorem k_itt (ds : List D) (δ : DEnv) : itK (some (.ok (.val (.tup ds)), δ)) = some (.ok ds, δ) := rfl
theorem d_get0 (a : Option Sl) (l : DEnv) : (a :: l)[0]? = some a := rfl
theorem d_getS (a : Option Sl) (l : DEnv) (i : Nat) : (a :: l)[i + 1]? = l[i]? := rfl
theorem d_set0 (a b : Option Sl) (l : DEnv) : (a :: l).set 0 b = b :: l := rfl
theorem d_setS (a b : Option Sl) (l : DEnv) (i : Nat) : (a :: l).set (i + 1) b = a :: l.set i b := rfl
noncomputable def evA := And.intro @fin_ret <| And.intro @fin_next <| And.intro @e_seq <| And.intro @k_seq1 <| And.intro @k_seq2 <| And.intro @k_seq3 <| And.intro @k_seq4 <| And.intro @k_seq5 <| And.intro @e_if <| And.intro @k_if1 <| And.intro @k_if2 <| And.intro @k_if3 <| And.intro @e_asg <| And.intro @k_asg <| And.intro @k_asgx <| And.intro @e_drop <| And.intro @k_drop <| And.intro @e_ret <| And.intro @k_ret <| And.intro @k_retx <| And.intro @e_retN <| And.intro @e_next <| And.intro @e_brk <| And.intro @e_retv <| And.intro @k_retv1 <| And.intro @k_retv2 <| And.intro @e_var <| And.intro @k_var1 <| And.intro @k_var2 <| And.intro @e_c <| And.intro @e_op <| And.intro @k_op1 <| And.intro @k_op2 <| And.intro @k_li <| And.intro @e_un <| And.intro @k_un <| And.intro @e_arg <| And.intro @k_arg <| And.intro @e_nil <| And.intro @e_cons <| And.intro @k_cons1 <| And.intro @k_cons2 <| And.intro @e_call <| And.intro @k_call <| And.intro @k_call2 <| And.intro @e_tb <| And.intro @k_tb <| And.intro @e_tr <| And.intro @k_tr <| And.intro @k_tr2 <| And.intro @k_tr3 <| And.intro @e_not <| And.intro @k_not <| And.intro @e_and <| And.intro @k_and1 <| And.intro @k_and2 <| And.intro @e_or <| And.intro @k_or1 <| And.intro @k_or2 <| And.intro @e_andv <| And.intro @k_andv1 <| And.intro @k_andv2 <| And.intro @e_orv <| And.intro @k_orv1 <| And.intro @k_orv2 <| And.intro @e_notv <| And.intro @k_notv <| And.intro @e_ife <| And.intro @k_ife1 <| And.intro @k_ife2 <| And.intro @e_for <| And.intro @k_for <| And.intro @e_it <| And.intro @k_itl <| And.intro @k_ito <| And.intro @k_itt <| And.intro @d_get0 <| And.intro @d_getS <| And.intro @d_set0 <| And.intro @d_setS <| And.intro @fz_val <| And.intro @fz_own <| And.intro @fz_lnt <| And.intro @addD_int <| And.intro @subD_int <| And.intro @modD_int <| And.intro @fdivD_int <| And.intro @ltD_int <| And.intro @leD_int <| And.intro @gtD_int <| And.intro @geD_int <| And.intro @negD_int <| And.intro @maxD_ii <| And.intro @minD_ii <| And.intro @eqOp_ii <| And.intro @eqOp_nii <| And.intro @ix0_tup <| And.intro @ix1_tup <| And.intro @ix2_tup <| And.intro @ix3_tup <| And.intro @isi_tup <| And.intro @isi_lst <| And.intro @isi_int <| And.intro @isi_int_bool <| And.intro @isi_bl <| And.intro @isi_str <| And.intro @isi_str_int <| And.intro @isi_int_str <| And.intro @gTup1 <| And.intro @gTup2 <| And.intro @gTup3 <| And.intro @gTup4 <| And.intro @g1E <| And.intro @g2E <| And.intro @isN_non <| And.intro @isN_int <| And.intro @isN_str <| And.intro @isN_tup <| And.intro @notN_non <| And.intro @notN_int <| And.intro @notN_str <| And.intro @notN_tup <| And.intro @decide_eq_true <| And.intro @decide_eq_false <| And.intro @decide_true <| And.intro @decide_false <| And.intro @Bool.not_true <| And.intro @Bool.not_false <| @mulD_int
end Toy
namespace Toy
open PySem L2 L4
noncomputable def pureTK (δ : DEnv) (o : Rs Bool) : Rs Bool := match o with
  | some (.ok s, _) => some (.ok s, δ)
  | some (.error x, _) => if noLsts (x.fs.map (·.2)) = true then some (.error x, δ) else none
  | none => none
theorem e_pureT (c : FT) (δ : DEnv) : fPureT c δ = pureTK δ (c (frzE δ)) := rfl
theorem k_pureT (δ δ' : DEnv) (b : Bool) : pureTK δ (some (.ok b, δ')) = some (.ok b, δ) := rfl
noncomputable def pureK (f : FE) (δ : DEnv) (o : Rs Sl) : Rs Sl := match o with
  | some (.ok s, _) => if s.flat = true then some (.ok s, δ) else f δ
  | some (.error x, _) => if noLsts (x.fs.map (·.2)) = true then some (.error x, δ) else none
  | none => none
theorem e_pure (f : FE) (δ : DEnv) : fPure f δ = pureK f δ (f (frzE δ)) := rfl
theorem k_pureV (f : FE) (δ δ' : DEnv) (d : D) (h : noLst d = true) : pureK f δ (some (.ok (.val d), δ')) = some (.ok (.val d), δ) := by
  show (if noLst d = true then _ else _) = _
  rw [if_pos h]
theorem k_pureI (f : FE) (δ δ' : DEnv) (i : Int) : pureK f δ (some (.ok (.val (.int i)), δ')) = some (.ok (.val (.int i)), δ) := k_pureV f δ δ' _ (by simp [noLst])
theorem k_pureB (f : FE) (δ δ' : DEnv) (i : Bool) : pureK f δ (some (.ok (.val (.bl i)), δ')) = some (.ok (.val (.bl i)), δ) := k_pureV f δ δ' _ (by simp [noLst])
theorem k_pureS (f : FE) (δ δ' : DEnv) (i : Str) : pureK f δ (some (.ok (.val (.str i)), δ')) = some (.ok (.val (.str i)), δ) := k_pureV f δ δ' _ (by simp [noLst])
theorem k_pureN (f : FE) (δ δ' : DEnv) : pureK f δ (some (.ok (.val .non), δ')) = some (.ok (.val .non), δ) := k_pureV f δ δ' _ (by simp [noLst])
theorem frz0 : frzE [] = [] := rfl
theorem frzC (o : Option Sl) (l : DEnv) : frzE (o :: l) = frzS o :: frzE l := rfl
theorem frzSn : frzS none = none := rfl
theorem frzSv (d : D) : frzS (some (.val d)) = some (.val d) := rfl
theorem frzSo (d : D) : frzS (some (.own d)) = some (.val d) := rfl
theorem frzSl (d : D) : frzS (some (.lnt d)) = some (.val d) := rfl
noncomputable def forCK (i : Nat) (F : FS) (ds : List D) (o : Option Out) : Option Out := o.bind fun o => match o with
    | .next δ' => forD i F ds δ'
    | .cont δ' => forD i F ds δ'
    | .brk δ' => some (.next δ')
    | .ret s δ' => some (.ret s δ')
    | .ex x δ' => some (.ex x δ')
theorem e_forN (i : Nat) (F : FS) (δ : DEnv) : forD i F [] δ = some (.next δ) := rfl
theorem e_forC (i : Nat) (F : FS) (d : D) (ds : List D) (δ : DEnv) : forD i F (d :: ds) δ = forCK i F ds (F (δ.set i (some (.val d)))) := by rw [forD]; rfl
theorem k_forC1 (i : Nat) (F : FS) (ds : List D) (δ : DEnv) : forCK i F ds (some (.next δ)) = forD i F ds δ := rfl
theorem k_forC2 (i : Nat) (F : FS) (ds : List D) (δ : DEnv) : forCK i F ds (some (.cont δ)) = forD i F ds δ := rfl
theorem k_forC3 (i : Nat) (F : FS) (ds : List D) (δ : DEnv) : forCK i F ds (some (.brk δ)) = some (.next δ) := rfl
theorem k_forC4 (i : Nat) (F : FS) (ds : List D) (s : Sl) (δ : DEnv) : forCK i F ds (some (.ret s δ)) = some (.ret s δ) := rfl
noncomputable def rngK (o : Rs (List D)) : Rs (List D) := o.bind fun p δ => lift (rng1D p) δ
theorem e_rng1 (r : FL) (δ : DEnv) : fRng1 r δ = rngK (r δ) := rfl
noncomputable def siK1 (j : Nat) (fk : FE) (o : Rs Sl) : Option Out := thenS o fun p δ => match δ[j]? with
  | some (some _) => thenS (fk δ) fun q δ => setD j p.fz q.fz δ
  | _ => none
noncomputable def siK2 (j : Nat) (fk : FE) (p : D) (δ : DEnv) (o : Option (Option Sl)) : Option Out := match o with
  | some (some _) => thenS (fk δ) fun q δ => setD j p q.fz δ
  | _ => none
noncomputable def siK3 (j : Nat) (p : D) (o : Rs Sl) : Option Out := thenS o fun q δ => setD j p q.fz δ
theorem e_si (j : Nat) (fk fe : FE) (δ : DEnv) : fSetI j fk fe δ = siK1 j fk (fe δ) := rfl
theorem k_si1 (j : Nat) (fk : FE) (p : Sl) (δ : DEnv) : siK1 j fk (some (.ok p, δ)) = siK2 j fk p.fz δ (δ[j]?) := rfl
theorem k_si2 (j : Nat) (fk : FE) (p : D) (δ : DEnv) (s : Sl) : siK2 j fk p δ (some (some s)) = siK3 j p (fk δ) := rfl
theorem k_si3 (j : Nat) (p : D) (q : Sl) (δ : DEnv) : siK3 j p (some (.ok q, δ)) = setD j p q.fz δ := rfl
theorem intS_int (i : Int) : intSD (.int i) = some (.val (.int i)) := rfl
theorem intS_bl (b : Bool) : intSD (.bl b) = some (.val (.int (if b then 1 else 0))) := rfl
theorem eqOp_bb (i j : Bool) : eqOp false (.bl i) (.bl j) = some (.val (.bl (i == j))) := eqOp_bl false i j
theorem eqOp_nbb (i j : Bool) : eqOp true (.bl i) (.bl j) = some (.val (.bl (!(i == j)))) := eqOp_bl true i j
theorem isi_non_str : isiD .non (.ty "str") = some (.val (.bl false)) := rfl
noncomputable def evB := And.intro @e_pureT <| And.intro @k_pureT <| And.intro @e_pure <| And.intro @k_pureI <| And.intro @k_pureB <| And.intro @k_pureS <| And.intro @k_pureN <| And.intro @frz0 <| And.intro @frzC <| And.intro @frzSn <| And.intro @frzSv <| And.intro @frzSo <| And.intro @frzSl <| And.intro @e_forN <| And.intro @e_forC <| And.intro @k_forC1 <| And.intro @k_forC2 <| And.intro @k_forC3 <| And.intro @k_forC4 <| And.intro @e_rng1 <| And.intro @e_si <| And.intro @k_si1 <| And.intro @k_si2 <| And.intro @k_si3 <| And.intro @intS_int <| And.intro @intS_bl <| And.intro @eqOp_bb <| And.intro @eqOp_nbb <| @isi_non_str
end Toy
namespace Toy
open PySem L2 L4
/-! lists that are changed, slices -/
noncomputable def mutK1 (i : Nat) (g : List D → List D → Option (List D × D)) (r : FL) (δ : DEnv) (o : Option (Option Sl)) : Rs Sl := match o with
  | some (some s) => if isL s.fz = true then (r δ).bind (mutD i g) else none
  | _ => none
noncomputable def mutK2 (i : Nat) (g : List D → List D → Option (List D × D)) (o : Rs (List D)) : Rs Sl := o.bind (mutD i g)
noncomputable def mutK3 (i : Nat) (g : List D → List D → Option (List D × D)) (es : List D) (δ : DEnv) (o : Option (Option Sl)) : Rs Sl := match o with
  | some (some s) => if s.isO = true then (match s.fz with
    | .lst ds => (match g ds es with | some q => some (.ok (.val q.2), δ.set i (some (s.now (.lst q.1)))) | none => none)
    | _ => none) else none
  | _ => none
noncomputable def mutK4 (i : Nat) (δ : DEnv) (o : Option (List D × D)) : Rs Sl := match o with | some q => some (.ok (.val q.2), δ.set i (some (.own (.lst q.1)))) | none => none
theorem e_mut (i : Nat) (g : List D → List D → Option (List D × D)) (r : FL) (δ : DEnv) : fMut i g r δ = mutK1 i g r δ (δ[i]?) := rfl
theorem e_mut0 (i : Nat) (g : List D → List D → Option (List D × D)) (δ : DEnv) : fMut0 i g δ = mutK1 i g fNil δ (δ[i]?) := rfl
theorem k_mut1 (i : Nat) (g : List D → List D → Option (List D × D)) (r : FL) (δ : DEnv) (ds : List D) : mutK1 i g r δ (some (some (.own (.lst ds)))) = mutK2 i g (r δ) := rfl
theorem k_mut2 (i : Nat) (g : List D → List D → Option (List D × D)) (es : List D) (δ : DEnv) : mutK2 i g (some (.ok es, δ)) = mutK3 i g es δ (δ[i]?) := rfl
theorem k_mut3 (i : Nat) (g : List D → List D → Option (List D × D)) (es : List D) (δ : DEnv) (ds : List D) : mutK3 i g es δ (some (some (.own (.lst ds)))) = mutK4 i δ (g ds es) := by
  unfold mutK3 mutK4
  simp only [Sl.isO, fz_own, if_true]
  cases g ds es <;> rfl
theorem k_mut4 (i : Nat) (δ : DEnv) (q : List D) (d : D) : mutK4 i δ (some (q, d)) = some (.ok (.val d), δ.set i (some (.own (.lst q)))) := rfl
noncomputable def slK1 (i : Nat) (l h : FO) (δ : DEnv) (o : Option (Option Sl)) : Rs Sl := match o with
  | some (some _) => (l δ).bind fun q δ => (h δ).bind fun r δ => (match δ[i]? with
    | some (some s) => if s.isO = true then (match s.fz with | .lst ds => some (.ok (.own (.lst (cutD ds q r))), δ) | _ => none) else none
    | _ => none)
  | _ => none
noncomputable def slK4 (q r : Option Int) (δ : DEnv) (o : Option (Option Sl)) : Rs Sl := match o with
  | some (some s) => if s.isO = true then (match s.fz with | .lst ds => some (.ok (.own (.lst (cutD ds q r))), δ) | _ => none) else none
  | _ => none
noncomputable def slK2 (i : Nat) (h : FO) (o : Rs (Option Int)) : Rs Sl := o.bind fun q δ => (h δ).bind fun r δ => slK4 q r δ (δ[i]?)
noncomputable def slK3 (i : Nat) (q : Option Int) (o : Rs (Option Int)) : Rs Sl := o.bind fun r δ => slK4 q r δ (δ[i]?)
theorem e_slO (i : Nat) (l h : FO) (δ : DEnv) : fSlO i l h δ = slK1 i l h δ (δ[i]?) := rfl
theorem k_slO1 (i : Nat) (l h : FO) (δ : DEnv) (s : Sl) : slK1 i l h δ (some (some s)) = slK2 i h (l δ) := rfl
theorem k_slO2 (i : Nat) (h : FO) (q : Option Int) (δ : DEnv) : slK2 i h (some (.ok q, δ)) = slK3 i q (h δ) := rfl
theorem k_slO3 (i : Nat) (q r : Option Int) (δ : DEnv) : slK3 i q (some (.ok r, δ)) = slK4 q r δ (δ[i]?) := rfl
theorem k_slO4 (q r : Option Int) (δ : DEnv) (ds : List D) : slK4 q r δ (some (some (.own (.lst ds)))) = some (.ok (.own (.lst (cutD ds q r))), δ) := rfl
noncomputable def partK (o : Rs Sl) : Rs (Option Int) := o.bind fun p δ => lift (intOf p.fz) δ
theorem e_part (f : FE) (δ : DEnv) : fPart f δ = partK (f δ) := rfl
theorem k_part (i : Int) (δ : DEnv) : partK (some (.ok (.val (.int i)), δ)) = some (.ok (some i), δ) := rfl
theorem e_nop (δ : DEnv) : fNoP δ = some (.ok none, δ) := rfl
noncomputable def gslK1 (g : D → Option Int → Option Int → Option Sl) (l h : FO) (o : Rs Sl) : Rs Sl := o.bind fun p δ => (l δ).bind fun q δ => (h δ).bind fun r δ => lift (g p.fz q r) δ
noncomputable def gslK2 (g : D → Option Int → Option Int → Option Sl) (p : D) (h : FO) (o : Rs (Option Int)) : Rs Sl := o.bind fun q δ => (h δ).bind fun r δ => lift (g p q r) δ
noncomputable def gslK3 (g : D → Option Int → Option Int → Option Sl) (p : D) (q : Option Int) (o : Rs (Option Int)) : Rs Sl := o.bind fun r δ => lift (g p q r) δ
theorem e_sl (g : D → Option Int → Option Int → Option Sl) (f : FE) (l h : FO) (δ : DEnv) : fSl g f l h δ = gslK1 g l h (f δ) := rfl
theorem k_sl1 (g : D → Option Int → Option Int → Option Sl) (l h : FO) (p : Sl) (δ : DEnv) : gslK1 g l h (some (.ok p, δ)) = gslK2 g p.fz h (l δ) := rfl
theorem k_sl2 (g : D → Option Int → Option Int → Option Sl) (p : D) (h : FO) (q : Option Int) (δ : DEnv) : gslK2 g p h (some (.ok q, δ)) = gslK3 g p q (h δ) := rfl
theorem k_sl3 (g : D → Option Int → Option Int → Option Sl) (p : D) (q r : Option Int) (δ : DEnv) : gslK3 g p q (some (.ok r, δ)) = liK δ (g p q r) := rfl
theorem listD_l (ds : List D) : listD (.lst ds) = some (.own (.lst ds)) := rfl
theorem listD_t (ds : List D) : listD (.tup ds) = some (.own (.lst ds)) := rfl
theorem tupD_l (ds : List D) : tupleD (.lst ds) = some (.val (.tup ds)) := rfl
theorem gLst0 : gLstD [] = some (.own (.lst [])) := gLst_of _ (by simp)
theorem gLst1 (a : D) : gLstD [a] = some (.own (.lst [a])) := gLst_of _ (by simp)
theorem gLst2 (a b : D) : gLstD [a, b] = some (.own (.lst [a, b])) := gLst_of _ (by simp)
theorem gLst3 (a b c : D) : gLstD [a, b, c] = some (.own (.lst [a, b, c])) := gLst_of _ (by simp)
noncomputable def evC := And.intro @e_mut <| And.intro @e_mut0 <| And.intro @k_mut1 <| And.intro @k_mut2 <| And.intro @k_mut3 <| And.intro @k_mut4 <| And.intro @e_slO <| And.intro @k_slO1 <| And.intro @k_slO2 <| And.intro @k_slO3 <| And.intro @k_slO4 <| And.intro @e_part <| And.intro @k_part <| And.intro @e_nop <| And.intro @e_sl <| And.intro @k_sl1 <| And.intro @k_sl2 <| And.intro @k_sl3 <| And.intro @listD_l <| And.intro @listD_t <| And.intro @tupD_l <| And.intro @gLst0 <| And.intro @gLst1 <| And.intro @gLst2 <| And.intro @gLst3 <| @len_lst
end Toy
namespace Toy
open PySem L2 L4
end Toy
namespace Toy
open PySem L2 L4
theorem run_cell (ns : List Int) (k : Int) (h : 0 ≤ k) : r_q_cell_at [.lst (ns.map D.int), .int k] = some (.ok (.val (.int (ns.getD k.toNat 0))), []) := by
  by_cases hk : k < (ns.length : Int)
  · have e := cell_ix ns k h hk
    refine runD_ret rfl (δ := [sv (.lst (ns.map D.int)), sv (.int k)]) ?_
    have e0 : startD 2 [] [.lst (ns.map D.int), .int k] = [sv (.lst (ns.map D.int)), sv (.int k)] := rfl
    rw [e0]
    unfold f_q_cell_at
    refine fSeq_ret ?_
    rw [fIf_true (δ' := [sv (.lst (ns.map D.int)), sv (.int k)])]
    · refine fRet_of ?_
      show lift (ixD (.lst (ns.map D.int)) (.int k)) _ = _
      rw [e]; rfl
    · show lift (blOf (.bl (decide (k < ((ns.map D.int).length : Int))))) _ = _
      rw [List.length_map, decide_eq_true hk]; rfl
  · refine runD_ret rfl (δ := [sv (.lst (ns.map D.int)), sv (.int k)]) ?_
    have e0 : startD 2 [] [.lst (ns.map D.int), .int k] = [sv (.lst (ns.map D.int)), sv (.int k)] := rfl
    rw [e0]
    unfold f_q_cell_at
    rw [fSeq_next (δ' := [sv (.lst (ns.map D.int)), sv (.int k)])]
    · refine fRet_of ?_
      rw [show ns.getD k.toNat 0 = 0 by simp [List.getD, show ns.length ≤ k.toNat by omega]]; rfl
    · rw [fIf_false (δ' := [sv (.lst (ns.map D.int)), sv (.int k)])]
      · rfl
      · show lift (blOf (.bl (decide (k < ((ns.map D.int).length : Int))))) _ = _
        rw [List.length_map, decide_eq_false hk]; rfl
end Toy
namespace Toy
open PySem L2 L4
noncomputable def isK (tb : List (Str × Bool)) (o : Rs Sl) : Rs Sl := o.bind fun p δ => lift (isiKD tb p.fz) δ
theorem e_isiK (tb : List (Str × Bool)) (fe : FE) (δ : DEnv) : fIsiK tb fe δ = isK tb (fe δ) := rfl
theorem k_isiK (tb : List (Str × Bool)) (p : Sl) (δ : DEnv) : isK tb (some (.ok p, δ)) = lift (isiKD tb p.fz) δ := rfl
noncomputable def atK (cs : List Str) (o : Rs Sl) : Rs Sl := o.bind fun p δ => lift (atD cs p.fz) δ
theorem e_atK (cs : List Str) (fe : FE) (δ : DEnv) : fAt cs fe δ = atK cs (fe δ) := rfl
theorem k_atK (cs : List Str) (p : Sl) (δ : DEnv) : atK cs (some (.ok p, δ)) = lift (atD cs p.fz) δ := rfl
theorem at_bf (i : Int) : atD ["BadFormula"] (.exa "BadFormula" i) = some (.val (.int i)) := by
  show (if ("BadFormula" : Str) ∈ (["BadFormula"] : List Str) then some (Sl.val (D.int i)) else none) = _
  rw [if_pos (List.mem_singleton.mpr rfl)]
theorem nx1 (c : Str) (d : D) : newX1 c [d] = some (.val (.exo c)) := rfl
theorem na1 (c : Str) (d : D) : newA1 c [d] = some (.val (.exa c 0)) := rfl
theorem na2 (c : Str) (d : D) (i : Int) : newA2 c [d, .int i] = some (.val (.exa c i)) := rfl
theorem lift_s (s : Sl) (δ : DEnv) : lift (some s) δ = some (.ok s, δ) := rfl
noncomputable def evK := And.intro @lift_s <| And.intro @e_isiK <| And.intro @k_isiK <| And.intro @e_atK <| And.intro @k_atK <| And.intro @at_bf <| And.intro @nx1 <| And.intro @na1 <| @na2
theorem pow9 : powD (.int 10) (.int 9) = some (.val (.int 1000000000)) := by kernel_rfl
noncomputable def nmK (k : Nat) : Str := ["BadPlace", "BadFormula", "TooGreat", "NoRing", "BadSize", "Outside", "BadSpan", "BadRow"].getD k ""
noncomputable def eK (k : Nat) : D := if k = 1 then .exa "BadFormula" 0 else .exo (nmK k)
theorem whole_i (i : Int) : r_q_whole [.int i] = some (.ok (.val (.bl true)), []) := rfl
theorem words (n : Int) (h : 0 ≤ n ∧ n < 9) : ∃ z, slSD (.str "abcdefgh") none (some n) = some (.val (.str z)) := by
  have : n = 0 ∨ n = 1 ∨ n = 2 ∨ n = 3 ∨ n = 4 ∨ n = 5 ∨ n = 6 ∨ n = 7 ∨ n = 8 := by omega
  rcases this with rfl | rfl | rfl | rfl | rfl | rfl | rfl | rfl | rfl <;> exact ⟨_, rfl⟩
theorem made (k : Nat) (hk : k < 8) (w : D) : r_q_made [.int (k : Int), w] = some (.ok (.val (eK k)), []) := by
  match k, hk with
  | 0, _ => rfl
  | 1, _ => rfl
  | 2, _ => rfl
  | 3, _ => rfl
  | 4, _ => rfl
  | 5, _ => rfl
  | 6, _ => rfl
  | 7, _ => rfl
theorem isS (k : Nat) (hk : k < 8) : isiKD t_SlateError (eK k) = some (.val (.bl true)) := by
  match k, hk with
  | 0, _ => kernel_rfl
  | 1, _ => kernel_rfl
  | 2, _ => kernel_rfl
  | 3, _ => kernel_rfl
  | 4, _ => kernel_rfl
  | 5, _ => kernel_rfl
  | 6, _ => kernel_rfl
  | 7, _ => kernel_rfl
theorem isV (k : Nat) (hk : k < 8) : isiKD t_ValueError (eK k) = some (.val (.bl true)) := by
  match k, hk with
  | 0, _ => kernel_rfl
  | 1, _ => kernel_rfl
  | 2, _ => kernel_rfl
  | 3, _ => kernel_rfl
  | 4, _ => kernel_rfl
  | 5, _ => kernel_rfl
  | 6, _ => kernel_rfl
  | 7, _ => kernel_rfl
theorem isB (i : Int) : isiKD t_SlateError (.exa "BadFormula" i) = some (.val (.bl true)) := by kernel_rfl
theorem last (k : Nat) (hk : k < 8) (S W N B : D) : fin (f_law_8 [sv S, sv (.int (k : Int)), sv W, sv (eK k), sv N, sv B]) = some (.ok (.val (.bl true)), []) := by
  match k, hk with
  | 0, _ => kernel_rfl
  | 1, _ => kernel_rfl
  | 2, _ => kernel_rfl
  | 3, _ => kernel_rfl
  | 4, _ => kernel_rfl
  | 5, _ => kernel_rfl
  | 6, _ => kernel_rfl
  | 7, _ => kernel_rfl
theorem law_true (ns : List Int) (hn : ns.length ≤ 63) : r_law [.lst (ns.map D.int)] = some (.ok (.val (.bl true)), []) := by
  have h0 := run_cell ns 0 (by decide)
  have h1 := run_cell ns 1 (by decide)
  have h2 := run_cell ns 2 (by decide)
  refine runE rfl ?_
  show fin (f_law [sv (.lst (ns.map D.int)), none, none, none, none, none]) = _
  generalize eS : D.lst (ns.map D.int) = S at h0 h1 h2 ⊢
  generalize ns.getD (0 : Int).toNat 0 = c0 at h0
  generalize ns.getD (1 : Int).toNat 0 = c1 at h1
  generalize ns.getD (2 : Int).toNat 0 = c2 at h2
  obtain ⟨z, hz⟩ := words (c1 % 9) (by omega)
  obtain ⟨k, hk, ek⟩ : ∃ k : Nat, k < 8 ∧ c0 % 8 = (k : Int) := ⟨(c0 % 8).toNat, by omega, by omega⟩
  have hm := made k hk (.str z)
  have hS := isS k hk
  have hV := isV k hk
  unfold f_law f_law_1 f_law_2 f_law_3 f_law_4 f_law_5 f_law_6 f_law_7
  by_cases h : k = 1
  · subst h
    have e1 : eK 1 = .exa "BadFormula" 0 := rfl
    rw [e1] at hm hS hV
    simp -implicitDefEqProofs (disch := omega) only [evA, if_pos, if_neg, if_true, if_false, evB, evC, evK, h0, h1, h2, ek, hz, hm, hS, hV, whole_i, isB, pow9]
    exact last 1 (by decide) _ _ _ _
  · have hk1 : ¬ (k : Int) = 1 := by omega
    simp -implicitDefEqProofs (disch := omega) only [evA, if_pos, if_neg, if_true, if_false, evB, evC, evK, h0, h1, h2, ek, hz, hm, hS, hV, whole_i, isB, pow9]
    exact last k hk _ _ _ _
end Toy


namespace Toy
open PySem L2 L4
noncomputable def top (i : Nat) : Stmt := PySem.Challenge.pw_slate_k11_refusals_apart.main.body.getD i (.Pass ⟨0, 0, 0, 0⟩)
structure Blt (mg : Str → Option Value) : Prop where
  ValueError_ : mg "ValueError" = none
  bool_ : mg "bool" = none
  int_ : mg "int" = none
  isinstance_ : mg "isinstance" = none
  len_ : mg "len" = none
  range_ : mg "range" = none
structure Cst (K : PySem.W.Frag) (mg : Str → Option Value) : Prop where
  nx_BadPlace : ∃ C, ExC K "BadPlace" C ∧ PySem.W.keepIn K (.ref C) = true
  nx_BadRow : ∃ C, ExC K "BadRow" C ∧ PySem.W.keepIn K (.ref C) = true
  nx_BadSize : ∃ C, ExC K "BadSize" C ∧ PySem.W.keepIn K (.ref C) = true
  nx_BadSpan : ∃ C, ExC K "BadSpan" C ∧ PySem.W.keepIn K (.ref C) = true
  nx_NoRing : ∃ C, ExC K "NoRing" C ∧ PySem.W.keepIn K (.ref C) = true
  nx_Outside : ∃ C, ExC K "Outside" C ∧ PySem.W.keepIn K (.ref C) = true
  nx_TooGreat : ∃ C, ExC K "TooGreat" C ∧ PySem.W.keepIn K (.ref C) = true
  it_BadFormula : ∃ b, ExN K "BadFormula" (.ref b) ∧ IsTb K t_BadFormula (.ref b)
  it_BadPlace : ∃ b, ExN K "BadPlace" (.ref b) ∧ IsTb K t_BadPlace (.ref b)
  it_BadRow : ∃ b, ExN K "BadRow" (.ref b) ∧ IsTb K t_BadRow (.ref b)
  it_BadSize : ∃ b, ExN K "BadSize" (.ref b) ∧ IsTb K t_BadSize (.ref b)
  it_BadSpan : ∃ b, ExN K "BadSpan" (.ref b) ∧ IsTb K t_BadSpan (.ref b)
  it_NoRing : ∃ b, ExN K "NoRing" (.ref b) ∧ IsTb K t_NoRing (.ref b)
  it_Outside : ∃ b, ExN K "Outside" (.ref b) ∧ IsTb K t_Outside (.ref b)
  it_SlateError : ∃ b, ExN K "SlateError" (.ref b) ∧ IsTb K t_SlateError (.ref b)
  it_TooGreat : ∃ b, ExN K "TooGreat" (.ref b) ∧ IsTb K t_TooGreat (.ref b)
  it_ValueError : IsTb K t_ValueError (.type "ValueError")
  at_ok : AtOk K ["BadFormula"]
section
variable {P : Program} {w : World} {K : PySem.W.Frag} {mg : Str → Option Value} {base : Heap}
theorem sc_q_cell_at : FnScope ["_law_script", "_law_k"] ["_law_script", "_law_k"] (defScope (top 11)) := ⟨rfl, rfl, rfl, by decide +kernel, rfl, by decide +kernel, by decide +kernel⟩
theorem ok_q_cell_at (B : Blt mg) (C : Cst K mg) (BF : BFm P w K mg base "BadFormula") {f : Addr} {fd : FuncData} (F : Fun K "_law_cell_at" "_law_cell_at" (top 11) f fd) (b : Binds K fd ["_law_script", "_law_k"] []) (hm : mg "_law_cell_at" = some (.ref f)) : FnD P w K mg base "_law_cell_at" 1 ["_law_script", "_law_k"] [] r_q_cell_at := by
  have SC := sc_q_cell_at
  refine fnD_mk (n := 2) (m := 2) (k := 0) F SC rfl rfl b hm fun cdv A outer s H E hr => ?_
  exact (db_cons (ds_if (dt_cmp q_lt (de 1) (de_len rfl B.len_ (da_cons (de 0) da_nil)) (nomark _)) (db_one (ds_ret (de_ix (de 0) (de 1) (fun _ _ => rfl)))) db_nil)
    (db_one (ds_ret de_int)))
theorem sc_q_made : FnScope ["_law_kind", "_law_words"] ["_law_kind", "_law_words"] (defScope (top 13)) := ⟨rfl, rfl, rfl, by decide +kernel, rfl, by decide +kernel, by decide +kernel⟩
theorem ok_q_made (B : Blt mg) (C : Cst K mg) (BF : BFm P w K mg base "BadFormula") {f : Addr} {fd : FuncData} (F : Fun K "_law_made" "_law_made" (top 13) f fd) (b : Binds K fd ["_law_kind", "_law_words"] []) (hm : mg "_law_made" = some (.ref f)) : FnD P w K mg base "_law_made" 3 ["_law_kind", "_law_words"] [] r_q_made := by
  have SC := sc_q_made
  refine fnD_mk (n := 2) (m := 2) (k := 2) F SC rfl rfl b hm fun cdv A outer s H E hr => ?_
  exact (db_cons (ds_if (dt_cmp (q_eq (hu_of2 hr)) (de 0) de_int (nomark _)) (db_one (ds_ret (de_newX C.nx_BadPlace rfl (da_cons (de 1) da_nil)))) db_nil)
    (db_cons (ds_if (dt_cmp (q_eq (hu_of2 hr)) (de 0) de_int (nomark _)) (db_one (ds_ret (de_bf1 BF (hr.mono (by omega)) rfl (da_cons (de 1) da_nil)))) db_nil)
    (db_cons (ds_if (dt_cmp (q_eq (hu_of2 hr)) (de 0) de_int (nomark _)) (db_one (ds_ret (de_newX C.nx_TooGreat rfl (da_cons (de 1) da_nil)))) db_nil)
    (db_cons (ds_if (dt_cmp (q_eq (hu_of2 hr)) (de 0) de_int (nomark _)) (db_one (ds_ret (de_newX C.nx_NoRing rfl (da_cons (de 1) da_nil)))) db_nil)
    (db_cons (ds_if (dt_cmp (q_eq (hu_of2 hr)) (de 0) de_int (nomark _)) (db_one (ds_ret (de_newX C.nx_BadSize rfl (da_cons (de 1) da_nil)))) db_nil)
    (db_cons (ds_if (dt_cmp (q_eq (hu_of2 hr)) (de 0) de_int (nomark _)) (db_one (ds_ret (de_newX C.nx_Outside rfl (da_cons (de 1) da_nil)))) db_nil)
    (db_cons (ds_if (dt_cmp (q_eq (hu_of2 hr)) (de 0) de_int (nomark _)) (db_one (ds_ret (de_newX C.nx_BadSpan rfl (da_cons (de 1) da_nil)))) db_nil)
    (db_one (ds_ret (de_newX C.nx_BadRow rfl (da_cons (de 1) da_nil)))))))))))
theorem sc_q_whole : FnScope ["_law_found"] ["_law_found"] (defScope (top 12)) := ⟨rfl, rfl, rfl, by decide +kernel, rfl, by decide +kernel, by decide +kernel⟩
theorem ok_q_whole (B : Blt mg) (C : Cst K mg) (BF : BFm P w K mg base "BadFormula") {f : Addr} {fd : FuncData} (F : Fun K "_law_whole" "_law_whole" (top 12) f fd) (b : Binds K fd ["_law_found"] []) (hm : mg "_law_whole" = some (.ref f)) : FnD P w K mg base "_law_whole" 1 ["_law_found"] [] r_q_whole := by
  have SC := sc_q_whole
  refine fnD_mk (n := 1) (m := 1) (k := 0) F SC rfl rfl b hm fun cdv A outer s H E hr => ?_
  exact (db_one (ds_ret (de_and (de_isi rfl B.isinstance_ (da_cons (de 0) (da_cons (de_ty rfl B.int_ bo_int) da_nil))) (de_one (de_not (de_isi rfl B.isinstance_ (da_cons (de 0) (da_cons (de_ty rfl B.bool_ bo_bool) da_nil))))))))
theorem sc_q_kinds : FnScope ["_law_error", "_law_found"] ["_law_error"] (defScope (top 14)) := ⟨rfl, rfl, rfl, by decide +kernel, rfl, by decide +kernel, by decide +kernel⟩
theorem ok_q_kinds (B : Blt mg) (C : Cst K mg) (BF : BFm P w K mg base "BadFormula") {f : Addr} {fd : FuncData} (F : Fun K "_law_kinds" "_law_kinds" (top 14) f fd) (b : Binds K fd ["_law_error"] []) (hm : mg "_law_kinds" = some (.ref f)) : FnD P w K mg base "_law_kinds" 1 ["_law_error"] [] r_q_kinds := by
  have SC := sc_q_kinds
  refine fnD_mk (n := 2) (m := 1) (k := 0) F SC rfl rfl b hm fun cdv A outer s H E hr => ?_
  exact (db_cons (ds_set (i := 1) SC.nd rfl (by first | exact Or.inl rfl | exact Or.inr rfl) (de_lst (da_cons (de_isiK C.it_BadPlace rfl rfl B.isinstance_ (de 0)) (da_cons (de_isiK C.it_BadFormula rfl rfl B.isinstance_ (de 0)) (da_cons (de_isiK C.it_TooGreat rfl rfl B.isinstance_ (de 0)) da_nil)))))
    (db_cons (ds_set (i := 1) SC.nd rfl (by first | exact Or.inl rfl | exact Or.inr rfl) (de_add (de 1) (de_lst (da_cons (de_isiK C.it_NoRing rfl rfl B.isinstance_ (de 0)) (da_cons (de_isiK C.it_BadSize rfl rfl B.isinstance_ (de 0)) (da_cons (de_isiK C.it_Outside rfl rfl B.isinstance_ (de 0)) da_nil))))))
    (db_one (ds_ret (de_add (de 1) (de_lst (da_cons (de_isiK C.it_BadSpan rfl rfl B.isinstance_ (de 0)) (da_cons (de_isiK C.it_BadRow rfl rfl B.isinstance_ (de 0)) da_nil))))))))
theorem sc_law : FnScope ["_law_script", "_law_kind", "_law_words", "_law_error", "_law_number", "_law_stood_at"] ["_law_script"] (defScope (top 15)) := ⟨rfl, rfl, rfl, by decide +kernel, rfl, by decide +kernel, by decide +kernel⟩
theorem ok_law (B : Blt mg) (C : Cst K mg) (BF : BFm P w K mg base "BadFormula") (G_q_cell_at : FnD P w K mg base "_law_cell_at" 1 ["_law_script", "_law_k"] [] r_q_cell_at) (G_q_made : FnD P w K mg base "_law_made" 3 ["_law_kind", "_law_words"] [] r_q_made) (G_q_whole : FnD P w K mg base "_law_whole" 1 ["_law_found"] [] r_q_whole) (G_q_kinds : FnD P w K mg base "_law_kinds" 1 ["_law_error"] [] r_q_kinds) {f : Addr} {fd : FuncData} (F : Fun K "law" "law" (top 15) f fd) : FnOk P w K mg base (CXA P w) 4 f fd ["_law_script"] (spM K [] r_law) := by
  have SC := sc_law
  refine (fnD_ok (n := 6) (m := 1) (k := 3) F SC rfl rfl fun cdv A outer s H E hr => ?_)
  exact (db_cons (ds_set (i := 1) SC.nd rfl (by first | exact Or.inl rfl | exact Or.inr rfl) (de_mod (de_call G_q_cell_at (hr.mono (by omega)) rfl (da_cons (de 0) (da_cons de_int da_nil))) de_int))
    (db_cons (ds_set (i := 2) SC.nd rfl (by first | exact Or.inl rfl | exact Or.inr rfl) (de_slS de_str dp_none (dp_some (de_mod (de_call G_q_cell_at (hr.mono (by omega)) rfl (da_cons (de 0) (da_cons de_int da_nil))) de_int))))
    (db_cons (ds_set (i := 3) SC.nd rfl (by first | exact Or.inl rfl | exact Or.inr rfl) (de_call G_q_made (hr.mono (by omega)) rfl (da_cons (de 1) (da_cons (de 2) da_nil))))
    (db_cons (ds_if (dw (dw_or (dt_not (dt_truth (de_isiK C.it_SlateError rfl rfl B.isinstance_ (de 3)) (fun _ => rfl))) (dw_or1 (dt_not (dt_truth (de_isiKT C.it_ValueError rfl B.ValueError_ bo_ValueError rfl B.isinstance_ (de 3)) (fun _ => rfl)))))) (db_one (ds_ret de_bl)) db_nil)
    (db_cons (ds_if (dw (dw_and (dt_cmp (q_eq (hu_of2 hr)) (de 1) de_int (nomark _)) (dw_and1 (dt_not (dw (dw_and (dt_truth (de_call G_q_whole (hr.mono (by omega)) rfl (da_cons (de_atR C.at_ok (de 3)) da_nil)) (fun _ => rfl)) (dw_and1 (dt_cmp (q_eq (hu_of2 hr)) (de_atR C.at_ok (de 3)) de_int (nomark _))))))))) (db_one (ds_ret de_bl)) db_nil)
    (db_cons (ds_set (i := 4) SC.nd rfl (by first | exact Or.inl rfl | exact Or.inr rfl) (de_mod (de_call G_q_cell_at (hr.mono (by omega)) rfl (da_cons (de 0) (da_cons de_int da_nil))) (de_pow de_int de_int)))
    (db_cons (ds_set (i := 5) SC.nd rfl (by first | exact Or.inl rfl | exact Or.inr rfl) (de_bf2 BF (hr.mono (by omega)) rfl (da_cons (de 2) (da_cons (de 4) da_nil))))
    (db_cons (ds_if (dw (dw_or (dt_not (dt_truth (de_isiK C.it_SlateError rfl rfl B.isinstance_ (de 5)) (fun _ => rfl))) (dw_or (dt_not (dt_truth (de_call G_q_whole (hr.mono (by omega)) rfl (da_cons (de_atR C.at_ok (de 5)) da_nil)) (fun _ => rfl))) (dw_or1 (dt_cmp (q_ne (hu_of2 hr)) (de_atR C.at_ok (de 5)) (de 4) (nomark _)))))) (db_one (ds_ret de_bl)) db_nil)
    (db_one (ds_ret (de_cmp (q_eq (hu_of2 hr)) (de_call G_q_kinds (hr.mono (by omega)) rfl (da_cons (de 3) da_nil)) (de_comp (comp_ok (M := ["_law_script", "_law_kind", "_law_words", "_law_error", "_law_number", "_law_stood_at"]) (sc := defScope (top 15)) (N := ["_law_script", "_law_kind", "_law_words", "_law_error", "_law_number", "_law_stood_at"]) rfl rfl (by decide +kernel)) rfl (di_rng1 rfl B.range_ (da_cons de_int da_nil)) tests_no (fun s H fp pn => (de_cmp (q_eq (hu_of2 hr)) (de 0) (de 2) (nomark _)))) (nomark _))))))))))))
end
theorem sc_init : FnScope psI psI (defScope (inner (top 3) 0)) := ⟨rfl, rfl, rfl, by decide +kernel, rfl, by decide +kernel, by decide +kernel⟩
theorem ln1 {us : List Value} (h : us.length = 1) : ∃ a0, us = [a0] := by
  match us, h with
  | [a0], _ => exact ⟨a0, rfl⟩
theorem ln2 {us : List Value} (h : us.length = 2) : ∃ a0 a1, us = [a0, a1] := by
  match us, h with
  | [a0, a1], _ => exact ⟨a0, a1, rfl⟩
theorem all_mk {l : PySem.W.OpenLaw} {w : World} {K : PySem.W.Frag} {h : Heap} {mg : Str → Option Value} {fa : Addr} (X : K.In h) (G : h.Ns mainGlobals mg) (hfa : mg "law" = some (.ref fa))
    {od0 an0 : Option Addr} {sl0 : Array (Option Value)} {oc0 kV0 dc0 pm0 cd0 ct0 : Value} {f0 : Addr}
    {od1 an1 : Option Addr} {sl1 : Array (Option Value)} {oc1 kV1 dc1 pm1 cd1 ct1 : Value} {f1 : Addr}
    {od2 an2 : Option Addr} {sl2 : Array (Option Value)} {oc2 kV2 dc2 pm2 cd2 ct2 : Value} {f2 : Addr}
    {od3 an3 : Option Addr} {sl3 : Array (Option Value)} {oc3 kV3 dc3 pm3 cd3 ct3 : Value} {f3 : Addr}
    {od4 an4 : Option Addr} {sl4 : Array (Option Value)} {oc4 kV4 dc4 pm4 cd4 ct4 : Value} {f4 : Addr}
    {xc_0 : Addr}
    {xc_1 : Addr}
    {xc_2 : Addr}
    {xc_3 : Addr}
    {xc_4 : Addr}
    {xc_5 : Addr}
    {xc_6 : Addr}
    {xc_7 : Addr}
    {xc_8 : Addr}
    {nmA qA : Str} {bsA : List Value} {snA : List Str} {subA : List Value} {abA : Bool} {colA : Option Bool} {ddA : Option Addr} {k0A k1A k2A k3A k5A : Option Value} {NA : Addr} {ocA : Value} {odA : Option Addr} {esA : Array DictEntry} {epA : Nat} {slA : Array (Option Value)}
    {nmS qS : Str} {bsS : List Value} {snS : List Str} {subS : List Value} {abS : Bool} {colS : Option Bool} {ddS : Option Addr} {k0S k1S k2S k3S k5S : Option Value} {NS : Addr} {ocS : Value} {odS : Option Addr} {esS : Array DictEntry} {epS : Nat} {slS : Array (Option Value)} {hdS : Bool} {nidS : String}
    {fI TD : Addr} {ocI kVI dcI pmI cdI ctI tcD : Value} {odI anI tdD : Option Addr} {slI tsD : Array (Option Value)} {tkD : Tok} {tnD : Nat}
    (a0 : PySem.W.nsIn K mainGlobals "_law_cell_at" = some (some (.ref f0))) (l0 : K.lookup f0 = some ⟨oc0, od0, .func (PySem.W.fnOf "_law_cell_at" "_law_cell_at" (defArgs (top 11)) (defBody (top 11)) (defScope (top 11)) .none kV0 dc0 pm0 an0 cd0 ct0), sl0⟩) (c0 : PySem.W.codeIn K cd0 "_law_cell_at" = true) (k0 : PySem.W.keepIn K (.ref f0) = true)
    (a1 : PySem.W.nsIn K mainGlobals "_law_made" = some (some (.ref f1))) (l1 : K.lookup f1 = some ⟨oc1, od1, .func (PySem.W.fnOf "_law_made" "_law_made" (defArgs (top 13)) (defBody (top 13)) (defScope (top 13)) .none kV1 dc1 pm1 an1 cd1 ct1), sl1⟩) (c1 : PySem.W.codeIn K cd1 "_law_made" = true) (k1 : PySem.W.keepIn K (.ref f1) = true)
    (a2 : PySem.W.nsIn K mainGlobals "_law_whole" = some (some (.ref f2))) (l2 : K.lookup f2 = some ⟨oc2, od2, .func (PySem.W.fnOf "_law_whole" "_law_whole" (defArgs (top 12)) (defBody (top 12)) (defScope (top 12)) .none kV2 dc2 pm2 an2 cd2 ct2), sl2⟩) (c2 : PySem.W.codeIn K cd2 "_law_whole" = true) (k2 : PySem.W.keepIn K (.ref f2) = true)
    (a3 : PySem.W.nsIn K mainGlobals "_law_kinds" = some (some (.ref f3))) (l3 : K.lookup f3 = some ⟨oc3, od3, .func (PySem.W.fnOf "_law_kinds" "_law_kinds" (defArgs (top 14)) (defBody (top 14)) (defScope (top 14)) .none kV3 dc3 pm3 an3 cd3 ct3), sl3⟩) (c3 : PySem.W.codeIn K cd3 "_law_kinds" = true) (k3 : PySem.W.keepIn K (.ref f3) = true)
    (a4 : PySem.W.nsIn K mainGlobals "law" = some (some (.ref f4))) (l4 : K.lookup f4 = some ⟨oc4, od4, .func (PySem.W.fnOf "law" "law" (defArgs (top 15)) (defBody (top 15)) (defScope (top 15)) .none kV4 dc4 pm4 an4 cd4 ct4), sl4⟩) (c4 : PySem.W.codeIn K cd4 "law" = true) (k4 : PySem.W.keepIn K (.ref f4) = true)
    (z0 : PySem.W.nsIn K mainGlobals "ValueError" = some none)
    (z1 : PySem.W.nsIn K mainGlobals "bool" = some none)
    (z2 : PySem.W.nsIn K mainGlobals "int" = some none)
    (z3 : PySem.W.nsIn K mainGlobals "isinstance" = some none)
    (z4 : PySem.W.nsIn K mainGlobals "len" = some none)
    (z5 : PySem.W.nsIn K mainGlobals "range" = some none)
    (xn0 : PySem.W.nsIn K mainGlobals "SlateError" = some (some (.ref xc_0)))
    (xn1 : PySem.W.nsIn K mainGlobals "BadPlace" = some (some (.ref xc_1)))
    (xn2 : PySem.W.nsIn K mainGlobals "BadFormula" = some (some (.ref xc_2)))
    (xn3 : PySem.W.nsIn K mainGlobals "TooGreat" = some (some (.ref xc_3)))
    (xn4 : PySem.W.nsIn K mainGlobals "NoRing" = some (some (.ref xc_4)))
    (xn5 : PySem.W.nsIn K mainGlobals "BadSize" = some (some (.ref xc_5)))
    (xn6 : PySem.W.nsIn K mainGlobals "Outside" = some (some (.ref xc_6)))
    (xn7 : PySem.W.nsIn K mainGlobals "BadSpan" = some (some (.ref xc_7)))
    (xn8 : PySem.W.nsIn K mainGlobals "BadRow" = some (some (.ref xc_8)))
    (xq1 : PySem.W.specialIn K (.builtin "object.__class__") "__get__" = some (some (.builtin "getset_descriptor.__get__")))
    (xq2 : PySem.W.takesIn K (.builtin "object.__class__") = some true)
    (xkga1 : PySem.W.findIn K (.ref xc_1) "__getattribute__" = some (some (.builtin "BaseException.__getattribute__")))
    (xkgh1 : PySem.W.findIn K (.ref xc_1) "__getattr__" = some none)
    (xksb1 : PySem.W.subIn K (.ref xc_1) (.type "BaseException") = some true)
    (xkhd1 : PySem.W.hasDictIn K xc_1 = true)
    (xkfc1 : PySem.W.findIn K (.ref xc_1) "__class__" = some (some (.builtin "object.__class__")))
    (xkmo1 : PySem.W.mroIn K xc_1 (.type "object") = some true)
    (xkga2 : PySem.W.findIn K (.ref xc_2) "__getattribute__" = some (some (.builtin "BaseException.__getattribute__")))
    (xkgh2 : PySem.W.findIn K (.ref xc_2) "__getattr__" = some none)
    (xksb2 : PySem.W.subIn K (.ref xc_2) (.type "BaseException") = some true)
    (xkhd2 : PySem.W.hasDictIn K xc_2 = true)
    (xkfc2 : PySem.W.findIn K (.ref xc_2) "__class__" = some (some (.builtin "object.__class__")))
    (xkmo2 : PySem.W.mroIn K xc_2 (.type "object") = some true)
    (xkga3 : PySem.W.findIn K (.ref xc_3) "__getattribute__" = some (some (.builtin "BaseException.__getattribute__")))
    (xkgh3 : PySem.W.findIn K (.ref xc_3) "__getattr__" = some none)
    (xksb3 : PySem.W.subIn K (.ref xc_3) (.type "BaseException") = some true)
    (xkhd3 : PySem.W.hasDictIn K xc_3 = true)
    (xkfc3 : PySem.W.findIn K (.ref xc_3) "__class__" = some (some (.builtin "object.__class__")))
    (xkmo3 : PySem.W.mroIn K xc_3 (.type "object") = some true)
    (xkga4 : PySem.W.findIn K (.ref xc_4) "__getattribute__" = some (some (.builtin "BaseException.__getattribute__")))
    (xkgh4 : PySem.W.findIn K (.ref xc_4) "__getattr__" = some none)
    (xksb4 : PySem.W.subIn K (.ref xc_4) (.type "BaseException") = some true)
    (xkhd4 : PySem.W.hasDictIn K xc_4 = true)
    (xkfc4 : PySem.W.findIn K (.ref xc_4) "__class__" = some (some (.builtin "object.__class__")))
    (xkmo4 : PySem.W.mroIn K xc_4 (.type "object") = some true)
    (xkga5 : PySem.W.findIn K (.ref xc_5) "__getattribute__" = some (some (.builtin "BaseException.__getattribute__")))
    (xkgh5 : PySem.W.findIn K (.ref xc_5) "__getattr__" = some none)
    (xksb5 : PySem.W.subIn K (.ref xc_5) (.type "BaseException") = some true)
    (xkhd5 : PySem.W.hasDictIn K xc_5 = true)
    (xkfc5 : PySem.W.findIn K (.ref xc_5) "__class__" = some (some (.builtin "object.__class__")))
    (xkmo5 : PySem.W.mroIn K xc_5 (.type "object") = some true)
    (xkga6 : PySem.W.findIn K (.ref xc_6) "__getattribute__" = some (some (.builtin "BaseException.__getattribute__")))
    (xkgh6 : PySem.W.findIn K (.ref xc_6) "__getattr__" = some none)
    (xksb6 : PySem.W.subIn K (.ref xc_6) (.type "BaseException") = some true)
    (xkhd6 : PySem.W.hasDictIn K xc_6 = true)
    (xkfc6 : PySem.W.findIn K (.ref xc_6) "__class__" = some (some (.builtin "object.__class__")))
    (xkmo6 : PySem.W.mroIn K xc_6 (.type "object") = some true)
    (xkga7 : PySem.W.findIn K (.ref xc_7) "__getattribute__" = some (some (.builtin "BaseException.__getattribute__")))
    (xkgh7 : PySem.W.findIn K (.ref xc_7) "__getattr__" = some none)
    (xksb7 : PySem.W.subIn K (.ref xc_7) (.type "BaseException") = some true)
    (xkhd7 : PySem.W.hasDictIn K xc_7 = true)
    (xkfc7 : PySem.W.findIn K (.ref xc_7) "__class__" = some (some (.builtin "object.__class__")))
    (xkmo7 : PySem.W.mroIn K xc_7 (.type "object") = some true)
    (xkga8 : PySem.W.findIn K (.ref xc_8) "__getattribute__" = some (some (.builtin "BaseException.__getattribute__")))
    (xkgh8 : PySem.W.findIn K (.ref xc_8) "__getattr__" = some none)
    (xksb8 : PySem.W.subIn K (.ref xc_8) (.type "BaseException") = some true)
    (xkhd8 : PySem.W.hasDictIn K xc_8 = true)
    (xkfc8 : PySem.W.findIn K (.ref xc_8) "__class__" = some (some (.builtin "object.__class__")))
    (xkmo8 : PySem.W.mroIn K xc_8 (.type "object") = some true)
    (xe1 : PySem.W.excIn K xc_1 [.type "ValueError", .type "Exception", .type "BaseException", .type "object"] "ValueError.__new__" = true)
    (xp1 : PySem.W.keepIn K (.ref xc_1) = true)
    (xe8 : PySem.W.excIn K xc_8 [.type "ValueError", .type "Exception", .type "BaseException", .type "object"] "ValueError.__new__" = true)
    (xp8 : PySem.W.keepIn K (.ref xc_8) = true)
    (xe5 : PySem.W.excIn K xc_5 [.type "ValueError", .type "Exception", .type "BaseException", .type "object"] "ValueError.__new__" = true)
    (xp5 : PySem.W.keepIn K (.ref xc_5) = true)
    (xe7 : PySem.W.excIn K xc_7 [.type "ValueError", .type "Exception", .type "BaseException", .type "object"] "ValueError.__new__" = true)
    (xp7 : PySem.W.keepIn K (.ref xc_7) = true)
    (xe4 : PySem.W.excIn K xc_4 [.type "ValueError", .type "Exception", .type "BaseException", .type "object"] "ValueError.__new__" = true)
    (xp4 : PySem.W.keepIn K (.ref xc_4) = true)
    (xe6 : PySem.W.excIn K xc_6 [.type "ValueError", .type "Exception", .type "BaseException", .type "object"] "ValueError.__new__" = true)
    (xp6 : PySem.W.keepIn K (.ref xc_6) = true)
    (xe3 : PySem.W.excIn K xc_3 [.type "ValueError", .type "Exception", .type "BaseException", .type "object"] "ValueError.__new__" = true)
    (xp3 : PySem.W.keepIn K (.ref xc_3) = true)
    (xiBadFormula_8 : PySem.W.kitOne K (.ref xc_8) (.ref xc_2) = some false)
    (xiBadFormula_7 : PySem.W.kitOne K (.ref xc_7) (.ref xc_2) = some false)
    (xiBadFormula_6 : PySem.W.kitOne K (.ref xc_6) (.ref xc_2) = some false)
    (xiBadFormula_5 : PySem.W.kitOne K (.ref xc_5) (.ref xc_2) = some false)
    (xiBadFormula_4 : PySem.W.kitOne K (.ref xc_4) (.ref xc_2) = some false)
    (xiBadFormula_3 : PySem.W.kitOne K (.ref xc_3) (.ref xc_2) = some false)
    (xiBadFormula_2 : PySem.W.kitOne K (.ref xc_2) (.ref xc_2) = some true)
    (xiBadFormula_1 : PySem.W.kitOne K (.ref xc_1) (.ref xc_2) = some false)
    (xiBadPlace_8 : PySem.W.kitOne K (.ref xc_8) (.ref xc_1) = some false)
    (xiBadPlace_7 : PySem.W.kitOne K (.ref xc_7) (.ref xc_1) = some false)
    (xiBadPlace_6 : PySem.W.kitOne K (.ref xc_6) (.ref xc_1) = some false)
    (xiBadPlace_5 : PySem.W.kitOne K (.ref xc_5) (.ref xc_1) = some false)
    (xiBadPlace_4 : PySem.W.kitOne K (.ref xc_4) (.ref xc_1) = some false)
    (xiBadPlace_3 : PySem.W.kitOne K (.ref xc_3) (.ref xc_1) = some false)
    (xiBadPlace_2 : PySem.W.kitOne K (.ref xc_2) (.ref xc_1) = some false)
    (xiBadPlace_1 : PySem.W.kitOne K (.ref xc_1) (.ref xc_1) = some true)
    (xiBadRow_8 : PySem.W.kitOne K (.ref xc_8) (.ref xc_8) = some true)
    (xiBadRow_7 : PySem.W.kitOne K (.ref xc_7) (.ref xc_8) = some false)
    (xiBadRow_6 : PySem.W.kitOne K (.ref xc_6) (.ref xc_8) = some false)
    (xiBadRow_5 : PySem.W.kitOne K (.ref xc_5) (.ref xc_8) = some false)
    (xiBadRow_4 : PySem.W.kitOne K (.ref xc_4) (.ref xc_8) = some false)
    (xiBadRow_3 : PySem.W.kitOne K (.ref xc_3) (.ref xc_8) = some false)
    (xiBadRow_2 : PySem.W.kitOne K (.ref xc_2) (.ref xc_8) = some false)
    (xiBadRow_1 : PySem.W.kitOne K (.ref xc_1) (.ref xc_8) = some false)
    (xiBadSize_8 : PySem.W.kitOne K (.ref xc_8) (.ref xc_5) = some false)
    (xiBadSize_7 : PySem.W.kitOne K (.ref xc_7) (.ref xc_5) = some false)
    (xiBadSize_6 : PySem.W.kitOne K (.ref xc_6) (.ref xc_5) = some false)
    (xiBadSize_5 : PySem.W.kitOne K (.ref xc_5) (.ref xc_5) = some true)
    (xiBadSize_4 : PySem.W.kitOne K (.ref xc_4) (.ref xc_5) = some false)
    (xiBadSize_3 : PySem.W.kitOne K (.ref xc_3) (.ref xc_5) = some false)
    (xiBadSize_2 : PySem.W.kitOne K (.ref xc_2) (.ref xc_5) = some false)
    (xiBadSize_1 : PySem.W.kitOne K (.ref xc_1) (.ref xc_5) = some false)
    (xiBadSpan_8 : PySem.W.kitOne K (.ref xc_8) (.ref xc_7) = some false)
    (xiBadSpan_7 : PySem.W.kitOne K (.ref xc_7) (.ref xc_7) = some true)
    (xiBadSpan_6 : PySem.W.kitOne K (.ref xc_6) (.ref xc_7) = some false)
    (xiBadSpan_5 : PySem.W.kitOne K (.ref xc_5) (.ref xc_7) = some false)
    (xiBadSpan_4 : PySem.W.kitOne K (.ref xc_4) (.ref xc_7) = some false)
    (xiBadSpan_3 : PySem.W.kitOne K (.ref xc_3) (.ref xc_7) = some false)
    (xiBadSpan_2 : PySem.W.kitOne K (.ref xc_2) (.ref xc_7) = some false)
    (xiBadSpan_1 : PySem.W.kitOne K (.ref xc_1) (.ref xc_7) = some false)
    (xiNoRing_8 : PySem.W.kitOne K (.ref xc_8) (.ref xc_4) = some false)
    (xiNoRing_7 : PySem.W.kitOne K (.ref xc_7) (.ref xc_4) = some false)
    (xiNoRing_6 : PySem.W.kitOne K (.ref xc_6) (.ref xc_4) = some false)
    (xiNoRing_5 : PySem.W.kitOne K (.ref xc_5) (.ref xc_4) = some false)
    (xiNoRing_4 : PySem.W.kitOne K (.ref xc_4) (.ref xc_4) = some true)
    (xiNoRing_3 : PySem.W.kitOne K (.ref xc_3) (.ref xc_4) = some false)
    (xiNoRing_2 : PySem.W.kitOne K (.ref xc_2) (.ref xc_4) = some false)
    (xiNoRing_1 : PySem.W.kitOne K (.ref xc_1) (.ref xc_4) = some false)
    (xiOutside_8 : PySem.W.kitOne K (.ref xc_8) (.ref xc_6) = some false)
    (xiOutside_7 : PySem.W.kitOne K (.ref xc_7) (.ref xc_6) = some false)
    (xiOutside_6 : PySem.W.kitOne K (.ref xc_6) (.ref xc_6) = some true)
    (xiOutside_5 : PySem.W.kitOne K (.ref xc_5) (.ref xc_6) = some false)
    (xiOutside_4 : PySem.W.kitOne K (.ref xc_4) (.ref xc_6) = some false)
    (xiOutside_3 : PySem.W.kitOne K (.ref xc_3) (.ref xc_6) = some false)
    (xiOutside_2 : PySem.W.kitOne K (.ref xc_2) (.ref xc_6) = some false)
    (xiOutside_1 : PySem.W.kitOne K (.ref xc_1) (.ref xc_6) = some false)
    (xiSlateError_8 : PySem.W.kitOne K (.ref xc_8) (.ref xc_0) = some true)
    (xiSlateError_7 : PySem.W.kitOne K (.ref xc_7) (.ref xc_0) = some true)
    (xiSlateError_6 : PySem.W.kitOne K (.ref xc_6) (.ref xc_0) = some true)
    (xiSlateError_5 : PySem.W.kitOne K (.ref xc_5) (.ref xc_0) = some true)
    (xiSlateError_4 : PySem.W.kitOne K (.ref xc_4) (.ref xc_0) = some true)
    (xiSlateError_3 : PySem.W.kitOne K (.ref xc_3) (.ref xc_0) = some true)
    (xiSlateError_2 : PySem.W.kitOne K (.ref xc_2) (.ref xc_0) = some true)
    (xiSlateError_1 : PySem.W.kitOne K (.ref xc_1) (.ref xc_0) = some true)
    (xiTooGreat_8 : PySem.W.kitOne K (.ref xc_8) (.ref xc_3) = some false)
    (xiTooGreat_7 : PySem.W.kitOne K (.ref xc_7) (.ref xc_3) = some false)
    (xiTooGreat_6 : PySem.W.kitOne K (.ref xc_6) (.ref xc_3) = some false)
    (xiTooGreat_5 : PySem.W.kitOne K (.ref xc_5) (.ref xc_3) = some false)
    (xiTooGreat_4 : PySem.W.kitOne K (.ref xc_4) (.ref xc_3) = some false)
    (xiTooGreat_3 : PySem.W.kitOne K (.ref xc_3) (.ref xc_3) = some true)
    (xiTooGreat_2 : PySem.W.kitOne K (.ref xc_2) (.ref xc_3) = some false)
    (xiTooGreat_1 : PySem.W.kitOne K (.ref xc_1) (.ref xc_3) = some false)
    (xiValueError_8 : PySem.W.kitOne K (.ref xc_8) (.type "ValueError") = some true)
    (xiValueError_7 : PySem.W.kitOne K (.ref xc_7) (.type "ValueError") = some true)
    (xiValueError_6 : PySem.W.kitOne K (.ref xc_6) (.type "ValueError") = some true)
    (xiValueError_5 : PySem.W.kitOne K (.ref xc_5) (.type "ValueError") = some true)
    (xiValueError_4 : PySem.W.kitOne K (.ref xc_4) (.type "ValueError") = some true)
    (xiValueError_3 : PySem.W.kitOne K (.ref xc_3) (.type "ValueError") = some true)
    (xiValueError_2 : PySem.W.kitOne K (.ref xc_2) (.type "ValueError") = some true)
    (xiValueError_1 : PySem.W.kitOne K (.ref xc_1) (.type "ValueError") = some true)
    (xna : PySem.W.findIn K (.ref xc_2) "at" = some none)
    (xA2 : K.lookup xc_2 = some (excClassObj nmA qA xc_2 NA bsA (.ref xc_0 :: veBm) true snA subA abA colA ddA k0A k1A k2A k3A k5A "ValueError.__new__"))
    (xA3 : K.lookup xc_0 = some (excClassObj nmS qS xc_0 NS bsS veBm hdS snS subS abS colS ddS k0S k1S k2S k3S k5S nidS))
    (xA4 : K.lookup NA = some ⟨ocA, odA, .dict esA epA, slA⟩)
    (rA5 : (esA.toList.all fun e => match e.key with | .str _ _ => true | _ => false) = true)
    (xA6 : K.lookup NS = some ⟨ocS, odS, .dict esS epS, slS⟩)
    (rA7 : (esS.toList.all fun e => match e.key with | .str _ _ => true | _ => false) = true)
    (xA8 : PySem.W.nsIn K NS "__init__" = some none)
    (xA9 : PySem.W.nsIn K NA "__init__" = some (some (.ref fI)))
    (xA10 : PySem.W.typeIn K (.ref fI) = some (.type "function"))
    (xA11 : PySem.W.findIn K (.ref xc_2) "__setattr__" = some (some (.builtin "object.__setattr__")))
    (xA12 : PySem.W.findIn K (.ref xc_2) "at" = some none)
    (xA13 : PySem.W.specialIn K (.ref xc_0) "__getattribute__" = some (some (.builtin "type.__getattribute__")))
    (xA14 : PySem.W.readsIn K xc_0 (.type "type") = true)
    (xA15 : PySem.W.findCls K (.ref xc_0) (.type "type") "__init__" = some (.val (.builtin "ValueError.__init__")))
    (xA16 : PySem.W.keepIn K (.ref xc_2) = true)
    (xA17 : K.lookup fI = some ⟨ocI, odI, .func (PySem.W.fnOf "__init__" "BadFormula.__init__" (defArgs (inner (top 3) 0)) (defBody (inner (top 3) 0)) (defScope (inner (top 3) 0)) (.ref TD) kVI dcI pmI anI cdI ctI), slI⟩)
    (xA18 : PySem.W.codeIn K cdI "BadFormula.__init__" = true)
    (xA19 : K.lookup TD = some ⟨tcD, tdD, .seq #[.int 0 tkD] tnD, tsD⟩) :
    ∃ fd : FuncData, (∀ (s : Shared) (v : Value), BindsTo s fd ⟨[v], []⟩ [("_law_script", v)]) ∧ ∀ base : Heap, K.In base → base.Ns mainGlobals mg → FnOk l.prog w K mg base (CXA l.prog w) 4 fa fd ["_law_script"] (spM K [] r_law) := by
  have e := hfa.symm.trans (PySem.W.mg_of X G a4)
  cases e
  have B : Blt mg := ⟨PySem.W.mg_none_of X G z0, PySem.W.mg_none_of X G z1, PySem.W.mg_none_of X G z2, PySem.W.mg_none_of X G z3, PySem.W.mg_none_of X G z4, PySem.W.mg_none_of X G z5⟩
  have C : Cst K mg := ⟨⟨xc_1, ⟨xn1, xe1⟩, xp1⟩, ⟨xc_8, ⟨xn8, xe8⟩, xp8⟩, ⟨xc_5, ⟨xn5, xe5⟩, xp5⟩, ⟨xc_7, ⟨xn7, xe7⟩, xp7⟩, ⟨xc_4, ⟨xn4, xe4⟩, xp4⟩, ⟨xc_6, ⟨xn6, xe6⟩, xp6⟩, ⟨xc_3, ⟨xn3, xe3⟩, xp3⟩, ⟨xc_2, xn2, .cons xn1 ⟨xkga1, xkgh1, xksb1, xkhd1, xkfc1, xq1, xq2, xkmo1⟩ xiBadFormula_1 (.cons xn2 ⟨xkga2, xkgh2, xksb2, xkhd2, xkfc2, xq1, xq2, xkmo2⟩ xiBadFormula_2 (.cons xn3 ⟨xkga3, xkgh3, xksb3, xkhd3, xkfc3, xq1, xq2, xkmo3⟩ xiBadFormula_3 (.cons xn4 ⟨xkga4, xkgh4, xksb4, xkhd4, xkfc4, xq1, xq2, xkmo4⟩ xiBadFormula_4 (.cons xn5 ⟨xkga5, xkgh5, xksb5, xkhd5, xkfc5, xq1, xq2, xkmo5⟩ xiBadFormula_5 (.cons xn6 ⟨xkga6, xkgh6, xksb6, xkhd6, xkfc6, xq1, xq2, xkmo6⟩ xiBadFormula_6 (.cons xn7 ⟨xkga7, xkgh7, xksb7, xkhd7, xkfc7, xq1, xq2, xkmo7⟩ xiBadFormula_7 (.cons xn8 ⟨xkga8, xkgh8, xksb8, xkhd8, xkfc8, xq1, xq2, xkmo8⟩ xiBadFormula_8 (.nil))))))))⟩, ⟨xc_1, xn1, .cons xn1 ⟨xkga1, xkgh1, xksb1, xkhd1, xkfc1, xq1, xq2, xkmo1⟩ xiBadPlace_1 (.cons xn2 ⟨xkga2, xkgh2, xksb2, xkhd2, xkfc2, xq1, xq2, xkmo2⟩ xiBadPlace_2 (.cons xn3 ⟨xkga3, xkgh3, xksb3, xkhd3, xkfc3, xq1, xq2, xkmo3⟩ xiBadPlace_3 (.cons xn4 ⟨xkga4, xkgh4, xksb4, xkhd4, xkfc4, xq1, xq2, xkmo4⟩ xiBadPlace_4 (.cons xn5 ⟨xkga5, xkgh5, xksb5, xkhd5, xkfc5, xq1, xq2, xkmo5⟩ xiBadPlace_5 (.cons xn6 ⟨xkga6, xkgh6, xksb6, xkhd6, xkfc6, xq1, xq2, xkmo6⟩ xiBadPlace_6 (.cons xn7 ⟨xkga7, xkgh7, xksb7, xkhd7, xkfc7, xq1, xq2, xkmo7⟩ xiBadPlace_7 (.cons xn8 ⟨xkga8, xkgh8, xksb8, xkhd8, xkfc8, xq1, xq2, xkmo8⟩ xiBadPlace_8 (.nil))))))))⟩, ⟨xc_8, xn8, .cons xn1 ⟨xkga1, xkgh1, xksb1, xkhd1, xkfc1, xq1, xq2, xkmo1⟩ xiBadRow_1 (.cons xn2 ⟨xkga2, xkgh2, xksb2, xkhd2, xkfc2, xq1, xq2, xkmo2⟩ xiBadRow_2 (.cons xn3 ⟨xkga3, xkgh3, xksb3, xkhd3, xkfc3, xq1, xq2, xkmo3⟩ xiBadRow_3 (.cons xn4 ⟨xkga4, xkgh4, xksb4, xkhd4, xkfc4, xq1, xq2, xkmo4⟩ xiBadRow_4 (.cons xn5 ⟨xkga5, xkgh5, xksb5, xkhd5, xkfc5, xq1, xq2, xkmo5⟩ xiBadRow_5 (.cons xn6 ⟨xkga6, xkgh6, xksb6, xkhd6, xkfc6, xq1, xq2, xkmo6⟩ xiBadRow_6 (.cons xn7 ⟨xkga7, xkgh7, xksb7, xkhd7, xkfc7, xq1, xq2, xkmo7⟩ xiBadRow_7 (.cons xn8 ⟨xkga8, xkgh8, xksb8, xkhd8, xkfc8, xq1, xq2, xkmo8⟩ xiBadRow_8 (.nil))))))))⟩, ⟨xc_5, xn5, .cons xn1 ⟨xkga1, xkgh1, xksb1, xkhd1, xkfc1, xq1, xq2, xkmo1⟩ xiBadSize_1 (.cons xn2 ⟨xkga2, xkgh2, xksb2, xkhd2, xkfc2, xq1, xq2, xkmo2⟩ xiBadSize_2 (.cons xn3 ⟨xkga3, xkgh3, xksb3, xkhd3, xkfc3, xq1, xq2, xkmo3⟩ xiBadSize_3 (.cons xn4 ⟨xkga4, xkgh4, xksb4, xkhd4, xkfc4, xq1, xq2, xkmo4⟩ xiBadSize_4 (.cons xn5 ⟨xkga5, xkgh5, xksb5, xkhd5, xkfc5, xq1, xq2, xkmo5⟩ xiBadSize_5 (.cons xn6 ⟨xkga6, xkgh6, xksb6, xkhd6, xkfc6, xq1, xq2, xkmo6⟩ xiBadSize_6 (.cons xn7 ⟨xkga7, xkgh7, xksb7, xkhd7, xkfc7, xq1, xq2, xkmo7⟩ xiBadSize_7 (.cons xn8 ⟨xkga8, xkgh8, xksb8, xkhd8, xkfc8, xq1, xq2, xkmo8⟩ xiBadSize_8 (.nil))))))))⟩, ⟨xc_7, xn7, .cons xn1 ⟨xkga1, xkgh1, xksb1, xkhd1, xkfc1, xq1, xq2, xkmo1⟩ xiBadSpan_1 (.cons xn2 ⟨xkga2, xkgh2, xksb2, xkhd2, xkfc2, xq1, xq2, xkmo2⟩ xiBadSpan_2 (.cons xn3 ⟨xkga3, xkgh3, xksb3, xkhd3, xkfc3, xq1, xq2, xkmo3⟩ xiBadSpan_3 (.cons xn4 ⟨xkga4, xkgh4, xksb4, xkhd4, xkfc4, xq1, xq2, xkmo4⟩ xiBadSpan_4 (.cons xn5 ⟨xkga5, xkgh5, xksb5, xkhd5, xkfc5, xq1, xq2, xkmo5⟩ xiBadSpan_5 (.cons xn6 ⟨xkga6, xkgh6, xksb6, xkhd6, xkfc6, xq1, xq2, xkmo6⟩ xiBadSpan_6 (.cons xn7 ⟨xkga7, xkgh7, xksb7, xkhd7, xkfc7, xq1, xq2, xkmo7⟩ xiBadSpan_7 (.cons xn8 ⟨xkga8, xkgh8, xksb8, xkhd8, xkfc8, xq1, xq2, xkmo8⟩ xiBadSpan_8 (.nil))))))))⟩, ⟨xc_4, xn4, .cons xn1 ⟨xkga1, xkgh1, xksb1, xkhd1, xkfc1, xq1, xq2, xkmo1⟩ xiNoRing_1 (.cons xn2 ⟨xkga2, xkgh2, xksb2, xkhd2, xkfc2, xq1, xq2, xkmo2⟩ xiNoRing_2 (.cons xn3 ⟨xkga3, xkgh3, xksb3, xkhd3, xkfc3, xq1, xq2, xkmo3⟩ xiNoRing_3 (.cons xn4 ⟨xkga4, xkgh4, xksb4, xkhd4, xkfc4, xq1, xq2, xkmo4⟩ xiNoRing_4 (.cons xn5 ⟨xkga5, xkgh5, xksb5, xkhd5, xkfc5, xq1, xq2, xkmo5⟩ xiNoRing_5 (.cons xn6 ⟨xkga6, xkgh6, xksb6, xkhd6, xkfc6, xq1, xq2, xkmo6⟩ xiNoRing_6 (.cons xn7 ⟨xkga7, xkgh7, xksb7, xkhd7, xkfc7, xq1, xq2, xkmo7⟩ xiNoRing_7 (.cons xn8 ⟨xkga8, xkgh8, xksb8, xkhd8, xkfc8, xq1, xq2, xkmo8⟩ xiNoRing_8 (.nil))))))))⟩, ⟨xc_6, xn6, .cons xn1 ⟨xkga1, xkgh1, xksb1, xkhd1, xkfc1, xq1, xq2, xkmo1⟩ xiOutside_1 (.cons xn2 ⟨xkga2, xkgh2, xksb2, xkhd2, xkfc2, xq1, xq2, xkmo2⟩ xiOutside_2 (.cons xn3 ⟨xkga3, xkgh3, xksb3, xkhd3, xkfc3, xq1, xq2, xkmo3⟩ xiOutside_3 (.cons xn4 ⟨xkga4, xkgh4, xksb4, xkhd4, xkfc4, xq1, xq2, xkmo4⟩ xiOutside_4 (.cons xn5 ⟨xkga5, xkgh5, xksb5, xkhd5, xkfc5, xq1, xq2, xkmo5⟩ xiOutside_5 (.cons xn6 ⟨xkga6, xkgh6, xksb6, xkhd6, xkfc6, xq1, xq2, xkmo6⟩ xiOutside_6 (.cons xn7 ⟨xkga7, xkgh7, xksb7, xkhd7, xkfc7, xq1, xq2, xkmo7⟩ xiOutside_7 (.cons xn8 ⟨xkga8, xkgh8, xksb8, xkhd8, xkfc8, xq1, xq2, xkmo8⟩ xiOutside_8 (.nil))))))))⟩, ⟨xc_0, xn0, .cons xn1 ⟨xkga1, xkgh1, xksb1, xkhd1, xkfc1, xq1, xq2, xkmo1⟩ xiSlateError_1 (.cons xn2 ⟨xkga2, xkgh2, xksb2, xkhd2, xkfc2, xq1, xq2, xkmo2⟩ xiSlateError_2 (.cons xn3 ⟨xkga3, xkgh3, xksb3, xkhd3, xkfc3, xq1, xq2, xkmo3⟩ xiSlateError_3 (.cons xn4 ⟨xkga4, xkgh4, xksb4, xkhd4, xkfc4, xq1, xq2, xkmo4⟩ xiSlateError_4 (.cons xn5 ⟨xkga5, xkgh5, xksb5, xkhd5, xkfc5, xq1, xq2, xkmo5⟩ xiSlateError_5 (.cons xn6 ⟨xkga6, xkgh6, xksb6, xkhd6, xkfc6, xq1, xq2, xkmo6⟩ xiSlateError_6 (.cons xn7 ⟨xkga7, xkgh7, xksb7, xkhd7, xkfc7, xq1, xq2, xkmo7⟩ xiSlateError_7 (.cons xn8 ⟨xkga8, xkgh8, xksb8, xkhd8, xkfc8, xq1, xq2, xkmo8⟩ xiSlateError_8 (.nil))))))))⟩, ⟨xc_3, xn3, .cons xn1 ⟨xkga1, xkgh1, xksb1, xkhd1, xkfc1, xq1, xq2, xkmo1⟩ xiTooGreat_1 (.cons xn2 ⟨xkga2, xkgh2, xksb2, xkhd2, xkfc2, xq1, xq2, xkmo2⟩ xiTooGreat_2 (.cons xn3 ⟨xkga3, xkgh3, xksb3, xkhd3, xkfc3, xq1, xq2, xkmo3⟩ xiTooGreat_3 (.cons xn4 ⟨xkga4, xkgh4, xksb4, xkhd4, xkfc4, xq1, xq2, xkmo4⟩ xiTooGreat_4 (.cons xn5 ⟨xkga5, xkgh5, xksb5, xkhd5, xkfc5, xq1, xq2, xkmo5⟩ xiTooGreat_5 (.cons xn6 ⟨xkga6, xkgh6, xksb6, xkhd6, xkfc6, xq1, xq2, xkmo6⟩ xiTooGreat_6 (.cons xn7 ⟨xkga7, xkgh7, xksb7, xkhd7, xkfc7, xq1, xq2, xkmo7⟩ xiTooGreat_7 (.cons xn8 ⟨xkga8, xkgh8, xksb8, xkhd8, xkfc8, xq1, xq2, xkmo8⟩ xiTooGreat_8 (.nil))))))))⟩, .cons xn1 ⟨xkga1, xkgh1, xksb1, xkhd1, xkfc1, xq1, xq2, xkmo1⟩ xiValueError_1 (.cons xn2 ⟨xkga2, xkgh2, xksb2, xkhd2, xkfc2, xq1, xq2, xkmo2⟩ xiValueError_2 (.cons xn3 ⟨xkga3, xkgh3, xksb3, xkhd3, xkfc3, xq1, xq2, xkmo3⟩ xiValueError_3 (.cons xn4 ⟨xkga4, xkgh4, xksb4, xkhd4, xkfc4, xq1, xq2, xkmo4⟩ xiValueError_4 (.cons xn5 ⟨xkga5, xkgh5, xksb5, xkhd5, xkfc5, xq1, xq2, xkmo5⟩ xiValueError_5 (.cons xn6 ⟨xkga6, xkgh6, xksb6, xkhd6, xkfc6, xq1, xq2, xkmo6⟩ xiValueError_6 (.cons xn7 ⟨xkga7, xkgh7, xksb7, xkhd7, xkfc7, xq1, xq2, xkmo7⟩ xiValueError_7 (.cons xn8 ⟨xkga8, xkgh8, xksb8, xkhd8, xkfc8, xq1, xq2, xkmo8⟩ xiValueError_8 (.nil)))))))), fun c hc C hn => by rw [List.mem_singleton] at hc; subst hc; have := (show ExN K _ _ from xn2).symm.trans hn; cases this; exact ⟨xc_2, rfl, ⟨xkga2, xkgh2, xksb2, xkhd2, xkfc2, xq1, xq2, xkmo2⟩, xna⟩⟩
  have F0 := fun_mk (st := top 11) l0 c0 k0
  have b0 := F0.binds (ps := ["_law_script", "_law_k"]) fun _ _ _ _ _ _ us hl => by obtain ⟨_, _, rfl⟩ := ln2 hl; rfl
  have F1 := fun_mk (st := top 13) l1 c1 k1
  have b1 := F1.binds (ps := ["_law_kind", "_law_words"]) fun _ _ _ _ _ _ us hl => by obtain ⟨_, _, rfl⟩ := ln2 hl; rfl
  have F2 := fun_mk (st := top 12) l2 c2 k2
  have b2 := F2.binds (ps := ["_law_found"]) fun _ _ _ _ _ _ us hl => by obtain ⟨_, rfl⟩ := ln1 hl; rfl
  have F3 := fun_mk (st := top 14) l3 c3 k3
  have b3 := F3.binds (ps := ["_law_error"]) fun _ _ _ _ _ _ us hl => by obtain ⟨_, rfl⟩ := ln1 hl; rfl
  have F4 := fun_mk (st := top 15) l4 c4 k4
  have b4 := F4.binds (ps := ["_law_script"]) fun _ _ _ _ _ _ us hl => by obtain ⟨_, rfl⟩ := ln1 hl; rfl
  refine ⟨PySem.W.fnOf "law" "law" (defArgs (top 15)) (defBody (top 15)) (defScope (top 15)) .none kV4 dc4 pm4 an4 cd4 ct4, fun s v => .of_eq rfl, fun base _ _ => ?_⟩
  have XA : ExA K xc_2 xc_0 NA fI := ⟨⟨_, _, _, _, _, _, _, _, _, _, _, _, _, xA2⟩, ⟨_, _, _, _, _, _, _, _, _, _, _, _, _, _, _, _, xA3, nsok_of xA6 rA7, xA8⟩, nsok_of xA4 rA5, xA9, xA10, xA11, xA12, xkga2, xkgh2, xksb2, xA13, xA14, xA15, xA16⟩
  have BF : BFm l.prog w K mg base "BadFormula" := ⟨xc_2, xc_0, NA, fI, _, tkD, XA, xn2, fn_of (k := 0) xA17 xA18 sc_init spI_len fun A outer s H vs Q E hr h => ⟨_, pss_cons (ps_expr (pe_sup XA xn0 rfl (pv 0) (pv 1))) (pss_one (ps_at XA (pv 0) (pv 2))), init_t h⟩,
    fun s us KX hl => by obtain ⟨a, b, rfl⟩ := two_of hl; exact BindsTo.of_defaults rfl (KX _ _ xA19) rfl rfl rfl, fun s us KX hl => by obtain ⟨a, b, c, rfl⟩ := three_of hl; exact BindsTo.of_defaults rfl (KX _ _ xA19) rfl rfl rfl⟩
  have G_q_cell_at := ok_q_cell_at (P := l.prog) (w := w) (base := base) B C BF F0 b0 (PySem.W.mg_of X G a0)
  have G_q_made := ok_q_made (P := l.prog) (w := w) (base := base) B C BF F1 b1 (PySem.W.mg_of X G a1)
  have G_q_whole := ok_q_whole (P := l.prog) (w := w) (base := base) B C BF F2 b2 (PySem.W.mg_of X G a2)
  have G_q_kinds := ok_q_kinds (P := l.prog) (w := w) (base := base) B C BF F3 b3 (PySem.W.mg_of X G a3)
  have G_law := ok_law (P := l.prog) (w := w) (base := base) B C BF G_q_cell_at G_q_made G_q_whole G_q_kinds F4
  exact G_law
theorem walk {l : PySem.W.OpenLaw} {q : Program} {loose : List Str} {XP : (Str → Option Value) → Heap → Prop} {YP : World → Heap → Prop} {d : DefRec} {K : Params → PySem.W.Frag} (hn : l.most = some 63) (hdf : d.params.defaults = [])
    (hY : ∀ (w : World) (h : Heap), YP w h → (K w.params).In h)
    (F : ∀ (w : World) (mg : Str → Option Value) (fa : Addr) (h : Heap), (K w.params).In h → h.Ns mainGlobals mg → mg d.name = some (.ref fa) →
      ∃ fd : FuncData, (∀ (s : Shared) (u : Value), BindsTo s fd ⟨[u], []⟩ [("_law_script", u)]) ∧ ∀ base : Heap, (K w.params).In base → base.Ns mainGlobals mg → FnOk l.prog w (K w.params) mg base (CXA l.prog w) 4 fa fd ["_law_script"] (spM (K w.params) [] r_law))
    (true_ : ∀ ns : List Int, ns.length ≤ 63 → r_law [.lst (ns.map D.int)] = some (.ok (.val (.bl true)), [])) :
    PySem.W.WalkO q loose XP YP l.row.toRowW d [] (fun f vs => PySem.call f vs) :=
  L4.walk_ofL (n := 63) (k := 4) (x := "_law_script") (CX := fun w => CXA l.prog w) (sp := fun w => spM (K w.params) [] r_law) hn (by decide) hdf ⟨rfl, by decide, by decide⟩ hY F
    (fun w H a ns hl _ hS => law_sp (true_ ns hl) hS) fun _ _ _ _ _ z => cxa_no z
end Toy
open PySem PySem.W PyProof.Rows
set_option maxRecDepth 100000 in
set_option maxHeartbeats 0 in
theorem PySem.Challenge.cw_slate_k11_refusals_apart_holds : PySem.Challenge.rw_slate_k11_refusals_apart.Holds := by
  w_on; o_law; k_head; (case hw => w_witness2)
  k_fill
  refine Toy.walk (l := PySem.Challenge.rw_slate_k11_refusals_apart) rfl rfl (fun w h Y => PySem.W.kIn_of Y) ?F Toy.law_true
  case F =>
    intro w mg fa h KX G hmg
    refine' Toy.all_mk KX G hmg ?a0 ?l0 ?c0 ?k0 ?a1 ?l1 ?c1 ?k1 ?a2 ?l2 ?c2 ?k2 ?a3 ?l3 ?c3 ?k3 ?a4 ?l4 ?c4 ?k4 ?z0 ?z1 ?z2 ?z3 ?z4 ?z5 ?xn0 ?xn1 ?xn2 ?xn3 ?xn4 ?xn5 ?xn6 ?xn7 ?xn8 ?xq1 ?xq2 ?xkga1 ?xkgh1 ?xksb1 ?xkhd1 ?xkfc1 ?xkmo1 ?xkga2 ?xkgh2 ?xksb2 ?xkhd2 ?xkfc2 ?xkmo2 ?xkga3 ?xkgh3 ?xksb3 ?xkhd3 ?xkfc3 ?xkmo3 ?xkga4 ?xkgh4 ?xksb4 ?xkhd4 ?xkfc4 ?xkmo4 ?xkga5 ?xkgh5 ?xksb5 ?xkhd5 ?xkfc5 ?xkmo5 ?xkga6 ?xkgh6 ?xksb6 ?xkhd6 ?xkfc6 ?xkmo6 ?xkga7 ?xkgh7 ?xksb7 ?xkhd7 ?xkfc7 ?xkmo7 ?xkga8 ?xkgh8 ?xksb8 ?xkhd8 ?xkfc8 ?xkmo8 ?xe1 ?xp1 ?xe8 ?xp8 ?xe5 ?xp5 ?xe7 ?xp7 ?xe4 ?xp4 ?xe6 ?xp6 ?xe3 ?xp3 ?xiBadFormula_8 ?xiBadFormula_7 ?xiBadFormula_6 ?xiBadFormula_5 ?xiBadFormula_4 ?xiBadFormula_3 ?xiBadFormula_2 ?xiBadFormula_1 ?xiBadPlace_8 ?xiBadPlace_7 ?xiBadPlace_6 ?xiBadPlace_5 ?xiBadPlace_4 ?xiBadPlace_3 ?xiBadPlace_2 ?xiBadPlace_1 ?xiBadRow_8 ?xiBadRow_7 ?xiBadRow_6 ?xiBadRow_5 ?xiBadRow_4 ?xiBadRow_3 ?xiBadRow_2 ?xiBadRow_1 ?xiBadSize_8 ?xiBadSize_7 ?xiBadSize_6 ?xiBadSize_5 ?xiBadSize_4 ?xiBadSize_3 ?xiBadSize_2 ?xiBadSize_1 ?xiBadSpan_8 ?xiBadSpan_7 ?xiBadSpan_6 ?xiBadSpan_5 ?xiBadSpan_4 ?xiBadSpan_3 ?xiBadSpan_2 ?xiBadSpan_1 ?xiNoRing_8 ?xiNoRing_7 ?xiNoRing_6 ?xiNoRing_5 ?xiNoRing_4 ?xiNoRing_3 ?xiNoRing_2 ?xiNoRing_1 ?xiOutside_8 ?xiOutside_7 ?xiOutside_6 ?xiOutside_5 ?xiOutside_4 ?xiOutside_3 ?xiOutside_2 ?xiOutside_1 ?xiSlateError_8 ?xiSlateError_7 ?xiSlateError_6 ?xiSlateError_5 ?xiSlateError_4 ?xiSlateError_3 ?xiSlateError_2 ?xiSlateError_1 ?xiTooGreat_8 ?xiTooGreat_7 ?xiTooGreat_6 ?xiTooGreat_5 ?xiTooGreat_4 ?xiTooGreat_3 ?xiTooGreat_2 ?xiTooGreat_1 ?xiValueError_8 ?xiValueError_7 ?xiValueError_6 ?xiValueError_5 ?xiValueError_4 ?xiValueError_3 ?xiValueError_2 ?xiValueError_1 ?xna ?xA2 ?xA3 ?xA4 ?rA5 ?xA6 ?rA7 ?xA8 ?xA9 ?xA10 ?xA11 ?xA12 ?xA13 ?xA14 ?xA15 ?xA16 ?xA17 ?xA18 ?xA19
    (case a0 => k_is)
    (case l0 => k_is)
    (case c0 => k_is)
    (case k0 => k_is)
    (case a1 => k_is)
    (case l1 => k_is)
    (case c1 => k_is)
    (case k1 => k_is)
    (case a2 => k_is)
    (case l2 => k_is)
    (case c2 => k_is)
    (case k2 => k_is)
    (case a3 => k_is)
    (case l3 => k_is)
    (case c3 => k_is)
    (case k3 => k_is)
    (case a4 => k_is)
    (case l4 => k_is)
    (case c4 => k_is)
    (case k4 => k_is)
    (case z0 => k_is)
    (case z1 => k_is)
    (case z2 => k_is)
    (case z3 => k_is)
    (case z4 => k_is)
    (case z5 => k_is)
    (case xn0 => k_is)
    (case xn1 => k_is)
    (case xn2 => k_is)
    (case xn3 => k_is)
    (case xn4 => k_is)
    (case xn5 => k_is)
    (case xn6 => k_is)
    (case xn7 => k_is)
    (case xn8 => k_is)
    (case xq1 => k_is)
    (case xq2 => k_is)
    (case xkga1 => k_is)
    (case xkgh1 => k_is)
    (case xksb1 => k_is)
    (case xkhd1 => k_is)
    (case xkfc1 => k_is)
    (case xkmo1 => k_is)
    (case xkga2 => k_is)
    (case xkgh2 => k_is)
    (case xksb2 => k_is)
    (case xkhd2 => k_is)
    (case xkfc2 => k_is)
    (case xkmo2 => k_is)
    (case xkga3 => k_is)
    (case xkgh3 => k_is)
    (case xksb3 => k_is)
    (case xkhd3 => k_is)
    (case xkfc3 => k_is)
    (case xkmo3 => k_is)
    (case xkga4 => k_is)
    (case xkgh4 => k_is)
    (case xksb4 => k_is)
    (case xkhd4 => k_is)
    (case xkfc4 => k_is)
    (case xkmo4 => k_is)
    (case xkga5 => k_is)
    (case xkgh5 => k_is)
    (case xksb5 => k_is)
    (case xkhd5 => k_is)
    (case xkfc5 => k_is)
    (case xkmo5 => k_is)
    (case xkga6 => k_is)
    (case xkgh6 => k_is)
    (case xksb6 => k_is)
    (case xkhd6 => k_is)
    (case xkfc6 => k_is)
    (case xkmo6 => k_is)
    (case xkga7 => k_is)
    (case xkgh7 => k_is)
    (case xksb7 => k_is)
    (case xkhd7 => k_is)
    (case xkfc7 => k_is)
    (case xkmo7 => k_is)
    (case xkga8 => k_is)
    (case xkgh8 => k_is)
    (case xksb8 => k_is)
    (case xkhd8 => k_is)
    (case xkfc8 => k_is)
    (case xkmo8 => k_is)
    (case xe1 => k_exc)
    (case xp1 => k_is)
    (case xe8 => k_exc)
    (case xp8 => k_is)
    (case xe5 => k_exc)
    (case xp5 => k_is)
    (case xe7 => k_exc)
    (case xp7 => k_is)
    (case xe4 => k_exc)
    (case xp4 => k_is)
    (case xe6 => k_exc)
    (case xp6 => k_is)
    (case xe3 => k_exc)
    (case xp3 => k_is)
    (case xiBadFormula_8 => kit_is)
    (case xiBadFormula_7 => kit_is)
    (case xiBadFormula_6 => kit_is)
    (case xiBadFormula_5 => kit_is)
    (case xiBadFormula_4 => kit_is)
    (case xiBadFormula_3 => kit_is)
    (case xiBadFormula_2 => kit_is)
    (case xiBadFormula_1 => kit_is)
    (case xiBadPlace_8 => kit_is)
    (case xiBadPlace_7 => kit_is)
    (case xiBadPlace_6 => kit_is)
    (case xiBadPlace_5 => kit_is)
    (case xiBadPlace_4 => kit_is)
    (case xiBadPlace_3 => kit_is)
    (case xiBadPlace_2 => kit_is)
    (case xiBadPlace_1 => kit_is)
    (case xiBadRow_8 => kit_is)
    (case xiBadRow_7 => kit_is)
    (case xiBadRow_6 => kit_is)
    (case xiBadRow_5 => kit_is)
    (case xiBadRow_4 => kit_is)
    (case xiBadRow_3 => kit_is)
    (case xiBadRow_2 => kit_is)
    (case xiBadRow_1 => kit_is)
    (case xiBadSize_8 => kit_is)
    (case xiBadSize_7 => kit_is)
    (case xiBadSize_6 => kit_is)
    (case xiBadSize_5 => kit_is)
    (case xiBadSize_4 => kit_is)
    (case xiBadSize_3 => kit_is)
    (case xiBadSize_2 => kit_is)
    (case xiBadSize_1 => kit_is)
    (case xiBadSpan_8 => kit_is)
    (case xiBadSpan_7 => kit_is)
    (case xiBadSpan_6 => kit_is)
    (case xiBadSpan_5 => kit_is)
    (case xiBadSpan_4 => kit_is)
    (case xiBadSpan_3 => kit_is)
    (case xiBadSpan_2 => kit_is)
    (case xiBadSpan_1 => kit_is)
    (case xiNoRing_8 => kit_is)
    (case xiNoRing_7 => kit_is)
    (case xiNoRing_6 => kit_is)
    (case xiNoRing_5 => kit_is)
    (case xiNoRing_4 => kit_is)
    (case xiNoRing_3 => kit_is)
    (case xiNoRing_2 => kit_is)
    (case xiNoRing_1 => kit_is)
    (case xiOutside_8 => kit_is)
    (case xiOutside_7 => kit_is)
    (case xiOutside_6 => kit_is)
    (case xiOutside_5 => kit_is)
    (case xiOutside_4 => kit_is)
    (case xiOutside_3 => kit_is)
    (case xiOutside_2 => kit_is)
    (case xiOutside_1 => kit_is)
    (case xiSlateError_8 => kit_is)
    (case xiSlateError_7 => kit_is)
    (case xiSlateError_6 => kit_is)
    (case xiSlateError_5 => kit_is)
    (case xiSlateError_4 => kit_is)
    (case xiSlateError_3 => kit_is)
    (case xiSlateError_2 => kit_is)
    (case xiSlateError_1 => kit_is)
    (case xiTooGreat_8 => kit_is)
    (case xiTooGreat_7 => kit_is)
    (case xiTooGreat_6 => kit_is)
    (case xiTooGreat_5 => kit_is)
    (case xiTooGreat_4 => kit_is)
    (case xiTooGreat_3 => kit_is)
    (case xiTooGreat_2 => kit_is)
    (case xiTooGreat_1 => kit_is)
    (case xiValueError_8 => kit_is)
    (case xiValueError_7 => kit_is)
    (case xiValueError_6 => kit_is)
    (case xiValueError_5 => kit_is)
    (case xiValueError_4 => kit_is)
    (case xiValueError_3 => kit_is)
    (case xiValueError_2 => kit_is)
    (case xiValueError_1 => kit_is)
    (case xna => k_is)
    (case xA2 => k_is)
    (case xA3 => k_is)
    (case xA4 => k_is)
    (case rA5 => rfl)
    (case xA6 => k_is)
    (case rA7 => rfl)
    (case xA8 => k_is)
    (case xA9 => k_is)
    (case xA10 => k_is)
    (case xA11 => k_is)
    (case xA12 => k_is)
    (case xA13 => k_is)
    (case xA14 => k_is)
    (case xA15 => k_is)
    (case xA16 => k_is)
    (case xA17 => k_is)
    (case xA18 => k_is)
    (case xA19 => k_is)
