import PyProof.Rows.All
import Wide.All
import OpenK.AllK
import Wide.FinOn
import PyProof.EqAt
import PyProof.EqKinds
import PyProof.TupleCall
import PyProof.NeData
import PyProof.P3In
import PySem.Challenge.RW_slate_k32_formulas_come
set_option Elab.async false
set_option linter.all false
set_option maxRecDepth 100000

namespace L2
open PySem PySem.Spec PyProof.Rows

abbrev Key := Sum Int Str
def keyIs : Key → Value → Bool
  | .inl k, v => Value.isInt k v
  | .inr x, v => Value.isStrOf x v
def keyH (w : World) : Key → Int
  | .inl k => hashInt k
  | .inr x => hashStr w x
theorem keyIs_shape : ∀ {k : Key} {v : Value}, keyIs k v = true → (∃ i t, k = Sum.inl i ∧ v = Value.int i t) ∨ (∃ x t, k = Sum.inr x ∧ v = Value.str x t)
  | .inl i, v, h => by
    obtain ⟨t, e⟩ := Value.isInt_shape (k := i) (v := v) h
    exact .inl ⟨i, t, rfl, e⟩
  | .inr x, v, h => by
    obtain ⟨t, e⟩ := Value.isStrOf_shape (x := x) (v := v) h
    exact .inr ⟨x, t, rfl, e⟩
theorem key_ll (a b : Int) : decide ((Sum.inl a : Key) = Sum.inl b) = (a == b) := by
  by_cases e : a = b
  · subst e; simp
  · have h : ¬ (Sum.inl a : Key) = Sum.inl b := fun q => e (Sum.inl.inj q)
    rw [decide_eq_false h]
    exact (beq_eq_false_iff_ne.mpr e).symm
theorem key_rr (a b : Str) : decide ((Sum.inr a : Key) = Sum.inr b) = decide (a = b) := by
  by_cases e : a = b
  · subst e; simp
  · have h : ¬ (Sum.inr a : Key) = Sum.inr b := fun q => e (Sum.inr.inj q)
    rw [decide_eq_false h, decide_eq_false e]
theorem key_lr (a : Int) (b : Str) : decide ((Sum.inl a : Key) = Sum.inr b) = false := decide_eq_false (fun q => nomatch q)
theorem key_rl (a : Str) (b : Int) : decide ((Sum.inr a : Key) = Sum.inl b) = false := decide_eq_false (fun q => nomatch q)

def mixKind (prog : Program) (w : World) : PySem.KeyKind prog w Key where
  is := keyIs
  hash := keyH w
  inj := fun v a b ha hb => by
    rcases keyIs_shape ha with ⟨i, t, rfl, rfl⟩ | ⟨x, t, rfl, rfl⟩
    · rcases keyIs_shape hb with ⟨j, u, rfl, e⟩ | ⟨y, u, rfl, e⟩
      · injection e with e1 _; rw [e1]
      · exact nomatch e
    · rcases keyIs_shape hb with ⟨j, u, rfl, e⟩ | ⟨y, u, rfl, e⟩
      · exact nomatch e
      · injection e with e1 _; rw [e1]
  byValue := fun k v h => by
    rcases keyIs_shape h with ⟨i, t, rfl, rfl⟩ | ⟨x, t, rfl, rfl⟩ <;> rfl
  pyHash := fun hv h => by
    rcases keyIs_shape hv with ⟨i, t, rfl, rfl⟩ | ⟨x, t, rfl, rfl⟩
    · exact wpAny_pyHash_int h
    · exact wpAny_pyHash_str h
  eqBool := fun hu hv h => by
    rcases keyIs_shape hu with ⟨i, t, rfl, rfl⟩ | ⟨x, t, rfl, rfl⟩
    · rcases keyIs_shape hv with ⟨j, u, rfl, rfl⟩ | ⟨y, u, rfl, rfl⟩
      · rw [key_ll] at h; exact wpAny_eqBool_int h
      · rw [key_lr] at h; exact SeqAt.EqAt.int_str i t y u _ _ _ _ h
    · rcases keyIs_shape hv with ⟨j, u, rfl, rfl⟩ | ⟨y, u, rfl, rfl⟩
      · rw [key_rl] at h; exact SeqAt.EqAt.str_int x t j u _ _ _ _ h
      · rw [key_rr] at h; exact wpAny_eqBool_str h
  «strs» := fun k x t v h => by
    rcases keyIs_shape h with ⟨i, u, rfl, e⟩ | ⟨y, u, rfl, e⟩
    · exact nomatch e
    · injection e with e1 _
      subst e1
      cases v <;> rfl

end L2

namespace L2
open PySem PySem.Spec PyProof.Rows

inductive V where
  | non | bl (b : Bool) | int (i : Int) | str (x : Str) | byt (b : Array UInt8) | flt (b : UInt64) | ref (a : Addr) | ty (n : String)
  deriving DecidableEq

def RelV : V → Value → Prop
  | .non, u => u = Value.none
  | .bl b, u => u = Value.bool b
  | .int i, u => ∃ t, u = Value.int i t
  | .str x, u => ∃ t, u = Value.str x t
  | .byt b, u => ∃ t, u = Value.bytes b t
  | .flt b, u => ∃ t, u = Value.float b t
  | .ref a, u => u = Value.ref a
  | .ty n, u => u = Value.type n

abbrev Vals : List V → List Value → Prop := Paired RelV
theorem Vals.length {xs : List V} {us : List Value} (r : Vals xs us) : xs.length = us.length := Paired.length r
theorem Vals.get : ∀ {xs : List V} {us : List Value} {i : Nat} {x : V}, Vals xs us → xs[i]? = some x → ∃ u, us[i]? = some u ∧ RelV x u
  | _, _, _, _, .nil, e => by simp at e
  | _, _, 0, _, .cons r _, e => by simp at e; subst e; exact ⟨_, rfl, r⟩
  | _, _, i + 1, x, .cons _ t, e => by
    obtain ⟨u, h1, h2⟩ := Vals.get (i := i) (x := x) t (by simpa using e)
    exact ⟨u, by simpa using h1, h2⟩
theorem Vals.set {x : V} {u : Value} (r : RelV x u) : ∀ {xs : List V} {us : List Value} (i : Nat), Vals xs us → Vals (xs.set i x) (us.set i u)
  | _, _, _, .nil => .nil
  | _, _, 0, .cons _ t => .cons r t
  | _, _, i + 1, .cons q t => .cons q (Vals.set r i t)
theorem Vals.append : ∀ {xs ys : List V} {us ws : List Value}, Vals xs us → Vals ys ws → Vals (xs ++ ys) (us ++ ws)
  | _, _, _, _, .nil, s => s
  | _, _, _, _, .cons r t, s => .cons r (Vals.append t s)
theorem Vals.take : ∀ {xs : List V} {us : List Value} (n : Nat), Vals xs us → Vals (xs.take n) (us.take n)
  | _, _, 0, _ => .nil
  | _, _, _ + 1, .nil => .nil
  | _, _, n + 1, .cons r t => .cons r (Vals.take n t)
theorem Vals.drop : ∀ {xs : List V} {us : List Value} (n : Nat), Vals xs us → Vals (xs.drop n) (us.drop n)
  | _, _, 0, r => r
  | _, _, _ + 1, .nil => .nil
  | _, _, n + 1, .cons _ t => Vals.drop n t
def RelO : Option V → Option Value → Prop
  | some v, some u => RelV v u
  | none, none => True
  | _, _ => False
def KV {κ : Type} : List (κ × V) → List (κ × Value) → Prop := Paired fun (p : κ × V) (q : κ × Value) => p.1 = q.1 ∧ RelV p.2 q.2

def kV : Key → V
  | .inl i => .int i
  | .inr x => .str x

inductive HO where
  /-- a list -/
  | lst (xs : List V)
  /-- a tuple (never changes) -/
  | tup (xs : List V)
  /-- a dict whose keys are ints and texts; one whose keys are tuples of ints and texts (the empty one is both) -/
  | dK (kvs : List (Key × V)) | dT (kvs : List (List Key × V))
  /-- a set of ints: its members, its size -/
  | set (S : Int → Bool) (n : Nat)
  /-- an instance of the class at C, its dict at dx, its attributes -/
  | ins (C dx : Addr) (fs : List (Str × V))
  /-- the dict of the instance at x -/
  | own (x : Addr)
  /-- the dict of an exception -/
  | xd (fs : List (Str × V))
  /-- a bound method, f of x -/
  | met (f x : Addr)
  /-- a range object lo, lo + 1, .. below hi -/
  | rng (lo hi : Int)
  /-- a thing that is known to the object (the script; a dict while a loop walks it): read, never written while it is so -/
  | frz (o : Obj) (u : HO)
  /-- a code object's table -/
  | tbl (ps : Array Value)
  /-- any other thing, by what is true of its one object (a def of one's own: SetO a S n := HO.ext fun h => ..) -/
  | ext (φ : Heap → Prop)

abbrev Hp := Addr → Option HO
def upd (H : Hp) (a : Addr) (o : HO) : Hp := fun b => if b = a then some o else H b
theorem upd_same {H : Hp} {a : Addr} {o : HO} : upd H a o a = some o := by unfold upd; rw [if_pos rfl]
theorem upd_ne {H : Hp} {a b : Addr} {o : HO} (h : b ≠ a) : upd H a o b = H b := by unfold upd; rw [if_neg h]
theorem ne_of_none {H : Hp} {a b : Addr} {o : HO} (h : H a = some o) (h' : H b = none) : a ≠ b := by
  intro e; subst e; rw [h] at h'; cases h'

section
variable (P : Program) (w : World)
def ObjOk (H : Hp) (h : Heap) (a : Addr) : HO → Prop
  | .lst xs => xs.length ≤ sizeLine ∧ ∃ (its : List Value) (n : Nat), Vals xs its ∧ h.get? a = some { cls := .type "list", data := .seq its.toArray n }
  | .tup xs => xs.length ≤ sizeLine ∧ ∃ its : List Value, Vals xs its ∧ IsTup h a its.toArray
  | .dK kvs => kvs.length ≤ sizeLine ∧ (a == sysModules) = false ∧ ∃ vs, KV kvs vs ∧ h.DictOf (mixKind P w) a vs
  | .dT kvs => kvs.length ≤ sizeLine ∧ (a == sysModules) = false ∧ ∃ xs : List (List Key × Addr × Value),
      Paired (fun (p : List Key × V) (q : List Key × Addr × Value) => p.1 = q.1 ∧ H q.2.1 = some (.tup (p.1.map kV)) ∧ RelV p.2 q.2.2) kvs xs ∧
      ∃ o es ep, h.get? a = some o ∧ o.ExactDict ∧ o.data = .dict es ep ∧ es.toList = xs.map (entryOfKey (tupleKind (mixKind P w))) ∧ (xs.map (·.1)).Nodup
  | .set S n => h.SetOf (intKind P w) a S n
  | .ins C dx fs => H dx = some (.own a) ∧ fs.length ≤ 1000 ∧ dx ≠ a ∧ h.get? a = some (PySem.W.instObj C dx) ∧
      ∃ mA, h.Ns1 dx mA ∧ (∀ f, RelO (fs.lookup f) (mA f)) ∧ PySem.Within mA (fs.map (·.1))
  | .own _ => ∃ o, h.get? a = some o
  | .xd fs => ∃ mA, h.Ns1 a mA ∧ ∀ f, RelO (fs.lookup f) (mA f)
  | .rng lo hi => ∃ t u v, h.get? a = some { cls := .type "range", data := .fields #[.int lo t, .int hi u, .int 1 v] }
  | .frz o u => h.get? a = some o ∧ ObjOk H h a u
  | .tbl ps => h.get? a = some { cls := .none, data := .fields ps }
  | .met f x => h.get? a = some (PySem.W.methodObj (.ref f) (.ref x))
  | .ext φ => φ h ∧ (∃ o, h.get? a = some o) ∧ ∀ h1 h2 : Heap, φ h1 → (∀ o, h1.get? a = some o → h2.get? a = some o) → φ h2
def HOk (H : Hp) (h : Heap) : Prop := ∀ a o, H a = some o → ObjOk P w H h a o
end

section
variable {P : Program} {w : World} {H H' : Hp} {h h' : Heap} {a : Addr} {o : HO}
theorem ObjOk.lt (x : ObjOk P w H h a o) : a < h.objs.size := by
  cases o with
  | lst xs => obtain ⟨_, _, _, _, e⟩ := x; exact Heap.lt_size e
  | tup xs => obtain ⟨_, _, _, p⟩ := x; exact p.lt
  | dK kvs => obtain ⟨_, _, _, _, o, _, _, e, _⟩ := x; exact Heap.lt_size e
  | dT kvs => obtain ⟨_, _, _, _, o, _, _, e, _⟩ := x; exact Heap.lt_size e
  | set S n => obtain ⟨o, _, _, _, e, _⟩ := x; exact Heap.lt_size e
  | ins C dx fs => obtain ⟨_, _, _, e, _⟩ := x; exact Heap.lt_size e
  | own y => obtain ⟨_, e⟩ := x; exact Heap.lt_size e
  | xd fs => obtain ⟨_, ⟨_, _, _, e, _⟩, _⟩ := x; exact Heap.lt_size e
  | rng lo hi => obtain ⟨_, _, _, e⟩ := x; exact Heap.lt_size e
  | frz ob u => obtain ⟨e, _⟩ := x; exact Heap.lt_size e
  | tbl ps => exact Heap.lt_size (show h.get? a = some _ from x)
  | met f y => exact Heap.lt_size (show h.get? a = some _ from x)
  | ext φ => obtain ⟨_, ⟨_, e⟩, _⟩ := x; exact Heap.lt_size e
theorem Paired.mapP {α β : Type} {F G : α → β → Prop} : ∀ {l₁ : List α} {l₂ : List β}, Paired F l₁ l₂ → (∀ a b, F a b → G a b) → Paired G l₁ l₂
  | _, _, .nil, _ => .nil
  | _, _, .cons r t, f => .cons (f _ _ r) (Paired.mapP t f)
theorem ObjOk.stay (x : ObjOk P w H h a o) (k : ∀ b u, (b = a ∨ H b = some (.own a)) → h.get? b = some u → h'.get? b = some u)
    (ho : ∀ b, H b = some (.own a) → H' b = some (.own a)) (ht : ∀ b xs, H b = some (.tup xs) → H' b = some (.tup xs)) : ObjOk P w H' h' a o := by
  induction o with
  | lst xs => obtain ⟨z, its, n, r, e⟩ := x; exact ⟨z, its, n, r, k _ _ (.inl rfl) e⟩
  | tup xs => obtain ⟨z, its, r, ob, e, c⟩ := x; exact ⟨z, its, r, ob, k _ _ (.inl rfl) e, c⟩
  | dK kvs => obtain ⟨z, y, vs, r, ob, es, ep, e, c⟩ := x; exact ⟨z, y, vs, r, ob, es, ep, k _ _ (.inl rfl) e, c⟩
  | dT kvs =>
    obtain ⟨z, y, xs, r, ob, es, ep, e, c⟩ := x
    exact ⟨z, y, xs, Paired.mapP r fun p q z => ⟨z.1, ht _ _ z.2.1, z.2.2⟩, ob, es, ep, k _ _ (.inl rfl) e, c⟩
  | set S n => obtain ⟨ob, es, ep, t, e, c⟩ := x; exact ⟨ob, es, ep, t, k _ _ (.inl rfl) e, c⟩
  | ins C dx fs =>
    obtain ⟨d, z, ne, e, mA, ⟨od, es, ep, e2, c⟩, r⟩ := x
    exact ⟨ho _ d, z, ne, k _ _ (.inl rfl) e, mA, ⟨od, es, ep, k _ _ (.inr d) e2, c⟩, r⟩
  | own y => obtain ⟨ob, e⟩ := x; exact ⟨ob, k _ _ (.inl rfl) e⟩
  | xd fs => obtain ⟨mA, ⟨od, es, ep, e, c⟩, r⟩ := x; exact ⟨mA, ⟨od, es, ep, k _ _ (.inl rfl) e, c⟩, r⟩
  | rng lo hi => obtain ⟨t, u, v, e⟩ := x; exact ⟨t, u, v, k _ _ (.inl rfl) e⟩
  | frz ob u ih => obtain ⟨e, q⟩ := x; exact ⟨k _ _ (.inl rfl) e, ih q⟩
  | tbl ps =>
    have e : h.get? a = some { cls := .none, data := .fields ps } := x
    show h'.get? a = some { cls := .none, data := .fields ps }
    exact k a _ (.inl rfl) e
  | met f y =>
    have e : h.get? a = some (PySem.W.methodObj (.ref f) (.ref y)) := x
    show h'.get? a = some (PySem.W.methodObj (.ref f) (.ref y))
    exact k a _ (.inl rfl) e
  | ext φ => obtain ⟨p, ⟨o, e⟩, st⟩ := x; exact ⟨st _ _ p fun o q => k _ _ (.inl rfl) q, ⟨o, k _ _ (.inl rfl) e⟩, st⟩
theorem HOk.lt (x : HOk P w H h) (e : H a = some o) : a < h.objs.size := (x a o e).lt
theorem HOk.fresh (x : HOk P w H h) (e : h.objs.size ≤ a) : H a = none := by
  cases q : H a with
  | none => rfl
  | some u => exact absurd (Nat.lt_of_lt_of_le (x.lt q) e) (Nat.lt_irrefl _)
theorem HOk.kept (x : HOk P w H h) (k : ∀ b u, h.get? b = some u → h'.get? b = some u) : HOk P w H h' := fun a o e =>
  (x a o e).stay (fun b u _ q => k b u q) (fun _ q => q) fun _ _ q => q
theorem HOk.laid (x : HOk P w H h) (k : ∀ b u, h.get? b = some u → h'.get? b = some u) (hp : h.objs.size ≤ a) (new : ObjOk P w (upd H a o) h' a o) : HOk P w (upd H a o) h' := fun b u e => by
  have hn := x.fresh hp
  by_cases hb : b = a
  · subst hb; rw [upd_same] at e; cases e; exact new
  · rw [upd_ne hb] at e
    exact (x b u e).stay (fun c v _ q => k c v q) (fun c q => by rw [upd_ne (ne_of_none q hn)]; exact q) fun c xs q => by rw [upd_ne (ne_of_none q hn)]; exact q
end

def Rd (H : Hp) (a : Addr) (u : HO) : Prop := H a = some u ∨ ∃ o, H a = some (.frz o u)
theorem Rd.of {H : Hp} {a : Addr} {u : HO} (h : H a = some u) : Rd H a u := .inl h
theorem Rd.ok {P : Program} {w : World} {H : Hp} {h : Heap} {a : Addr} {u : HO} (r : Rd H a u) (x : HOk P w H h) : ObjOk P w H h a u := by
  rcases r with r | ⟨o, r⟩
  · exact x a u r
  · obtain ⟨_, q⟩ := x a _ r
    exact q
def Mut : Option HO → Prop
  | some (.lst _) => True
  | some (.dK _) => True
  | some (.dT _) => True
  | some (.set _ _) => True
  | some (.ins _ _ _) => True
  | some (.ext _) => True
  | _ => False
section
variable {P : Program} {w : World} {H : Hp} {h h' : Heap} {x e : Addr} {o' : HO}
theorem HOk.write (ok : HOk P w H h) (mu : Mut (H x)) (he : e = x ∨ H e = some (.own x)) (k : ∀ b u, b ≠ e → h.get? b = some u → h'.get? b = some u) (heo : ∃ u, h'.get? e = some u)
    (new : ObjOk P w (upd H x o') h' x o') : HOk P w (upd H x o') h' := fun b u q => by
  have nown : ∀ c y, H c = some (.own y) → c ≠ x := fun c y r z => by subst z; rw [r] at mu; exact mu
  have ntup : ∀ c xs, H c = some (.tup xs) → c ≠ x := fun c xs r z => by subst z; rw [r] at mu; exact mu
  by_cases hb : b = x
  · subst hb; rw [upd_same] at q; cases q; exact new
  · rw [upd_ne hb] at q
    by_cases hbe : b = e
    · have q' : H b = some (.own x) := by
        rcases he with z | z
        · exact absurd (hbe.trans z) hb
        · rw [hbe]; exact z
      rw [q] at q'; cases q'
      obtain ⟨v, hv⟩ := heo
      exact ⟨v, by rw [hbe]; exact hv⟩
    · refine (ok b u q).stay (fun c v hc r => k c v ?_ r) (fun c r => by rw [upd_ne (nown c b r)]; exact r) fun c xs r => by rw [upd_ne (ntup c xs r)]; exact r
      rcases hc with rfl | hc
      · exact hbe
      · rintro rfl
        rcases he with z | z
        · exact nown c b hc z
        · rw [hc] at z; cases z; exact hb rfl
end

/-! ### kept unless tracked; of the frames at fs (the callers') the slots may change (an exception that passes writes there); of the records at ex (iterators) nothing is said -/
structure Un (fs ex : List Addr) (H H' : Hp) (h h' : Heap) : Prop where
  keep : ∀ b o, h.get? b = some o → H b = none → b ∉ fs → b ∉ ex → h'.get? b = some o
  slot : ∀ b o, h.get? b = some o → H b = none → b ∈ fs → b ∉ ex → ∃ sl, h'.get? b = some { o with slots := sl }
  free : ∀ b o, h.get? b = some o → H b = none → b ∉ ex → H' b = none
  there : ∀ b o, h.get? b = some o → b ∉ ex → ∃ o', h'.get? b = some o'
  tups : ∀ b xs, H b = some (.tup xs) → H' b = some (.tup xs)
  frzs : ∀ b o u, H b = some (.frz o u) → H' b = some (.frz o u)
  tbls : ∀ b ps, H b = some (.tbl ps) → ∃ more, H' b = some (.tbl (ps ++ more))
section
variable {fs fs' ex ex' : List Addr} {H H1 H2 : Hp} {h h1 h2 h' : Heap} {a x e : Addr} {o : HO}
theorem Un.any (u : Un fs ex H H1 h h1) {b : Addr} {ob : Obj} (q : h.get? b = some ob) (n : H b = none) (hx : b ∉ ex) : ∃ sl, h1.get? b = some { ob with slots := sl } := by
  by_cases hb : b ∈ fs
  · exact u.slot b ob q n hb hx
  · exact ⟨ob.slots, u.keep b ob q n hb hx⟩
theorem Un.trans (a : Un fs ex H H1 h h1) (b : Un fs ex H1 H2 h1 h2) : Un fs ex H H2 h h2 where
  keep := fun c ob q n hc hx => b.keep c ob (a.keep c ob q n hc hx) (a.free c ob q n hx) hc hx
  slot := fun c ob q n hc hx => by
    obtain ⟨sl, e1⟩ := a.slot c ob q n hc hx
    obtain ⟨sl', e2⟩ := b.slot c _ e1 (a.free c ob q n hx) hc hx
    exact ⟨sl', e2⟩
  free := fun c ob q n hx => by
    obtain ⟨o', e1⟩ := a.there c ob q hx
    exact b.free c o' e1 (a.free c ob q n hx) hx
  there := fun c ob q hx => by
    obtain ⟨o', e1⟩ := a.there c ob q hx
    exact b.there c o' e1 hx
  tups := fun c xs q => b.tups c xs (a.tups c xs q)
  frzs := fun c ob xs q => b.frzs c ob xs (a.frzs c ob xs q)
  tbls := fun c ps q => by
    obtain ⟨m1, e1⟩ := a.tbls c ps q
    obtain ⟨m2, e2⟩ := b.tbls c _ e1
    exact ⟨m1 ++ m2, by rw [e2, Array.append_assoc]⟩
theorem Un.kept (k : ∀ b u, h.get? b = some u → h'.get? b = some u) : Un fs ex H H h h' :=
  ⟨fun b ob q _ _ _ => k b ob q, fun b ob q _ _ _ => ⟨ob.slots, k b ob q⟩, fun _ _ _ n _ => n, fun b ob q _ => ⟨ob, k b ob q⟩, fun _ _ q => q, fun _ _ _ q => q, fun _ ps q => ⟨#[], by rw [q]; simp⟩⟩
theorem Un.refl : Un fs ex H H h h := Un.kept fun _ _ q => q
theorem Un.laid (k : ∀ b u, h.get? b = some u → h'.get? b = some u) (hp : h.objs.size ≤ a) (hn : H a = none) : Un fs ex H (upd H a o) h h' where
  keep := fun b u q _ _ _ => k b u q
  slot := fun b u q _ _ _ => ⟨u.slots, k b u q⟩
  free := fun b u q n _ => by rw [upd_ne (Nat.ne_of_lt (Nat.lt_of_lt_of_le (Heap.lt_size q) hp))]; exact n
  there := fun b u q _ => ⟨u, k b u q⟩
  tups := fun b xs q => by rw [upd_ne (ne_of_none q hn)]; exact q
  frzs := fun b u xs q => by rw [upd_ne (ne_of_none q hn)]; exact q
  tbls := fun b ps q => ⟨#[], by rw [upd_ne (ne_of_none q hn), q]; simp⟩
theorem Un.write (mu : Mut (H x)) (he : e = x ∨ H e = some (.own x)) (k : ∀ b u, b ≠ e → h.get? b = some u → h'.get? b = some u) (heo : ∃ u, h'.get? e = some u) : Un fs ex H (upd H x o) h h' := by
  have hx : ∀ b, H b = none → b ≠ x := fun b n z => by subst z; rw [n] at mu; exact mu
  have hb : ∀ b, H b = none → b ≠ e := fun b n z => by
    subst z
    rcases he with r | r
    · exact hx b n r
    · rw [n] at r; cases r
  have hm : ∀ b u, H b = some u → ¬ Mut (some u) → b ≠ x := fun b u q nm z => by subst z; rw [q] at mu; exact nm mu
  refine ⟨fun b u q n _ _ => k b u (hb b n) q, fun b u q n _ _ => ⟨u.slots, k b u (hb b n) q⟩, fun b u q n _ => by rw [upd_ne (hx b n)]; exact n, fun b u q _ => ?_,
    fun b xs q => by rw [upd_ne (hm b _ q fun z => z)]; exact q, fun b u xs q => by rw [upd_ne (hm b _ q fun z => z)]; exact q, fun b ps q => ⟨#[], by rw [upd_ne (hm b _ q fun z => z), q]; simp⟩⟩
  by_cases hbe : b = e
  · subst hbe; exact heo
  · exact ⟨u, k b u hbe q⟩
theorem Un.mono (u : Un fs ex H H1 h h1) (hs : ∀ b ∈ fs, b ∈ fs') (hx : ∀ b ∈ ex, b ∈ ex') : Un fs' ex' H H1 h h1 :=
  ⟨fun b ob q n hb he => u.keep b ob q n (fun z => hb (hs b z)) fun z => he (hx b z), fun _ _ q n _ he => u.any q n fun z => he (hx _ z), fun b ob q n he => u.free b ob q n fun z => he (hx b z), fun b ob q he => u.there b ob q fun z => he (hx b z), u.tups, u.frzs, u.tbls⟩
end

/-! ### the heap without what is tracked -/
def trk (h : Heap) (H : Hp) : List Addr := (List.range h.objs.size).filter fun a => (H a).isSome
def hidT (h : Heap) (H : Hp) : Heap := PySem.W.hideAll h (trk h H)
theorem hidT_size (h : Heap) (H : Hp) : (hidT h H).objs.size = h.objs.size := PySem.W.hideAll_size _ _
theorem hidT_get {h : Heap} {H : Hp} {b : Addr} {o : Obj} (e : h.get? b = some o) (n : H b = none) : (hidT h H).get? b = some o :=
  PySem.W.hideAll_get _ e fun hm => by
    have q : (H b).isSome = true := (List.mem_filter.mp hm).2
    rw [n] at q; simp at q
theorem of_hidT {h : Heap} {H : Hp} {b : Addr} {o : Obj} (e : (hidT h H).get? b = some o) : h.get? b = some o ∧ H b = none := by
  have e' : h.get? b = some o := PySem.W.of_hideAll (trk h H) e
  refine ⟨e', ?_⟩
  cases q : H b with
  | none => rfl
  | some x =>
    have hm : b ∈ trk h H := List.mem_filter.mpr ⟨List.mem_range.mpr (Heap.lt_size e'), by simp [q]⟩
    have z : (hidT h H).get? b = none := PySem.W.hideAll_none (trk h H) hm
    rw [z] at e; cases e

/-! ### OpenK's ledger, filled with every new object but one -/
def allNews (g h : Heap) (L : Addr) : List (Addr × Obj) := (List.range h.objs.size).filterMap fun a => if a = L ∨ (g.get? a).isSome = true then none else (h.get? a).map fun o => (a, o)
def rest (g h : Heap) (L d : Addr) : List (Addr × Obj) := (allNews g h L).filter fun p => decide (p.1 ≠ d)
end L2

namespace L2
open PySem PySem.Spec PyProof.Rows

structure Mod (K : PySem.W.Frag) (mg : Str → Option Value) (base : Heap) : Prop where
  kin : K.In base
  glob : base.Ns mainGlobals mg
  blt : ∃ mb, base.Ns builtinsNs mb ∧ ∀ x : Str, x ≠ "__name__" → mb x = bootBuiltins x
  nolimit : base.NoLimit

structure Cx where
  prog : Program
  w : World
  K : PySem.W.Frag
  mg : Str → Option Value
  base : Heap
  A : Around
  N : List Str
  s₀ : Shared
  H₀ : Hp
  env : Env
  outer : List Env
  stack : List Env
  ex : List Addr
  fn : Str → Bool
  calm : Bool
  pn : List (Addr × Obj)
  xe : Value → Shared → Prop
def frs (l : List Env) : List Addr := l.filterMap (·.frame)
abbrev Cx.fs (X : Cx) : List Addr := frs X.outer

def Vis (sc : Scope) (x : Str) : Prop := sc.names.lookup x = some .local ∨ sc.names.lookup x = some .cell ∨ sc.names.lookup x = some .free
def Loc (sc : Scope) (x : Str) : Prop := sc.names.lookup x = some .local ∨ sc.names.lookup x = some .cell
def Look (env : Env) (h : Heap) (m : Str → Option Value) (x : Str) (u : Value) : Prop :=
  (env.kindOf x = some .local ∧ m x = some u) ∨ ((env.kindOf x = some .cell ∨ env.kindOf x = some .free) ∧ ∃ c, env.cells.lookup x = some c ∧ h.IsCell c (some u))

structure Cx.Ok (X : Cx) : Prop where
  mod : Mod X.K X.mg X.base
  kind : X.env.scope.kind = .function
  glob : X.env.globals = mainGlobals
  blt : X.env.builtins = builtinsNs
  above : X.s₀.heap.objs.size ≤ X.env.locals
  inj : ∀ x y c, X.env.cells.lookup x = some c → X.env.cells.lookup y = some c → x = y
  has : ∀ x, (X.env.kindOf x = some .cell ∨ X.env.kindOf x = some .free) → ∃ c, X.env.cells.lookup x = some c
  cab : ∀ x c, X.fn x = true → X.env.cells.lookup x = some c → X.s₀.heap.objs.size ≤ c
  hd : X.calm = true → X.A.handled = none
  frames : X.A.frames = some X.stack
  stk : X.stack = X.outer ∨ (X.stack = X.env :: X.outer ∧ X.env.frame = some X.env.locals)
  exf : ∀ b ∈ X.ex, b ≠ X.env.locals ∧ ∀ x c, X.env.cells.lookup x = some c → c ≠ b
  bs : ∀ b o, X.base.get? b = some o → X.s₀.heap.get? b = some o ∧ X.H₀ b = none
  bsz : X.base.objs.size ≤ X.s₀.heap.objs.size
  noex : ∀ b o, X.base.get? b = some o → b ∉ X.ex
  exfs : ∀ b ∈ X.ex, b ∉ X.fs
  funs : X.s₀.heap.FunFrames X.base X.outer
  frf : ∀ b ∈ X.fs, X.H₀ b = none

structure Inv (X : Cx) (pins : List (Addr × Obj)) (σ : List (Option V)) (H : Hp) (s : Shared) : Prop where
  ok : X.Ok
  os : s.os = X.s₀.os
  bare : AllBare s.gens
  base : Un X.fs X.ex X.H₀ H X.s₀.heap s.heap
  loc : ∃ m, s.heap.Ns X.env.locals m ∧ ∀ (i : Nat) (x : Str) (v : V), X.N[i]? = some x → σ[i]? = some (some v) → Vis X.env.scope x → ∃ u, RelV v u ∧ Look X.env s.heap m x u
  cell : ∀ x c, X.env.cells.lookup x = some c → ∃ v, s.heap.IsCell c v
  free : H X.env.locals = none
  freeC : ∀ x c, X.env.cells.lookup x = some c → H c = none
  pin : ∀ p ∈ X.pn ++ pins, s.heap.get? p.1 = some p.2 ∧ H p.1 = none ∧ p.1 ≠ X.env.locals ∧ p.1 ∉ X.fs ∧ ∀ v, p.2.data ≠ .cell v
  hok : HOk X.prog X.w H s.heap
  len : σ.length = X.N.length

section
variable {X : Cx} {pins : List (Addr × Obj)} {σ : List (Option V)} {H H' : Hp} {s : Shared} {h' : Heap}

theorem Cx.Ok.nofr (ok : X.Ok) {b : Addr} {o : Obj} (e : X.base.get? b = some o) : b ∉ X.fs := fun hb => by
  have := (ok.funs.mem hb).1
  rw [e] at this; cases this
theorem Inv.bs (I : Inv X pins σ H s) : ∀ b o, X.base.get? b = some o → s.heap.get? b = some o ∧ H b = none := fun b o e =>
  ⟨I.base.keep b o (I.ok.bs b o e).1 (I.ok.bs b o e).2 (I.ok.nofr e) (I.ok.noex b o e), I.base.free b o (I.ok.bs b o e).1 (I.ok.bs b o e).2 (I.ok.noex b o e)⟩
theorem Inv.bk (I : Inv X pins σ H s) : ∀ b o, X.base.get? b = some o → s.heap.get? b = some o := fun b o e => (I.bs b o e).1
theorem Inv.mod (I : Inv X pins σ H s) : Mod X.K X.mg X.base := I.ok.mod
theorem Inv.kIn (I : Inv X pins σ H s) : X.K.In s.heap := I.ok.mod.kin.keeps I.bk
theorem Inv.nolimit (I : Inv X pins σ H s) : s.heap.NoLimit := I.ok.mod.nolimit.keeps I.bk
theorem Inv.fr (I : Inv X pins σ H s) : ∃ m, Fr X.base X.env.locals s.heap m :=
  let ⟨m, hn, _⟩ := I.loc
  ⟨m, hn, I.bk, Nat.le_trans I.ok.bsz I.ok.above⟩
theorem Inv.lt (I : Inv X pins σ H s) : X.env.locals < s.heap.objs.size := let ⟨_, hn, _⟩ := I.loc; hn.lt
theorem Inv.sz (I : Inv X pins σ H s) : X.s₀.heap.objs.size ≤ s.heap.objs.size := Nat.le_trans I.ok.above (Nat.le_of_lt I.lt)
theorem Inv.nofs (I : Inv X pins σ H s) {a : Addr} (h : s.heap.objs.size ≤ a) : a ∉ X.fs := fun hb => by
  obtain ⟨_, o, ho, _⟩ := I.ok.funs.mem hb
  exact absurd (Nat.lt_of_lt_of_le (Heap.lt_size ho) (Nat.le_trans I.sz h)) (Nat.lt_irrefl _)
theorem Inv.cne (I : Inv X pins σ H s) : ∀ x c, X.env.cells.lookup x = some c → c ≠ X.env.locals := fun x c e z => by
  obtain ⟨v, o, ho, hd⟩ := I.cell x c e
  obtain ⟨m, ⟨o', es, ep, ho', hd', _⟩, _⟩ := I.loc
  rw [z, ho'] at ho; cases ho; rw [hd'] at hd; cases hd
theorem Inv.funs (I : Inv X pins σ H s) : s.heap.FunFrames X.base X.outer := by
  have all : ∀ (l : List Env), (∀ b ∈ frs l, b ∈ X.fs) → X.s₀.heap.FunFrames X.base l → s.heap.FunFrames X.base l := by
    intro l
    induction l with
    | nil => intro _ _; trivial
    | cons env r ih =>
      intro hs hl
      obtain ⟨hk, ⟨L, o, hf, hn, ho, hd⟩, hr⟩ := hl
      have hL : L ∈ X.fs := hs L (by unfold frs; rw [List.filterMap_cons, hf]; exact List.mem_cons_self)
      obtain ⟨sl, e⟩ := I.base.slot L o ho (I.ok.frf L hL) hL fun z => I.ok.exfs L z hL
      exact ⟨hk, ⟨L, _, hf, hn, e, hd⟩, ih (fun b hb => hs b (by unfold frs; rw [List.filterMap_cons, hf]; exact List.mem_cons_of_mem _ hb)) hr⟩
  exact all X.outer (fun _ hb => hb) I.ok.funs

theorem Inv.stack (I : Inv X pins σ H s) : s.heap.FunFrames X.base X.stack := by
  rcases I.ok.stk with e | ⟨e, hf⟩
  · rw [e]; exact I.funs
  · rw [e]
    obtain ⟨m, hn, _⟩ := I.loc
    refine .cons (by rw [I.ok.kind]; decide) hf hn ?_ I.funs
    exact Heap.get?_none_of_le (Nat.le_trans I.ok.bsz I.ok.above)
theorem Inv.stkSub (I : Inv X pins σ H s) : ∀ b ∈ frs X.stack, b ∈ X.env.locals :: X.fs := fun b hb => by
  rcases I.ok.stk with e | ⟨e, hf⟩
  · rw [e] at hb; exact List.mem_cons_of_mem _ hb
  · rw [e] at hb
    unfold frs at hb
    rw [List.filterMap_cons, hf] at hb
    exact hb
theorem Inv.stkFree (I : Inv X pins σ H s) : ∀ b ∈ frs X.stack, H b = none := fun b hb => by
  rcases List.mem_cons.mp (I.stkSub b hb) with e | hb
  · rw [e]; exact I.free
  · obtain ⟨_, o, ho, _⟩ := I.ok.funs.mem hb
    exact I.base.free b o ho (I.ok.frf b hb) fun z => I.ok.exfs b z hb

theorem Inv.step {g' : Array GenState} {t' : Nat} {d' : Drawn} {ch : List Addr} (I : Inv X pins σ H s)
    (hch : ∀ b ∈ ch, (b ∈ X.ex ∨ X.s₀.heap.objs.size ≤ b) ∧ b ≠ X.env.locals ∧ (∀ x c, X.env.cells.lookup x = some c → c ≠ b) ∧ ∀ p ∈ X.pn ++ pins, p.1 ≠ b)
    (keep : ∀ b o, b ≠ X.env.locals → b ∉ X.fs → b ∉ ch → s.heap.get? b = some o → H b = none → h'.get? b = some o)
    (slot : ∀ b o, b ≠ X.env.locals → b ∈ X.fs → b ∉ ch → s.heap.get? b = some o → H b = none → ∃ sl, h'.get? b = some { o with slots := sl }) (free : ∀ b o, b ∉ ch → s.heap.get? b = some o → H b = none → H' b = none)
    (there : ∀ b o, b ∉ ch → s.heap.get? b = some o → ∃ o', h'.get? b = some o')
    (tups : ∀ b xs, H b = some (.tup xs) → H' b = some (.tup xs)) (frzs : ∀ b o u, H b = some (.frz o u) → H' b = some (.frz o u)) (tbls : ∀ b ps, H b = some (.tbl ps) → ∃ more, H' b = some (.tbl (ps ++ more)))
    (ns : ∀ m, s.heap.Ns X.env.locals m → h'.Ns X.env.locals m) (hok : HOk X.prog X.w H' h') (hg : AllBare g') :
    Inv X pins σ H' { s with heap := h', gens := g', drawn := d', toks := t' } := by
  have neL : ∀ b o, X.s₀.heap.get? b = some o → b ≠ X.env.locals := fun b o e => Nat.ne_of_lt (Nat.lt_of_lt_of_le (Heap.lt_size e) I.ok.above)
  have neC : ∀ b o, X.s₀.heap.get? b = some o → b ∉ X.ex → b ∉ ch := fun b o e hx hb => by
    rcases (hch b hb).1 with z | z
    · exact hx z
    · exact absurd (Nat.lt_of_lt_of_le (Heap.lt_size e) z) (Nat.lt_irrefl _)
  have cellK : ∀ x c, X.env.cells.lookup x = some c → ∀ v, s.heap.IsCell c v → h'.IsCell c v := fun x c e v ⟨o, ho, hd⟩ => by
    have nch : c ∉ ch := fun z => (hch c z).2.2.1 x c e rfl
    by_cases hc : c ∈ X.fs
    · obtain ⟨sl, q⟩ := slot c o (I.cne x c e) hc nch ho (I.freeC x c e)
      exact ⟨_, q, hd⟩
    · exact ⟨o, keep c o (I.cne x c e) hc nch ho (I.freeC x c e), hd⟩
  refine ⟨I.ok, I.os, hg, ⟨fun b o e n hb hx => ?_, fun b o e n hb hx => ?_, fun b o e n hx => ?_, fun b o e hx => ?_, fun b xs e => tups b xs (I.base.tups b xs e), fun b o xs e => frzs b o xs (I.base.frzs b o xs e), fun b ps e => ?_⟩, ?_, fun x c e => ?_, ?_, fun x c e => ?_, fun p hp => ?_, hok, I.len⟩
  · exact keep b o (neL b o e) hb (neC b o e hx) (I.base.keep b o e n hb hx) (I.base.free b o e n hx)
  · obtain ⟨sl, e1⟩ := I.base.slot b o e n hb hx
    obtain ⟨sl', e2⟩ := slot b _ (neL b o e) hb (neC b o e hx) e1 (I.base.free b o e n hx)
    exact ⟨sl', e2⟩
  · obtain ⟨o', e1⟩ := I.base.there b o e hx
    exact free b o' (neC b o e hx) e1 (I.base.free b o e n hx)
  · obtain ⟨o', e1⟩ := I.base.there b o e hx
    exact there b o' (neC b o e hx) e1
  · obtain ⟨m1, e1⟩ := I.base.tbls b ps e
    obtain ⟨m2, e2⟩ := tbls b _ e1
    exact ⟨m1 ++ m2, by rw [e2, Array.append_assoc]⟩
  · obtain ⟨m, hn, hl⟩ := I.loc
    refine ⟨m, ns m hn, fun i x v e1 e2 e3 => ?_⟩
    obtain ⟨u, r, l⟩ := hl i x v e1 e2 e3
    refine ⟨u, r, ?_⟩
    rcases l with l | ⟨k, c, e, z⟩
    · exact .inl l
    · exact .inr ⟨k, c, e, cellK x c e _ z⟩
  · obtain ⟨v, z⟩ := I.cell x c e
    exact ⟨v, cellK x c e v z⟩
  · obtain ⟨m, ⟨o, _, _, ho, _⟩, _⟩ := I.loc
    exact free _ o (fun z => (hch _ z).2.1 rfl) ho I.free
  · obtain ⟨v, o, ho, hd⟩ := I.cell x c e
    exact free c o (fun z => (hch c z).2.2.1 x c e rfl) ho (I.freeC x c e)
  · obtain ⟨e, n, ne, nf, d⟩ := I.pin p hp
    have nch : p.1 ∉ ch := fun z => (hch p.1 z).2.2.2 p hp rfl
    exact ⟨keep p.1 p.2 ne nf nch e n, free p.1 p.2 nch e n, ne, nf, d⟩
theorem Inv.un {t' : Nat} (I : Inv X pins σ H s) (u : Un X.fs [] H H' s.heap h') (hok : HOk X.prog X.w H' h') : Inv X pins σ H' { s with heap := h', toks := t' } := by
  obtain ⟨m, ⟨o, es, ep, ho, r⟩, _⟩ := id I.loc
  obtain ⟨sl, hL⟩ := u.any ho I.free (by simp)
  exact I.step (g' := s.gens) (d' := s.drawn) (ch := []) (fun _ z => nomatch z) (fun b o _ hb _ e n => u.keep b o e n hb (by simp)) (fun b o _ hb _ e n => u.slot b o e n hb (by simp)) (fun b o _ e n => u.free b o e n (by simp)) (fun b o _ e => u.there b o e (by simp)) u.tups u.frzs u.tbls (fun m' hm => by
    obtain ⟨o', es', ep', ho', r'⟩ := hm
    rw [ho] at ho'; cases ho'
    exact ⟨_, es', ep', hL, r'⟩) hok I.bare
theorem Inv.call {g' : Array GenState} {t' : Nat} {d' : Drawn} {ch : List Addr} (I : Inv X pins σ H s) (u : Un (frs X.stack) ch H H' s.heap h') (hok : HOk X.prog X.w H' h') (hg : AllBare g')
    (hch : ∀ b ∈ ch, (b ∈ X.ex ∨ X.s₀.heap.objs.size ≤ b) ∧ b ≠ X.env.locals ∧ (∀ x c, X.env.cells.lookup x = some c → c ≠ b) ∧ ∀ p ∈ X.pn ++ pins, p.1 ≠ b) :
    Inv X pins σ H' { s with heap := h', gens := g', drawn := d', toks := t' } := by
  obtain ⟨m, ⟨o, es, ep, ho, r⟩, _⟩ := id I.loc
  obtain ⟨sl, hL⟩ := u.any ho I.free fun z => (hch _ z).2.1 rfl
  exact I.step (ch := ch) hch (fun b o hL hb hc e n => u.keep b o e n (fun z => (List.mem_cons.mp (I.stkSub b z)).elim hL hb) hc) (fun b o _ _ hc e n => u.any e n hc) (fun b o hc e n => u.free b o e n hc) (fun b o hc e => u.there b o e hc) u.tups u.frzs u.tbls (fun m' hm => by
    obtain ⟨o', es', ep', ho', r'⟩ := hm
    rw [ho] at ho'; cases ho'
    exact ⟨_, es', ep', hL, r'⟩) hok hg
theorem Inv.turned {t' : Nat} {it : Addr} (I : Inv X pins σ H s) (k : ∀ b o, b ≠ it → s.heap.get? b = some o → h'.get? b = some o) (hn : H it = none) (hL : it ≠ X.env.locals)
    (h1 : it ∈ X.ex ∨ X.s₀.heap.objs.size ≤ it) (h2 : ∀ x c, X.env.cells.lookup x = some c → c ≠ it) (h3 : ∀ p ∈ X.pn ++ pins, p.1 ≠ it) : Inv X pins σ H { s with heap := h', toks := t' } := by
  have nit : ∀ b u, H b = some u → b ≠ it := fun b u e z => by rw [z, hn] at e; cases e
  refine I.step (g' := s.gens) (d' := s.drawn) (ch := [it]) (fun b hb => ?_) (fun b o _ _ hc e _ => k b o (fun z => hc (by simp [z])) e) (fun b o _ _ hc e _ => ⟨o.slots, k b o (fun z => hc (by simp [z])) e⟩) (fun _ _ _ _ n => n)
    (fun b o hc e => ⟨o, k b o (fun z => hc (by simp [z])) e⟩) (fun _ _ e => e) (fun _ _ _ e => e) (fun b ps e => ⟨#[], by rw [e]; simp⟩) (fun m hm => ?_) (fun b u e => ?_) I.bare
  · have e : b = it := by simpa using hb
    subst e
    exact ⟨h1, hL, h2, h3⟩
  · obtain ⟨o, es, ep, ho, r⟩ := hm
    exact ⟨o, es, ep, k _ o (Ne.symm hL) ho, r⟩
  · refine (I.hok b u e).stay (fun c v hc q => k c v ?_ q) (fun _ q => q) fun _ _ q => q
    rcases hc with z | z
    · rw [z]; exact nit b u e
    · exact nit c _ z
theorem Inv.tok (I : Inv X pins σ H s) (t : Nat) : Inv X pins σ H { s with toks := t } := I.un (h' := s.heap) (t' := t) Un.refl I.hok
theorem Inv.kept {t' : Nat} (I : Inv X pins σ H s) (k : ∀ b u, s.heap.get? b = some u → h'.get? b = some u) : Inv X pins σ H { s with heap := h', toks := t' } := I.un (Un.kept k) (I.hok.kept k)
theorem Inv.laid {a : Addr} {o : HO} {t' : Nat} (I : Inv X pins σ H s) (k : ∀ b u, s.heap.get? b = some u → h'.get? b = some u) (hp : s.heap.objs.size ≤ a) (new : ObjOk X.prog X.w (upd H a o) h' a o) :
    Inv X pins σ (upd H a o) { s with heap := h', toks := t' } := I.un (Un.laid k hp (I.hok.fresh hp)) (I.hok.laid k hp new)
theorem Inv.write {x e : Addr} {o : HO} {t' : Nat} (I : Inv X pins σ H s) (mu : Mut (H x)) (he : e = x ∨ H e = some (.own x)) (k : ∀ b u, b ≠ e → s.heap.get? b = some u → h'.get? b = some u) (heo : ∃ u, h'.get? e = some u)
    (new : ObjOk X.prog X.w (upd H x o) h' x o) : Inv X pins σ (upd H x o) { s with heap := h', toks := t' } := I.un (Un.write mu he k heo) (I.hok.write mu he k heo new)
theorem Inv.pins_of {pins' : List (Addr × Obj)} (I : Inv X pins σ H s) (h : ∀ p ∈ pins', s.heap.get? p.1 = some p.2 ∧ H p.1 = none ∧ p.1 ≠ X.env.locals ∧ p.1 ∉ X.fs ∧ ∀ v, p.2.data ≠ .cell v) : Inv X pins' σ H s :=
  ⟨I.ok, I.os, I.bare, I.base, I.loc, I.cell, I.free, I.freeC, fun p hp => (List.mem_append.mp hp).elim (fun z => I.pin p (List.mem_append_left _ z)) (h p), I.hok, I.len⟩

theorem nodup_ix {N : List Str} (hN : N.Nodup) {i j : Nat} {x : Str} (a : N[i]? = some x) (b : N[j]? = some x) : i = j := by
  obtain ⟨h1, e1⟩ := List.getElem?_eq_some_iff.mp a
  obtain ⟨h2, e2⟩ := List.getElem?_eq_some_iff.mp b
  exact (List.getElem_inj hN).mp (e1.trans e2.symm)

theorem store_ok2 {M : Model} {A : Around} {E : Value → Shared → Prop} {i : Nat} {x : Str} {v : V} {u : Value} {Q : Unit → Shared → Prop} (I : Inv X pins σ H s) (hN : X.N.Nodup) (hi : X.N[i]? = some x) (hx : Loc X.env.scope x) (r : RelV v u)
    (h : ∀ s', Inv X pins (σ.set i (some v)) H s' → (∃ a, Heap.SameBut a s.heap s'.heap ∧ (a = X.env.locals ∨ X.env.cells.lookup x = some a)) → Q () s') (hf : X.fn x = true ∨ X.env.scope.names.lookup x = some .local := by first | exact .inl rfl | exact .inr rfl | assumption) : wpAny M A (storeName X.env x u) Q E s := by
  obtain ⟨m, hn, hl⟩ := id I.loc
  have hcls : (X.env.scope.kind == .class || (X.env.scope.kind == .module && X.env.locals != X.env.globals)) = false := by rw [I.ok.kind]; rfl
  have hiσ : i < σ.length := by rw [I.len]; exact (List.getElem?_eq_some_iff.mp hi).1
  have cne := I.cne
  have tracked : ∀ {a : Addr} {h' : Heap}, (∃ o, s.heap.get? a = some o ∧ H a = none) → Heap.SameBut a s.heap h' → HOk X.prog X.w H h' := fun {a h'} ha hs b ob e => by
    obtain ⟨_, _, hfree⟩ := ha
    refine (I.hok b ob e).stay (fun c w' hc q => (hs.2 c ?_).trans q) (fun _ q => q) fun _ _ q => q
    rintro rfl
    rcases hc with rfl | hc
    · rw [hfree] at e; cases e
    · rw [hfree] at hc; cases hc
  rcases hx with hk | hk
  · refine wpAny_storeName_local hk hn (fun h' hn' hs => ?_) hcls
    obtain ⟨oL, _, _, hoL, _⟩ := id hn
    refine h _ ⟨I.ok, I.os, I.bare, ⟨fun b o e n hb hx => ?_, fun b o e n hb hx => ?_, I.base.free, fun b o e hx => ?_, I.base.tups, I.base.frzs, I.base.tbls⟩, ⟨_, hn', fun j y v' e1 e2 e3 => ?_⟩, fun y c e => ?_, I.free, I.freeC, fun p hp => ?_, tracked ⟨oL, hoL, I.free⟩ hs, by simpa using I.len⟩ ⟨_, hs, .inl rfl⟩
    · exact (hs.2 b (Nat.ne_of_lt (Nat.lt_of_lt_of_le (Heap.lt_size e) I.ok.above))).trans (I.base.keep b o e n hb hx)
    · obtain ⟨sl, e1⟩ := I.base.slot b o e n hb hx
      exact ⟨sl, (hs.2 b (Nat.ne_of_lt (Nat.lt_of_lt_of_le (Heap.lt_size e) I.ok.above))).trans e1⟩
    · obtain ⟨o', e1⟩ := I.base.there b o e hx
      exact ⟨o', (hs.2 b (Nat.ne_of_lt (Nat.lt_of_lt_of_le (Heap.lt_size e) I.ok.above))).trans e1⟩
    · by_cases hj : j = i
      · subst hj
        rw [hi] at e1; cases e1
        rw [List.getElem?_set_self hiσ] at e2
        cases e2
        exact ⟨u, r, .inl ⟨hk, by simp⟩⟩
      · rw [List.getElem?_set_ne (Ne.symm hj)] at e2
        obtain ⟨u', r', q⟩ := hl j y v' e1 e2 e3
        refine ⟨u', r', ?_⟩
        rcases q with ⟨k, e⟩ | ⟨k, c, e, z⟩
        · refine .inl ⟨k, ?_⟩
          have : y ≠ x := fun e => hj (nodup_ix hN e1 (e ▸ hi))
          simp [this, e]
        · exact .inr ⟨k, c, e, z.sameBut hs (cne y c e)⟩
    · obtain ⟨w', z⟩ := I.cell y c e
      exact ⟨w', z.sameBut hs (cne y c e)⟩
    · obtain ⟨e, n, ne, nf, d⟩ := I.pin p hp
      exact ⟨(hs.2 p.1 ne).trans e, n, ne, nf, d⟩
  · have hfn : X.fn x = true := by
      rcases hf with z | z
      · exact z
      · rw [z] at hk; cases hk
    obtain ⟨c, hc⟩ := I.ok.has x (.inl hk)
    obtain ⟨w', z⟩ := I.cell x c hc
    refine wpAny_storeName_cell I.ok.kind hk hc z (fun h' hc' hs => ?_)
    obtain ⟨oc, hoc, hocd⟩ := id z
    refine h { s with heap := h' } ⟨I.ok, I.os, I.bare, ⟨fun b o e n hb hx => ?_, fun b o e n hb hx => ?_, I.base.free, fun b o e hx => ?_, I.base.tups, I.base.frzs, I.base.tbls⟩, ⟨m, hn.sameBut hs (Ne.symm (cne x c hc)), fun j y v' e1 e2 e3 => ?_⟩, fun y c' e => ?_, I.free, I.freeC, fun p hp => ?_, tracked ⟨oc, hoc, I.freeC x c hc⟩ hs, by simpa using I.len⟩ ⟨c, hs, .inr hc⟩
    · exact (hs.2 b (Nat.ne_of_lt (Nat.lt_of_lt_of_le (Heap.lt_size e) (I.ok.cab x c hfn hc)))).trans (I.base.keep b o e n hb hx)
    · obtain ⟨sl, e1⟩ := I.base.slot b o e n hb hx
      exact ⟨sl, (hs.2 b (Nat.ne_of_lt (Nat.lt_of_lt_of_le (Heap.lt_size e) (I.ok.cab x c hfn hc)))).trans e1⟩
    · obtain ⟨o', e1⟩ := I.base.there b o e hx
      exact ⟨o', (hs.2 b (Nat.ne_of_lt (Nat.lt_of_lt_of_le (Heap.lt_size e) (I.ok.cab x c hfn hc)))).trans e1⟩
    · by_cases hj : j = i
      · subst hj
        rw [hi] at e1; cases e1
        rw [List.getElem?_set_self hiσ] at e2
        cases e2
        exact ⟨u, r, .inr ⟨.inl hk, c, hc, hc'⟩⟩
      · rw [List.getElem?_set_ne (Ne.symm hj)] at e2
        obtain ⟨u', r', q⟩ := hl j y v' e1 e2 e3
        refine ⟨u', r', ?_⟩
        rcases q with q | ⟨k, c', e, z'⟩
        · exact .inl q
        · refine .inr ⟨k, c', e, z'.sameBut hs ?_⟩
          rintro rfl
          exact hj (nodup_ix hN e1 (I.ok.inj _ _ _ e hc ▸ hi))
    · by_cases hcc : c' = c
      · subst hcc; exact ⟨_, hc'⟩
      · obtain ⟨w2, z2⟩ := I.cell y c' e
        exact ⟨w2, z2.sameBut hs hcc⟩
    · obtain ⟨e, n, ne, nf, d⟩ := I.pin p hp
      refine ⟨(hs.2 p.1 ?_).trans e, n, ne, nf, d⟩
      intro q
      rw [q, hoc] at e
      have q' : oc = p.2 := Option.some.inj e
      exact d w' (by rw [← q']; exact hocd)
theorem store_ok {M : Model} {A : Around} {E : Value → Shared → Prop} {i : Nat} {x : Str} {v : V} {u : Value} {Q : Unit → Shared → Prop} (I : Inv X pins σ H s) (hN : X.N.Nodup) (hi : X.N[i]? = some x) (hx : Loc X.env.scope x) (r : RelV v u)
    (h : ∀ s', Inv X pins (σ.set i (some v)) H s' → Q () s') (hf : X.fn x = true ∨ X.env.scope.names.lookup x = some .local := by first | exact .inl rfl | exact .inr rfl | assumption) : wpAny M A (storeName X.env x u) Q E s :=
  store_ok2 I hN hi hx r (fun s' I' _ => h s' I') hf
theorem Inv.call' {s' : Shared} {ch : List Addr} (I : Inv X pins σ H s) (ho : s'.os = s.os) (u : Un (frs X.stack) ch H H' s.heap s'.heap) (hok : HOk X.prog X.w H' s'.heap) (hg : AllBare s'.gens)
    (hch : ∀ b ∈ ch, (b ∈ X.ex ∨ X.s₀.heap.objs.size ≤ b) ∧ b ≠ X.env.locals ∧ (∀ x c, X.env.cells.lookup x = some c → c ≠ b) ∧ ∀ p ∈ X.pn ++ pins, p.1 ≠ b) : Inv X pins σ H' s' := by
  obtain ⟨h', g', d', t', o'⟩ := s'
  have e : o' = s.os := ho
  subst e
  exact I.call (g' := g') (t' := t') (d' := d') u hok hg hch
end

/-! ### the judgements -/
abbrev XK := Value → Option Addr → Hp → Prop
abbrev St := List (Option V)
abbrev VK := V → Hp → Prop
abbrev TE := St → Hp → VK → Prop
abbrev TT := St → Hp → (Bool → Hp → Prop) → Prop
abbrev TA := St → Hp → (List V → Hp → Prop) → Prop
structure Ends where
  nx : St → Hp → Prop
  rt : VK
  bk : St → Hp → Prop := fun _ _ => False
  ct : St → Hp → Prop := fun _ _ => False
abbrev TS := Ends → St → Hp → Prop

def EP (X : Cx) (pins : List (Addr × Obj)) (σ : St) (Q : VK) (u : Value) (s' : Shared) : Prop := ∃ v H', Inv X pins σ H' s' ∧ RelV v u ∧ Q v H'
def TP (X : Cx) (pins : List (Addr × Obj)) (σ : St) (Q : Bool → Hp → Prop) (b : Bool) (s' : Shared) : Prop := ∃ H', Inv X pins σ H' s' ∧ Q b H'
def AP (X : Cx) (pins : List (Addr × Obj)) (σ : St) (Q : List V → Hp → Prop) (us : List Value) (s' : Shared) : Prop := ∃ vs H', Inv X pins σ H' s' ∧ Vals vs us ∧ Q vs H'
def SP (X : Cx) (pins : List (Addr × Obj)) (D : Ends) (f : Flow) (s' : Shared) : Prop :=
  match f with
  | .next => ∃ σ' H', Inv X pins σ' H' s' ∧ D.nx σ' H'
  | .brk => ∃ σ' H', Inv X pins σ' H' s' ∧ D.bk σ' H'
  | .cont => ∃ σ' H', Inv X pins σ' H' s' ∧ D.ct σ' H'
  | .ret u => ∃ v σ' H', Inv X pins σ' H' s' ∧ RelV v u ∧ D.rt v H'

def PE (X : Cx) (e : Expr) (t : TE) : Prop :=
  ∀ (pins : List (Addr × Obj)) (s : Shared) (σ : St) (H : Hp) (Q : VK), Inv X pins σ H s → t σ H Q → wpAny (model X.prog X.w) X.A (eval e X.env) (EP X pins σ Q) X.xe s
def PT (X : Cx) (e : Expr) (t : TT) : Prop :=
  ∀ (pins : List (Addr × Obj)) (s : Shared) (σ : St) (H : Hp) (Q : Bool → Hp → Prop), Inv X pins σ H s → t σ H Q → wpAny (model X.prog X.w) X.A (isTrue e X.env (eval e X.env)) (TP X pins σ Q) X.xe s
def PW (X : Cx) (e : Expr) (t : TT) : Prop :=
  ∀ (whole : Sem Value) (pins : List (Addr × Obj)) (s : Shared) (σ : St) (H : Hp) (Q : Bool → Hp → Prop), Inv X pins σ H s → t σ H Q → wpAny (model X.prog X.w) X.A (isTrue e X.env whole) (TP X pins σ Q) X.xe s
theorem PW.pt {X : Cx} {e : Expr} {t : TT} (h : PW X e t) : PT X e t := h _
def PA (X : Cx) (es : List Expr) (t : TA) : Prop :=
  ∀ (pos : Pos) (pins : List (Addr × Obj)) (s : Shared) (σ : St) (H : Hp) (Q : List V → Hp → Prop), Inv X pins σ H s → t σ H Q → wpAny (model X.prog X.w) X.A (spliced (backTo pos (starEach es X.env))) (AP X pins σ Q) X.xe s
def PS (X : Cx) (st : Stmt) (t : TS) : Prop :=
  ∀ (pins : List (Addr × Obj)) (s : Shared) (σ : St) (H : Hp) (D : Ends), Inv X pins σ H s → t D σ H → wpAny (model X.prog X.w) X.A (exec st X.env) (SP X pins D) X.xe s
def PSs (X : Cx) (st : List Stmt) (t : TS) : Prop :=
  ∀ (pins : List (Addr × Obj)) (s : Shared) (σ : St) (H : Hp) (D : Ends), Inv X pins σ H s → t D σ H → wpAny (model X.prog X.w) X.A (execs st X.env) (SP X pins D) X.xe s
theorem thn {α : Type} {t : Sem α} {Q Q' : α → Shared → Prop} {M : Model} {A : Around} {E : Value → Shared → Prop} {s : Shared} (h : wpAny M A t Q E s) (hQ : ∀ a s, Q a s → Q' a s) : wpAny M A t Q' E s := wpAny_mono h hQ fun _ _ x => x
end L2

namespace L2
open PySem PySem.Spec PyProof.Rows
section
variable {X : Cx}

/-! ### names and constants -/
def tVar (i : Nat) : TE := fun σ H Q => ∃ v, σ[i]? = some (some v) ∧ Q v H
def tC (v : V) : TE := fun _ H Q => Q v H
theorem pe_var {i : Nat} {x : Str} {pos : Pos} (hN : X.N[i]? = some x) (hv : Vis X.env.scope x) (hd : (x == ("__debug__" : Str)) = false := by decide) (hcd : (x == ("__classdict__" : Str)) = false := by decide) : PE X (.Name x pos) (tVar i) := by
  intro pins s σ H Q I h
  obtain ⟨v, e, h⟩ := h
  obtain ⟨m, hn, hl⟩ := I.loc
  obtain ⟨u, r, l⟩ := hl i x v hN e hv
  have fin : EP X pins σ Q u s := ⟨v, H, I, r, h⟩
  rcases l with ⟨hk, hm⟩ | ⟨hk, c, hc, hcell⟩
  · exact wpAny_Name (wpAny_loadName_local I.ok.kind hk hn hm fin) hd
  · rcases hk with hk | hk
    · exact wpAny_Name (wpAny_loadName_cell I.ok.kind hk hc hcell fin) hd
    · exact wpAny_Name (wpAny_loadName_free I.ok.kind hk hc hcell fin hcd) hd
theorem pe_int {i j pos} : PE X (.Constant (.int i) j pos) (tC (.int i)) := fun _ _ _ H _ I h => wpAny_Constant_int ⟨.int i, H, I.tok _, ⟨_, rfl⟩, h⟩
theorem pe_bl {b j pos} : PE X (.Constant (.bool b) j pos) (tC (.bl b)) := fun _ _ _ H _ I h => Constant_bool ⟨.bl b, H, I, rfl, h⟩
theorem pe_non {j pos} : PE X (.Constant .none j pos) (tC .non) := fun _ _ _ H _ I h => Constant_none ⟨.non, H, I, rfl, h⟩
theorem pe_str {x j pos} : PE X (.Constant (.str x) j pos) (tC (.str x)) := fun _ _ _ H _ I h => Calls.Constant_str ⟨.str x, H, I.tok _, ⟨_, rfl⟩, h⟩

def Gl (X : Cx) (x : Str) : Prop := X.env.kindOf x = some .globalImplicit
theorem ld_glob {E : Value → Shared → Prop} {pins : List (Addr × Obj)} {s : Shared} {σ : St} {H : Hp} {x : Str} {u : Value} {pos : Pos} {Q : Value → Shared → Prop} (I : Inv X pins σ H s) (hg : Gl X x) (hm : X.mg x = some u) (h : Q u s)
    (hd : (x == ("__debug__" : Str)) = false := by decide) : wpAny (model X.prog X.w) X.A (eval (.Name x pos) X.env) Q E s :=
  Calls.Name_function_global I.ok.kind hg (Calls.loadGlobal_global (by rw [I.ok.glob]; exact I.mod.glob.keeps I.bk) hm h) hd
theorem ld_blt {E : Value → Shared → Prop} {pins : List (Addr × Obj)} {s : Shared} {σ : St} {H : Hp} {x : Str} {u : Value} {pos : Pos} {Q : Value → Shared → Prop} (I : Inv X pins σ H s) (hg : Gl X x) (hm : X.mg x = none) (hv : bootBuiltins x = some u) (h : Q u s)
    (hn : x ≠ "__name__" := by decide) (hd : (x == ("__debug__" : Str)) = false := by decide) : wpAny (model X.prog X.w) X.A (eval (.Name x pos) X.env) Q E s := by
  obtain ⟨mb, h1, h2⟩ := I.mod.blt
  exact Calls.Name_function_global I.ok.kind hg (Calls.loadGlobal_builtin (by rw [I.ok.glob]; exact I.mod.glob.keeps I.bk) hm (by rw [I.ok.blt]; exact h1.keeps I.bk) ((h2 x hn).trans hv) h) hd
theorem pe_glob {x : Str} {v : V} {u : Value} {pos : Pos} (hg : Gl X x) (hm : X.mg x = some u) (r : RelV v u) (hd : (x == ("__debug__" : Str)) = false := by decide) : PE X (.Name x pos) (tC v) :=
  fun _ _ _ H _ I h => ld_glob I hg hm ⟨v, H, I, r, h⟩ hd
theorem pe_bltn {x : Str} {v : V} {u : Value} {pos : Pos} (hg : Gl X x) (hm : X.mg x = none) (hv : bootBuiltins x = some u) (r : RelV v u) (hn : x ≠ "__name__" := by decide) (hd : (x == ("__debug__" : Str)) = false := by decide) : PE X (.Name x pos) (tC v) :=
  fun _ _ _ H _ I h => ld_blt I hg hm hv ⟨v, H, I, r, h⟩ hn hd

/-! ### arithmetic -/
variable {a b : Expr} {ta tb : TE} {pos : Pos}
/-! ### comparisons -/
/-! ### and, or, not -/
variable {tA tB' : TT} {rest : List Expr}
def tAnd (t u : TT) : TT := fun σ H Q => t σ H fun c H1 => if c = true then u σ H1 Q else Q false H1
def tOr (t u : TT) : TT := fun σ H Q => t σ H fun c H1 => if c = true then Q true H1 else u σ H1 Q
def tNot (t : TT) : TT := fun σ H Q => t σ H fun c H1 => Q (!c) H1
theorem pw_and1 (ha : PT X a tA) : PW X (.BoolOp .And [a] pos) tA := by
  intro wh pins s σ H Q I h
  refine isTrue_and (thn (ha pins s σ H Q I h) fun c s1 e => ?_)
  cases c with
  | true => exact isTrue_and_nil e
  | false => exact e
theorem pw_or1 (ha : PT X a tA) : PW X (.BoolOp .Or [a] pos) tA := by
  intro wh pins s σ H Q I h
  refine isTrue_or (thn (ha pins s σ H Q I h) fun c s1 e => ?_)
  cases c with
  | false => exact isTrue_or_nil e
  | true => exact e
theorem pw_and (ha : PT X a tA) (hb : PW X (.BoolOp .And (b :: rest) pos) tB') : PW X (.BoolOp .And (a :: b :: rest) pos) (tAnd tA tB') := by
  intro wh pins s σ H Q I h
  refine isTrue_and (thn (ha pins s σ H _ I h) fun c s1 ⟨H1, I1, q1⟩ => ?_)
  cases c with
  | true => exact hb wh pins s1 σ H1 Q I1 q1
  | false => exact ⟨H1, I1, q1⟩
theorem pw_or (ha : PT X a tA) (hb : PW X (.BoolOp .Or (b :: rest) pos) tB') : PW X (.BoolOp .Or (a :: b :: rest) pos) (tOr tA tB') := by
  intro wh pins s σ H Q I h
  refine isTrue_or (thn (ha pins s σ H _ I h) fun c s1 ⟨H1, I1, q1⟩ => ?_)
  cases c with
  | true => exact ⟨H1, I1, q1⟩
  | false => exact hb wh pins s1 σ H1 Q I1 q1
theorem pt_not (ha : PT X a tA) : PT X (.UnaryOp .Not a pos) (tNot tA) := by
  intro pins s σ H Q I h
  exact isTrue_not (ha pins s σ H (fun c H1 => Q (!c) H1) I h)
def tAndV (ta tb : TE) : TE := fun σ H Q => ta σ H fun x H1 => ∃ c, x = .bl c ∧ if c = true then tb σ H1 Q else Q (.bl false) H1
def tNotV (ta : TE) : TE := fun σ H Q => ta σ H fun x H1 => ∃ c, x = .bl c ∧ Q (.bl (!c)) H1
theorem pe_one {op} {t : TE} (h : PE X a t) : PE X (.BoolOp op [a] pos) t := fun pins s σ H Q I hw => BoolOp_one (h pins s σ H Q I hw)
theorem pe_and (ha : PE X a ta) (hb : PE X (.BoolOp .And (b :: rest) pos) tb) : PE X (.BoolOp .And (a :: b :: rest) pos) (tAndV ta tb) := by
  intro pins s σ H Q I h
  refine BoolOp_and (thn (ha pins s σ H _ I h) fun v s1 ⟨x, H1, I1, r1, q1⟩ => ?_)
  obtain ⟨c, rfl, q1⟩ := q1
  cases r1
  refine wpAny_truthy_bool ?_
  cases c with
  | true => exact hb pins s1 σ H1 Q I1 q1
  | false => exact ⟨.bl false, H1, I1, rfl, q1⟩
theorem pe_not (ha : PE X a ta) : PE X (.UnaryOp .Not a pos) (tNotV ta) := by
  intro pins s σ H Q I h
  refine UnaryOp_ (thn (ha pins s σ H _ I h) fun v s1 ⟨x, H1, I1, r1, q1⟩ => ?_)
  obtain ⟨c, rfl, q1⟩ := q1
  cases r1
  exact not_of (wpAny_truthy_bool ⟨.bl (!c), H1, I1, rfl, q1⟩)
end
end L2

namespace L2
open PySem PySem.Spec PyProof.Rows

/-! ### a list, a tuple that is read: tracked, frozen, or an object of the module -/
def SqL (K : PySem.W.Frag) (H : Hp) (a : Addr) (xs : List V) : Prop :=
  Rd H a (.lst xs) ∨
    ∃ (o : Obj) (its : Array Value) (n : Nat), K.lookup a = some o ∧ o.cls = .type "list" ∧ o.dict = none ∧ o.data = .seq its n ∧ its.size ≤ sizeLine ∧ Vals xs its.toList
def SqT (K : PySem.W.Frag) (H : Hp) (a : Addr) (xs : List V) : Prop :=
  Rd H a (.tup xs) ∨
    ∃ (o : Obj) (its : Array Value) (n : Nat), K.lookup a = some o ∧ o.cls = .type "tuple" ∧ o.data = .seq its n ∧ its.size ≤ sizeLine ∧ Vals xs its.toList
def absV : Value → Option V
  | .none => some .non
  | .bool b => some (.bl b)
  | .int i _ => some (.int i)
  | .str x _ => some (.str x)
  | .bytes b _ => some (.byt b)
  | .float b _ => some (.flt b)
  | .ref a => some (.ref a)
  | .type n => some (.ty n)
  | _ => none
theorem RelV.abs {x : V} {u : Value} (r : RelV x u) : absV u = some x := by
  cases x with
  | non => cases r; rfl
  | bl _ => cases r; rfl
  | int _ => obtain ⟨t, rfl⟩ := r; rfl
  | str _ => obtain ⟨t, rfl⟩ := r; rfl
  | byt _ => obtain ⟨t, rfl⟩ := r; rfl
  | flt _ => obtain ⟨t, rfl⟩ := r; rfl
  | ref _ => cases r; rfl
  | ty _ => cases r; rfl
theorem RelV.inj {x y : V} {u : Value} (r : RelV x u) (q : RelV y u) : x = y := Option.some.inj (r.abs.symm.trans q.abs)
theorem Vals.inj : ∀ {xs ys : List V} {us : List Value}, Vals xs us → Vals ys us → xs = ys
  | _, _, _, .nil, .nil => rfl
  | _, _, _, .cons r t, .cons r' t' => by rw [r.inj r', Vals.inj t t']
section
variable {X : Cx} {pins : List (Addr × Obj)} {σ : St} {H : Hp} {s : Shared} {a : Addr} {xs ys : List V}
theorem SqL.of {K : PySem.W.Frag} (h : H a = some (.lst xs)) : SqL K H a xs := .inl (.inl h)
theorem SqT.of {K : PySem.W.Frag} (h : H a = some (.tup xs)) : SqT K H a xs := .inl (.inl h)
theorem Inv.list (I : Inv X pins σ H s) (h : SqL X.K H a xs) : ∃ its : List Value, Vals xs its ∧ PlainL s.heap a its.toArray ∧ xs.length ≤ sizeLine := by
  rcases h with h | ⟨o, its, n, hk, hc, hd, hs, hz, r⟩
  · obtain ⟨z, its, n, r, e⟩ := h.ok I.hok
    exact ⟨its, r, ⟨_, n, e, rfl, rfl, rfl⟩, z⟩
  · refine ⟨its.toList, r, ⟨o, n, I.kIn a o hk, hc, hd, by simpa using hs⟩, ?_⟩
    have e := r.length
    simp only [Array.length_toList] at e
    omega
theorem Inv.tuple (I : Inv X pins σ H s) (h : SqT X.K H a xs) : ∃ its : List Value, Vals xs its ∧ IsTup s.heap a its.toArray ∧ xs.length ≤ sizeLine := by
  rcases h with h | ⟨o, its, n, hk, hc, hs, hz, r⟩
  · obtain ⟨z, its, r, p⟩ := h.ok I.hok
    exact ⟨its, r, p, z⟩
  · refine ⟨its.toList, r, ⟨o, I.kIn a o hk, hc, n, by simpa using hs⟩, ?_⟩
    have e := r.length
    simp only [Array.length_toList] at e
    omega
theorem Inv.list_inj (I : Inv X pins σ H s) (h : SqL X.K H a xs) (h' : SqL X.K H a ys) : xs = ys := by
  obtain ⟨its, r, ⟨o, n, e, _, _, d⟩, _⟩ := I.list h
  obtain ⟨its', r', ⟨o', n', e', _, _, d'⟩, _⟩ := I.list h'
  rw [e] at e'; cases e'
  rw [d] at d'
  injection d' with d1 _
  have : its = its' := by simpa using congrArg Array.toList d1
  subst this
  exact r.inj r'
theorem Inv.tuple_inj (I : Inv X pins σ H s) (h : SqT X.K H a xs) (h' : SqT X.K H a ys) : xs = ys := by
  obtain ⟨its, r, ⟨o, e, _, n, d⟩, _⟩ := I.tuple h
  obtain ⟨its', r', ⟨o', e', _, n', d'⟩, _⟩ := I.tuple h'
  rw [e] at e'; cases e'
  rw [d] at d'
  injection d' with d1 _
  have : its = its' := by simpa using congrArg Array.toList d1
  subst this
  exact r.inj r'
end

/-! ### another wish about exceptions -/
abbrev Cx.wish (X : Cx) (E : Value → Shared → Prop) : Cx := { X with xe := E }
abbrev Cx.nox (X : Cx) : Cx := X.wish fun _ _ => False
theorem Cx.Ok.wish {X : Cx} (ok : X.Ok) (E : Value → Shared → Prop) : (X.wish E).Ok :=
  ⟨ok.mod, ok.kind, ok.glob, ok.blt, ok.above, ok.inj, ok.has, ok.cab, ok.hd, ok.frames, ok.stk, ok.exf, ok.bs, ok.bsz, ok.noex, ok.exfs, ok.funs, ok.frf⟩
theorem Cx.Ok.unwish {X : Cx} {E : Value → Shared → Prop} (ok : (X.wish E).Ok) : X.Ok :=
  ⟨ok.mod, ok.kind, ok.glob, ok.blt, ok.above, ok.inj, ok.has, ok.cab, ok.hd, ok.frames, ok.stk, ok.exf, ok.bs, ok.bsz, ok.noex, ok.exfs, ok.funs, ok.frf⟩
section
variable {X : Cx} {pins : List (Addr × Obj)} {σ : St} {H : Hp} {s : Shared} {E : Value → Shared → Prop}
theorem Inv.wish (I : Inv X pins σ H s) (E : Value → Shared → Prop) : Inv (X.wish E) pins σ H s := ⟨I.ok.wish E, I.os, I.bare, I.base, I.loc, I.cell, I.free, I.freeC, I.pin, I.hok, I.len⟩
theorem Inv.unwish (I : Inv (X.wish E) pins σ H s) : Inv X pins σ H s := ⟨I.ok.unwish, I.os, I.bare, I.base, I.loc, I.cell, I.free, I.freeC, I.pin, I.hok, I.len⟩
theorem SP.unwish {D : Ends} {f : Flow} {s' : Shared} (h : SP (X.wish E) pins D f s') : SP X pins D f s' := by
  cases f with
  | next => obtain ⟨σ', H', I, q⟩ := h; exact ⟨σ', H', I.unwish, q⟩
  | brk => obtain ⟨σ', H', I, q⟩ := h; exact ⟨σ', H', I.unwish, q⟩
  | cont => obtain ⟨σ', H', I, q⟩ := h; exact ⟨σ', H', I.unwish, q⟩
  | ret u => obtain ⟨v, σ', H', I, r, q⟩ := h; exact ⟨v, σ', H', I.unwish, r, q⟩
theorem PE.nox {e : Expr} {t : TE} (h : PE X.nox e t) : PE X e t := fun pins s σ H Q I hw =>
  wpAny_mono (h pins s σ H Q (I.wish _) hw) (fun _ _ ⟨v, H', I', r, q⟩ => ⟨v, H', I'.unwish, r, q⟩) fun _ _ z => False.elim z
theorem PT.nox {e : Expr} {t : TT} (h : PT X.nox e t) : PT X e t := fun pins s σ H Q I hw =>
  wpAny_mono (h pins s σ H Q (I.wish _) hw) (fun _ _ ⟨H', I', q⟩ => ⟨H', I'.unwish, q⟩) fun _ _ z => False.elim z
theorem PSs.nox {st : List Stmt} {t : TS} (h : PSs X.nox st t) : PSs X st t := fun pins s σ H D I hw =>
  wpAny_mono (h pins s σ H D (I.wish _) hw) (fun _ _ q => q.unwish) fun _ _ z => False.elim z
end

/-! ### blocks and small statements -/
section
variable {X : Cx} {st : Stmt} {rest : List Stmt} {t u : TS} {e : Expr} {te : TE} {pos : Pos}
def tNext : TS := fun D σ H => D.nx σ H
def tSeq (t u : TS) : TS := fun D σ H => t { D with nx := u D } σ H
theorem pss_nil : PSs X [] tNext := fun _ _ σ H _ I h => wpAny_execs_nil ⟨σ, H, I, h⟩
theorem pss_cons (h1 : PS X st t) (h2 : PSs X rest u) : PSs X (st :: rest) (tSeq t u) := by
  intro pins s σ H D I h
  refine wpAny_execs_cons (thn (h1 pins s σ H { D with nx := u D } I h) fun f s1 q => ?_)
  cases f with
  | next =>
    obtain ⟨σ', H', I', q⟩ := q
    exact h2 pins s1 σ' H' D I' q
  | ret v => exact q
  | brk => exact q
  | cont => exact q
theorem pss_one (h1 : PS X st t) : PSs X [st] t := by
  intro pins s σ H D I h
  refine wpAny_execs_cons (thn (h1 pins s σ H D I h) fun f s1 q => ?_)
  cases f with
  | next => exact wpAny_execs_nil q
  | ret v => exact q
  | brk => exact q
  | cont => exact q
theorem Inv.quiet {pins : List (Addr × Obj)} {σ : St} {H : Hp} {s : Shared} (I : Inv X pins σ H s) : interactive X.env = false := by simp [interactive, I.ok.kind]
def tDrop (te : TE) : TS := fun D σ H => te σ H fun _ H1 => D.nx σ H1
theorem ps_expr (he : PE X e te) (hs : swapsWith e none pos.line X.env = pure false := by rfl) : PS X (.Expr e pos) (tDrop te) := by
  intro pins s σ H D I h
  exact wpAny_Expr_any (thn (he pins s σ H _ I h) fun v s1 ⟨x, H1, I1, r1, q1⟩ => ⟨σ, H1, I1, q1⟩) I.quiet hs
def tRet (te : TE) : TS := fun D σ H => te σ H D.rt
theorem ps_ret (he : PE X e te) : PS X (.Return (some e) pos) (tRet te) := by
  intro pins s σ H D I h
  exact wpAny_Return_some (thn (he pins s σ H _ I h) fun v s1 ⟨x, H1, I1, r1, q1⟩ => ⟨x, σ, H1, I1, r1, q1⟩)
def tIfS (c : TT) (t u : TS) : TS := fun D σ H => c σ H fun b H1 => if b = true then t D σ H1 else u D σ H1
theorem ps_if {c : Expr} {a b : List Stmt} {tc : TT} (hc : PT X c tc) (ha : PSs X a t) (hb : PSs X b u) : PS X (.If c a b pos) (tIfS tc t u) := by
  intro pins s σ H D I h
  refine wpAny_If (thn (hc pins s σ H _ I h) fun d s1 ⟨H1, I1, q1⟩ => ?_)
  cases d with
  | true => exact ha pins s1 σ H1 D I1 q1
  | false => exact hb pins s1 σ H1 D I1 q1
end

/-! ### targets -/
abbrev TG := V → St → Hp → (St → Hp → Prop) → Prop
def PG (X : Cx) (target : Expr) (t : TG) : Prop :=
  ∀ (pins : List (Addr × Obj)) (s : Shared) (σ : St) (H : Hp) (v : V) (u : Value) (Q : St → Hp → Prop), Inv X pins σ H s → RelV v u → t v σ H Q →
    wpAny (model X.prog X.w) X.A (assign target X.env u) (fun _ s' => ∃ σ' H', Inv X pins σ' H' s' ∧ Q σ' H') X.xe s
section
variable {X : Cx} {pos : Pos}
def gName (i : Nat) : TG := fun v σ H Q => Q (σ.set i (some v)) H
theorem pg_name {i : Nat} {x : Str} (hN : X.N.Nodup) (hi : X.N[i]? = some x) (hx : Loc X.env.scope x) (hf : X.fn x = true ∨ X.env.scope.names.lookup x = some .local := by first | exact .inl rfl | exact .inr rfl | assumption) : PG X (.Name x pos) (gName i) := by
  intro pins s σ H v u Q I r h
  exact wpAny_assign_Name (store_ok I hN hi hx r (fun s' I' => ⟨_, H, I', h⟩) hf)
def tAsg (te : TE) (g : TG) : TS := fun D σ H => te σ H fun x H1 => g x σ H1 D.nx
theorem ps_set {i : Nat} {x : Str} {e : Expr} {te : TE} {pos' : Pos} (hN : X.N.Nodup) (hi : X.N[i]? = some x) (hx : Loc X.env.scope x) (he : PE X e te) (hs : swapsWith e (some (.Name x pos')) pos.line X.env = pure false := by rfl) (hf : X.fn x = true ∨ X.env.scope.names.lookup x = some .local := by first | exact .inl rfl | exact .inr rfl | assumption) :
    PS X (.Assign [.Name x pos'] e pos) (tAsg te (gName i)) := by
  intro pins s σ H D I h
  refine wpAny_Assign_Name (thn (he pins s σ H _ I h) fun v s1 ⟨y, H1, I1, r1, q1⟩ => ?_) hs
  exact store_ok I1 hN hi hx r1 (fun s2 I2 => ⟨_, H1, I2, q1⟩) hf
end

/-! ### while -/
section
variable {X : Cx} {pos : Pos}
end

/-! ### what a loop or a comprehension walks -/
structure It where
  go : Nat → Hp → Prop
  yld : Nat → Hp → V → Hp → Prop
  stop : Nat → Hp → Prop
def FpOk (X : Cx) (pins : List (Addr × Obj)) (H : Hp) (b : Addr) : Prop :=
  H b = none ∧ b ≠ X.env.locals ∧ b ∉ X.fs ∧ (b ∈ X.ex ∨ X.s₀.heap.objs.size ≤ b) ∧ (∀ x c, X.env.cells.lookup x = some c → c ≠ b) ∧ ∀ p ∈ X.pn ++ pins, p.1 ≠ b
theorem Inv.fpOk {X : Cx} {pins : List (Addr × Obj)} {σ : St} {H H' : Hp} {s : Shared} {b : Addr} (I : Inv X pins σ H s) (hb : s.heap.objs.size ≤ b) (hn : H' b = none) : FpOk X pins H' b := by
  refine ⟨hn, Nat.ne_of_gt (Nat.lt_of_lt_of_le I.lt hb), I.nofs hb, .inr (Nat.le_trans I.sz hb), fun x c e z => ?_, fun p hp z => ?_⟩
  · obtain ⟨v, q⟩ := I.cell x c e
    exact absurd (Nat.lt_of_lt_of_le q.lt (by rw [z]; exact hb)) (Nat.lt_irrefl _)
  · exact absurd (Nat.lt_of_lt_of_le (Heap.lt_size (I.pin p hp).1) (by rw [z]; exact hb)) (Nat.lt_irrefl _)
structure Turn (P : Program) (w : World) (K : PySem.W.Frag) (tg : Expr) (J : It) (fp : List Addr) (it : Addr) (tn : Nat → Heap → Prop) : Prop where
  mem : it ∈ fp
  obj : ∀ i h, tn i h → ∀ b ∈ fp, ∃ o, h.get? b = some o ∧ ∀ v, o.data ≠ .cell v
  keep : ∀ i h h', tn i h → (∀ b ∈ fp, ∀ o, h.get? b = some o → h'.get? b = some o) → tn i h'
  item : ∀ (X : Cx), X.prog = P → X.w = w → X.K = K → X.calm = true → ∀ (i : Nat) (pins : List (Addr × Obj)) (s : Shared) (σ : St) (H : Hp) (E : Value → Shared → Prop), Inv X pins σ H s → (∀ b ∈ fp, FpOk X pins H b) → tn i s.heap → J.go i H →
    wpAny (model P w) X.A (pyNext (.ref it)) (fun r s1 => ∃ u, r = some u ∧
      wpAny (model P w) X.A (letOwnedTupleGo tg (.ref it) u) (fun _ s2 => ∃ x H', Inv X pins σ H' s2 ∧ RelV x u ∧ J.yld i H x H' ∧ tn (i + 1) s2.heap ∧ ∀ b ∈ fp, H' b = none) E s1) E s
  done : ∀ (X : Cx), X.prog = P → X.w = w → X.K = K → X.calm = true → ∀ (i : Nat) (pins : List (Addr × Obj)) (s : Shared) (σ : St) (H : Hp) (E : Value → Shared → Prop), Inv X pins σ H s → (∀ b ∈ fp, FpOk X pins H b) → tn i s.heap → J.stop i H →
    wpAny (model P w) X.A (pyNext (.ref it)) (fun r s1 => r = none ∧ Inv X pins σ H s1) E s
  self : ∀ (A : Around) (i : Nat) (s : Shared) (Q : Value → Shared → Prop) (E : Value → Shared → Prop), tn i s.heap → Q (.ref it) s → wpAny (model P w) A (pyIter (.ref it)) Q E s
abbrev TI := St → Hp → (It → Hp → Prop) → Prop
def PIE (X : Cx) (pins : List (Addr × Obj)) (σ : St) (tg : Expr) (R : It → Hp → Prop) (itv : Value) (s2 : Shared) : Prop :=
  ∃ (it : Addr) (fp : List Addr) (tn : Nat → Heap → Prop) (J : It) (H' : Hp), itv = .ref it ∧ Inv X pins σ H' s2 ∧ Turn X.prog X.w X.K tg J fp it tn ∧ tn 0 s2.heap ∧ (∀ b ∈ fp, FpOk X pins H' b) ∧ R J H'
def PI (X : Cx) (tg iter : Expr) (wi : TI) : Prop :=
  ∀ (pins : List (Addr × Obj)) (s : Shared) (σ : St) (H : Hp) (R : It → Hp → Prop), Inv X pins σ H s → wi σ H R →
    wpAny (model X.prog X.w) X.A (eval iter X.env) (fun v s1 => wpAny (model X.prog X.w) X.A (pyIter v) (PIE X pins σ tg R) X.xe s1) X.xe s

theorem go_of {M : Model} {A : Around} {E : Value → Shared → Prop} {s : Shared} {tg : Expr} {it : Addr} {u : Value} {o : Obj} {n : String} {vs : Array Value} {Q : Unit → Shared → Prop} (ho : s.heap.get? it = some o) (hc : o.cls = .type n) (hd : o.data = .fields vs)
    (hn : ["enumerate", "zip", "dict_itemiterator", "dict_reverseitemiterator", "odict_iterator", "itertools.zip_longest", "itertools.pairwise"].contains n = false) (hQ : Q () s) : wpAny M A (letOwnedTupleGo tg (.ref it) u) Q E s := by
  unfold letOwnedTupleGo
  cases tg <;> first
    | exact wpAny_pure hQ
    | (cases u <;> first
        | exact wpAny_pure hQ
        | (refine wpAny_bind (wpAny_load ho ?_)
           rw [hc, hd]
           show wpAny M A (if (["enumerate", "zip", "dict_itemiterator", "dict_reverseitemiterator", "odict_iterator", "itertools.zip_longest", "itertools.pairwise"].contains n && vs[0]? == some (rawInt _)) = true then _ else _) Q E s
           rw [if_neg (by intro h; rw [hn, Bool.false_and] at h; cases h)]
           exact wpAny_pure hQ))

def Itl (K : PySem.W.Frag) (a : Addr) : It :=
  ⟨fun i H => ∃ xs x, SqL K H a xs ∧ xs[i]? = some x, fun i H x H' => H' = H ∧ ∀ xs, SqL K H a xs → xs[i]? = some x, fun i H => ∃ xs, SqL K H a xs ∧ xs.length ≤ i⟩
def Itt (K : PySem.W.Frag) (a : Addr) : It :=
  ⟨fun i H => ∃ xs x, SqT K H a xs ∧ xs[i]? = some x, fun i H x H' => H' = H ∧ ∀ xs, SqT K H a xs → xs[i]? = some x, fun i H => ∃ xs, SqT K H a xs ∧ xs.length ≤ i⟩
def Itr (lo : Int) (n : Nat) : It := ⟨fun i _ => i < n, fun i H x H' => H' = H ∧ x = .int (lo + i), fun i _ => n ≤ i⟩
theorem turn_list {P : Program} {w : World} {K : PySem.W.Frag} {tg : Expr} (a it : Addr) : Turn P w K tg (Itl K a) [it] it (fun i h => h.IsListIter it a i) where
  mem := by simp
  obj := fun i h st b hb => by
    have e : b = it := by simpa using hb
    subst e
    obtain ⟨o, e, c, d⟩ := st
    exact ⟨o, e, fun v z => by rw [d] at z; cases z⟩
  keep := fun i h h' st k => st.at fun o e => k it (by simp) o e
  item := by
    intro X hP hw hK hc i pins s σ H E I hf st hg
    subst hP hw hK
    obtain ⟨xs, x, hq, hx⟩ := hg
    obtain ⟨its, rv, p, hz⟩ := I.list hq
    obtain ⟨u, hu, ru⟩ := rv.get hx
    obtain ⟨f0, f1, f2, f3, f4, f5⟩ := hf it (by simp)
    refine wpAny_pyNext_list_item st p.isList (x := u) (by simpa using hu) fun h' st' sb => ?_
    have I1 : Inv X pins σ H { s with heap := h' } := I.turned (t' := s.toks) (fun b o hb e => (sb.2 b hb).trans e) f0 f1 f3 f4 f5
    obtain ⟨o, e, c, d⟩ := id st'
    exact ⟨u, rfl, go_of (s := { s with heap := h' }) e c d (by decide) ⟨x, H, I1, ru, ⟨rfl, fun ys hy => by rw [I.list_inj hy hq]; exact hx⟩, st', fun b hb => (hf b hb).1⟩⟩
  done := by
    intro X hP hw hK hc i pins s σ H E I hf st hg
    subst hP hw hK
    obtain ⟨xs, hq, hx⟩ := hg
    obtain ⟨its, rv, p, hz⟩ := I.list hq
    obtain ⟨f0, f1, f2, f3, f4, f5⟩ := hf it (by simp)
    have hl := rv.length
    exact wpAny_pyNext_list_end (I.ok.hd hc) st p.isList (by simp; omega) fun h' eb => ⟨rfl, I.turned (t' := s.toks) (fun b o hb e => eb b o hb e) f0 f1 f3 f4 f5⟩
  self := fun _ _ _ _ _ st h => wpAny_pyIter_listiter st h
theorem turn_tuple {P : Program} {w : World} {K : PySem.W.Frag} {tg : Expr} (a it : Addr) : Turn P w K tg (Itt K a) [it] it (fun i h => h.IsTupleIter it a i) where
  mem := by simp
  obj := fun i h st b hb => by
    have e : b = it := by simpa using hb
    subst e
    obtain ⟨o, e, c, d⟩ := st
    exact ⟨o, e, fun v z => by rw [d] at z; cases z⟩
  keep := fun i h h' st k => st.at fun o e => k it (by simp) o e
  item := by
    intro X hP hw hK hc i pins s σ H E I hf st hg
    subst hP hw hK
    obtain ⟨xs, x, hq, hx⟩ := hg
    obtain ⟨its, rv, p, hz⟩ := I.tuple hq
    obtain ⟨u, hu, ru⟩ := rv.get hx
    obtain ⟨f0, f1, f2, f3, f4, f5⟩ := hf it (by simp)
    refine wpAny_pyNext_tuple_item st (show s.heap.IsTuple a its.toArray from p) (x := u) (by simpa using hu) fun h' st' sb => ?_
    have I1 : Inv X pins σ H { s with heap := h' } := I.turned (t' := s.toks) (fun b o hb e => (sb.2 b hb).trans e) f0 f1 f3 f4 f5
    obtain ⟨o, e, c, d⟩ := id st'
    exact ⟨u, rfl, go_of (s := { s with heap := h' }) e c d (by decide) ⟨x, H, I1, ru, ⟨rfl, fun ys hy => by rw [I.tuple_inj hy hq]; exact hx⟩, st', fun b hb => (hf b hb).1⟩⟩
  done := by
    intro X hP hw hK hc i pins s σ H E I hf st hg
    subst hP hw hK
    obtain ⟨xs, hq, hx⟩ := hg
    obtain ⟨its, rv, p, hz⟩ := I.tuple hq
    obtain ⟨f0, f1, f2, f3, f4, f5⟩ := hf it (by simp)
    have hl := rv.length
    exact wpAny_pyNext_tuple_end (I.ok.hd hc) st (show s.heap.IsTuple a its.toArray from p) (by simp; omega) fun h' eb => ⟨rfl, I.turned (t' := s.toks) (fun b o hb e => eb b o hb e) f0 f1 f3 f4 f5⟩
  self := fun _ _ _ _ _ st h => wpAny_pyIter_tupleiter st h
theorem turn_range {P : Program} {w : World} {K : PySem.W.Frag} {tg : Expr} (it : Addr) (lo : Int) (n : Nat) : Turn P w K tg (Itr lo n) [it] it (fun i h => IsRangeIter h it (lo + (i : Nat) * 1) ((n : Int) - (i : Nat)) 1) where
  mem := by simp
  obj := fun i h st b hb => by
    have e : b = it := by simpa using hb
    subst e
    exact ⟨_, st, fun v z => by
      have z' : Data.fields _ = Data.cell v := z
      cases z'⟩
  keep := fun i h h' st k => k it (by simp) _ st
  item := by
    intro X hP hw hK hc i pins s σ H E I hf st hg
    subst hP hw hK
    obtain ⟨f0, f1, f2, f3, f4, f5⟩ := hf it (by simp)
    have W := Walks.range (prog := X.prog) (w := X.w) (I.ok.hd hc) it lo 1 n
    refine W.item i s _ _ hg st fun v h' tk hv st' kk => ?_
    obtain ⟨t, rfl⟩ := hv
    have I1 : Inv X pins σ H { s with heap := h', toks := tk } := I.turned (fun b o hb e => kk b o (by simpa using hb) e) f0 f1 f3 f4 f5
    refine ⟨_, rfl, go_of (s := { s with heap := h', toks := tk }) (n := "range_iterator") st' rfl rfl (by decide) ⟨.int (lo + i), H, I1, ⟨t, ?_⟩, ⟨rfl, rfl⟩, st', fun b hb => (hf b hb).1⟩⟩
    rw [Int.mul_one]
  done := by
    intro X hP hw hK hc i pins s σ H E I hf st hg
    subst hP hw hK
    obtain ⟨f0, f1, f2, f3, f4, f5⟩ := hf it (by simp)
    exact wpAny_pyNext_range_end (I.ok.hd hc) st (by have : n ≤ i := hg; omega) fun h' eb => ⟨rfl, I.turned (t' := s.toks) (fun b o hb e => eb b o hb e) f0 f1 f3 f4 f5⟩
  self := fun _ _ _ _ _ st h => wpAny_pyIter_rangeiter st h
end L2

namespace L2
open PySem PySem.Spec PyProof.Rows
section
variable {X : Cx} {tg : Expr}
theorem range_it {pins : List (Addr × Obj)} {σ : St} {H : Hp} {s : Shared} {R : It → Hp → Prop} {E : Value → Shared → Prop} {lo hi : Int} {t u v : Tok} {tk : Nat} (I : Inv X pins σ H s) (h1 : -(2 ^ 62) ≤ lo) (h2 : lo < 2 ^ 62) (h3 : -(2 ^ 62) ≤ hi) (h4 : hi < 2 ^ 62)
    (q : R (Itr lo (hi - lo).toNat) H) : wpAny (model X.prog X.w) X.A (pyIter (.ref s.heap.objs.size)) (PIE X pins σ tg R) E { s with heap := s.heap.push { cls := .type "range", data := .fields #[.int lo t, .int hi u, .int 1 v] }, toks := tk } := by
  refine wpAny_pyIter_range (IsRange.new ..) (small_one h1 h2 h3 h4) ?_
  have I1 : Inv X pins σ H { s with heap := s.heap.push { cls := .type "range", data := .fields #[.int lo t, .int hi u, .int 1 v] }, toks := tk } := I.kept fun b o e => Heap.get?_push_of_some _ e
  refine ⟨(s.heap.push { cls := .type "range", data := .fields #[.int lo t, .int hi u, .int 1 v] }).objs.size, [(s.heap.push { cls := .type "range", data := .fields #[.int lo t, .int hi u, .int 1 v] }).objs.size], _, _, H, rfl,
    I1.kept (t' := tk) fun b o e => Heap.get?_push_of_some _ e, turn_range _ lo (hi - lo).toNat, ?_, fun b hb => ?_, q⟩
  · have e1 : lo + ((0 : Nat) : Int) * 1 = lo := by simp
    have e2 : (((hi - lo).toNat : Nat) : Int) - ((0 : Nat) : Int) = Builtin.Range.rangeSize lo hi 1 := by rw [rangeSize_one]; split <;> omega
    show IsRangeIter _ _ (lo + ((0 : Nat) : Int) * 1) ((((hi - lo).toNat : Nat) : Int) - ((0 : Nat) : Int)) 1
    rw [e1, e2]
    exact Heap.get?_push_size _ rfl
  · have e : b = (s.heap.push { cls := .type "range", data := .fields #[.int lo t, .int hi u, .int 1 v] }).objs.size := by simpa using hb
    subst e
    exact I1.fpOk (Nat.le_refl _) (I1.hok.fresh (Nat.le_refl _))
def iRng1 (ta : TA) : TI := fun σ H R => ta σ H fun vs H1 => ∃ j : Int, vs = [.int j] ∧ -(2 ^ 62) ≤ j ∧ j < 2 ^ 62 ∧ R (Itr 0 j.toNat) H1
theorem pi_range1 {a : Expr} {ta : TA} {p pos : Pos} (hg : Gl X "range") (hm : X.mg "range" = none) (ha : PA X [a] ta) (hs : starEach [a] X.env = [(false, eval a X.env)] := by rfl) : PI X tg (.Call (.Name "range" p) [a] [] pos) (iRng1 ta) := by
  intro pins s σ H R I h
  refine Call_ (ld_blt I hg hm boot_range (PyProof.Rows.callWith_type1 (thn (ha pos pins s σ H _ I h) fun us s1 ⟨vs, H1, I1, r1, q1⟩ => ?_) hs rfl))
  obtain ⟨j, e, q1, q2, q⟩ := q1
  subst e
  cases r1 with
  | cons r rr =>
    cases rr
    obtain ⟨t, rfl⟩ := r
    exact call_range_1 (range_it I1 (by omega) (by omega) q1 q2 (by simpa using q))
/-! ### for -/
def tFor (wi : TI) (g : TG) (tb : TS) : TS := fun D σ H => wi σ H fun J H1 => ∃ W : Nat → Nat → St → Hp → Prop, (∃ m, W 0 m σ H1) ∧ ∀ i m σ H, W i m σ H →
  (J.stop i H ∧ D.nx σ H) ∨ (J.go i H ∧ ∃ N : St → Hp → Prop, (∀ σ' H', N σ' H' → ∃ m', m' < m ∧ W (i + 1) m' σ' H') ∧ ∀ x H', J.yld i H x H' → g x σ H' fun σ2 H2 => tb { D with nx := N, ct := N, bk := D.nx } σ2 H2)
def pinsAt (fp : List Addr) (h : Heap) : List (Addr × Obj) := fp.filterMap fun b => (h.get? b).map fun o => (b, o)
theorem mem_pinsAt {fp : List Addr} {h : Heap} {b : Addr} {o : Obj} (hb : b ∈ fp) (e : h.get? b = some o) : (b, o) ∈ pinsAt fp h := List.mem_filterMap.mpr ⟨b, hb, by rw [e]; rfl⟩
theorem of_pinsAt {fp : List Addr} {h : Heap} {p : Addr × Obj} (hp : p ∈ pinsAt fp h) : p.1 ∈ fp ∧ h.get? p.1 = some p.2 := by
  obtain ⟨b, hb, e⟩ := List.mem_filterMap.mp hp
  cases q : h.get? b with
  | none => rw [q] at e; cases e
  | some o =>
    rw [q] at e
    have e' : (b, o) = p := Option.some.inj e
    subst e'
    exact ⟨hb, q⟩
theorem Inv.pinned {pins : List (Addr × Obj)} {σ : St} {H : Hp} {s : Shared} {fp : List Addr} (I : Inv X pins σ H s) (hf : ∀ b ∈ fp, FpOk X pins H b) (ho : ∀ b ∈ fp, ∃ o, s.heap.get? b = some o ∧ ∀ v, o.data ≠ .cell v) : Inv X (pins ++ pinsAt fp s.heap) σ H s :=
  I.pins_of fun p hp => (List.mem_append.mp hp).elim (fun z => I.pin p (List.mem_append_right _ z)) fun z => by
    obtain ⟨hb, e⟩ := of_pinsAt z
    obtain ⟨f0, f1, f2, _⟩ := hf p.1 hb
    obtain ⟨o, e', d⟩ := ho p.1 hb
    rw [e] at e'; cases e'
    exact ⟨e, f0, f1, f2, d⟩
theorem Inv.unpinned {pins pl : List (Addr × Obj)} {σ : St} {H : Hp} {s : Shared} (I : Inv X (pins ++ pl) σ H s) : Inv X pins σ H s := I.pins_of fun p hp => I.pin p (List.mem_append_right _ (List.mem_append_left _ hp))
theorem ps_for {iter : Expr} {body : List Stmt} {wi : TI} {g : TG} {tb : TS} {pos : Pos} (hp : PassesOwn (model X.prog X.w) X.A X.env X.xe) (hc : X.calm = true) (hi : PI X tg iter wi) (hg : PG X tg g) (hb : PSs X body tb)
    (hs : ∀ x, foldedSetIterable iter X.env x = pure x := by intro _; rfl) : PS X (.For tg iter body [] pos) (tFor wi g tb) := by
  intro pins s σ H D I h
  refine wpAny_For (thn (hi pins s σ H _ I h) fun v s1 h1 => thn h1 fun itv s2 h2 => ?_) hs
  obtain ⟨it, fp, tn, J, H2, e, I2, T, st2, f2, W, ⟨m0, w0⟩, turn⟩ := h2
  subst e
  -- what stays true of the iterator's objects through the loop
  have stat : ∀ {H' : Hp}, (∀ b ∈ fp, H' b = none) → ∀ b ∈ fp, FpOk X pins H' b := fun hn b hb => ⟨hn b hb, (f2 b hb).2⟩
  refine codeAny_forLoop_any (fun n s' => ∃ i σ' H', Inv X pins σ' H' s' ∧ tn i s'.heap ∧ (∀ b ∈ fp, H' b = none) ∧ W i n σ' H') ?_ m0 ⟨0, σ, H2, I2, st2, fun b hb => (f2 b hb).1, w0⟩
  rintro n s3 ⟨i, σ3, H3, I3, st3, fr3, w3⟩
  rcases turn i n σ3 H3 w3 with ⟨stop, qn⟩ | ⟨go, N, hN, step⟩
  · refine wpAny_passesOwn hp (thn (T.done X rfl rfl rfl hc i pins s3 σ3 H3 X.xe I3 (stat fr3) st3 stop) fun r s4 ⟨hr, I4⟩ => ?_)
    subst hr
    exact wpAny_execs_nil ⟨σ3, H3, I4, qn⟩
  · refine wpAny_passesOwn hp (thn (T.item X rfl rfl rfl hc i pins s3 σ3 H3 X.xe I3 (stat fr3) st3 go) fun r s4 ⟨u, hr, h4⟩ => ?_)
    subst hr
    refine wpAny_passesOwn hp (thn h4 fun _ s5 ⟨x, H5, I5, r5, y5, st5, fr5⟩ => ?_)
    have I5' := I5.pinned (stat fr5) (T.obj _ _ st5)
    refine wpAny_passesOwn hp (thn (hg _ s5 σ3 H5 x u _ I5' r5 (step x H5 y5)) fun _ s6 ⟨σ6, H6, I6, q6⟩ => ?_)
    refine wpAny_passesOwn hp (thn (hb _ s6 σ6 H6 _ I6 q6) fun f s7 q7 => ?_)
    have again : ∀ {σ7 : St} {H7 : Hp}, Inv X (pins ++ pinsAt fp s5.heap) σ7 H7 s7 → N σ7 H7 → ∃ m, m < n ∧ ∃ i σ' H', Inv X pins σ' H' s7 ∧ tn i s7.heap ∧ (∀ b ∈ fp, H' b = none) ∧ W i m σ' H' := fun {σ7 H7} I7 n7 => by
      obtain ⟨m', hm, w7⟩ := hN σ7 H7 n7
      refine ⟨m', hm, i + 1, σ7, H7, I7.unpinned, T.keep _ _ _ st5 fun b hb o e => (I7.pin (b, o) (List.mem_append_right _ (List.mem_append_right _ (mem_pinsAt hb e)))).1, fun b hb => ?_, w7⟩
      obtain ⟨o, e, d⟩ := T.obj _ _ st5 b hb
      exact (I7.pin (b, o) (List.mem_append_right _ (List.mem_append_right _ (mem_pinsAt hb e)))).2.1
    cases f with
    | next => obtain ⟨σ7, H7, I7, n7⟩ := q7; exact again I7 n7
    | cont => obtain ⟨σ7, H7, I7, n7⟩ := q7; exact again I7 n7
    | brk => obtain ⟨σ7, H7, I7, q7⟩ := q7; exact ⟨σ7, H7, I7.unpinned, q7⟩
    | ret v => obtain ⟨x7, σ7, H7, I7, r7, q7⟩ := q7; exact ⟨x7, σ7, H7, I7.unpinned, r7, q7⟩
end

/-! ### the forms one uses -/
end L2

namespace L2
open PySem PySem.Spec PyProof.Rows

abbrev R2 := V → V → Hp → VK → Prop
def OpR (X : Cx) (f : Value → Value → Sem Value) (r : R2) : Prop :=
  ∀ (pins : List (Addr × Obj)) (s : Shared) (σ : St) (H : Hp) (x y : V) (v u : Value) (Q : VK), Inv X pins σ H s → RelV x v → RelV y u → r x y H Q →
    wpAny (model X.prog X.w) X.A (f v u) (EP X pins σ Q) X.xe s
def UnR (X : Cx) (f : Value → Sem Value) (r : V → Hp → VK → Prop) : Prop :=
  ∀ (pins : List (Addr × Obj)) (s : Shared) (σ : St) (H : Hp) (x : V) (v : Value) (Q : VK), Inv X pins σ H s → RelV x v → r x H Q →
    wpAny (model X.prog X.w) X.A (f v) (EP X pins σ Q) X.xe s
def CallR (X : Cx) (f : Value) (r : List V → Hp → VK → Prop) : Prop :=
  ∀ (pins : List (Addr × Obj)) (s : Shared) (σ : St) (H : Hp) (xs : List V) (us : List Value) (Q : VK), Inv X pins σ H s → Vals xs us → r xs H Q →
    wpAny (model X.prog X.w) X.A (call f us) (EP X pins σ Q) X.xe s
def TruR (X : Cx) (r : V → Hp → (Bool → Hp → Prop) → Prop) : Prop :=
  ∀ (pins : List (Addr × Obj)) (s : Shared) (σ : St) (H : Hp) (x : V) (v : Value) (Q : Bool → Hp → Prop), Inv X pins σ H s → RelV x v → r x H Q →
    wpAny (model X.prog X.w) X.A (truthy v) (TP X pins σ Q) X.xe s

def tOp (r : R2) (ta tb : TE) : TE := fun σ H Q => ta σ H fun x H1 => tb σ H1 fun y H2 => r x y H2 Q
def tUn (r : V → Hp → VK → Prop) (ta : TE) : TE := fun σ H Q => ta σ H fun x H1 => r x H1 Q
def rI (C : Int → Int → Prop) (g : Int → Int → V) : R2 := fun x y H Q => ∃ i j, x = .int i ∧ y = .int j ∧ C i j ∧ Q (g i j) H
def rI0 (g : Int → Int → V) : R2 := fun x y H Q => ∃ i j, x = .int i ∧ y = .int j ∧ Q (g i j) H
def rU (g : Int → V) : V → Hp → VK → Prop := fun x H Q => ∃ i, x = .int i ∧ Q (g i) H

section
variable {X : Cx} {a b c : Expr} {ta tb tc : TE} {pos : Pos}

theorem binT (ha : PE X a ta) (hb : PE X b tb) {pins : List (Addr × Obj)} {s : Shared} {σ : St} {H : Hp} {R : V → V → Hp → Prop} (I : Inv X pins σ H s)
    (h : ta σ H fun x H1 => tb σ H1 fun y H2 => R x y H2) {Q : Value → Shared → Prop} {f : Value → Value → Sem Value}
    (hf : ∀ v u s2 x y H2, Inv X pins σ H2 s2 → RelV x v → RelV y u → R x y H2 → wpAny (model X.prog X.w) X.A (f v u) Q X.xe s2) :
    wpAny (model X.prog X.w) X.A (eval a X.env) (fun v s₁ => wpAny (model X.prog X.w) X.A (eval b X.env) (fun u s₂ => wpAny (model X.prog X.w) X.A (f v u) Q X.xe s₂) X.xe s₁) X.xe s := by
  refine thn (ha pins s σ H _ I h) fun v s1 ⟨x, H1, I1, r1, q1⟩ => ?_
  refine thn (hb pins s1 σ H1 _ I1 q1) fun u s2 ⟨y, H2, I2, r2, q2⟩ => ?_
  exact hf v u s2 x y H2 I2 r1 r2 q2

theorem pe_op {op : Operator} {r : R2} (ho : OpR X (binaryOp op) r) (ha : PE X a ta) (hb : PE X b tb) : PE X (.BinOp a op b pos) (tOp r ta tb) := by
  intro pins s σ H Q I h
  exact wpAny_BinOp (binT ha hb I h fun v u s2 x y H2 I2 rx ry q => ho pins s2 σ H2 x y v u Q I2 rx ry q)
theorem pe_un {op : UnaryOp} {r : V → Hp → VK → Prop} (ho : UnR X (unaryOp op) r) (ha : PE X a ta) : PE X (.UnaryOp op a pos) (tUn r ta) := by
  intro pins s σ H Q I h
  exact UnaryOp_ (thn (ha pins s σ H _ I h) fun v s1 ⟨x, H1, I1, r1, q1⟩ => ho pins s1 σ H1 x v Q I1 r1 q1)
/-! ### ints -/
theorem opI {f : Value → Value → Sem Value} {C : Int → Int → Prop} {g : Int → Int → Int}
    (rule : ∀ (i j : Int) (t u : Tok) (s : Shared) (Q : Value → Shared → Prop) (E : Value → Shared → Prop), C i j → Q (.int (g i j) s.toks) { s with toks := s.toks + 1 } → wpAny (model X.prog X.w) X.A (f (.int i t) (.int j u)) Q E s) :
    OpR X f (rI C fun i j => .int (g i j)) := by
  intro pins s σ H x y v u Q I rx ry h
  obtain ⟨i, j, rfl, rfl, hc, q⟩ := h
  obtain ⟨t, rfl⟩ := rx
  obtain ⟨t', rfl⟩ := ry
  exact rule i j t t' s _ _ hc ⟨.int (g i j), H, I.tok _, ⟨_, rfl⟩, q⟩
theorem opI0 {f : Value → Value → Sem Value} {g : Int → Int → Int}
    (rule : ∀ (i j : Int) (t u : Tok) (s : Shared) (Q : Value → Shared → Prop) (E : Value → Shared → Prop), Q (.int (g i j) s.toks) { s with toks := s.toks + 1 } → wpAny (model X.prog X.w) X.A (f (.int i t) (.int j u)) Q E s) :
    OpR X f (rI0 fun i j => .int (g i j)) := by
  intro pins s σ H x y v u Q I rx ry h
  obtain ⟨i, j, rfl, rfl, q⟩ := h
  obtain ⟨t, rfl⟩ := rx
  obtain ⟨t', rfl⟩ := ry
  exact rule i j t t' s _ _ ⟨.int (g i j), H, I.tok _, ⟨_, rfl⟩, q⟩
theorem opB0 {f : Value → Value → Sem Value} {g : Int → Int → Bool}
    (rule : ∀ (i j : Int) (t u : Tok) (s : Shared) (Q : Value → Shared → Prop) (E : Value → Shared → Prop), Q (.bool (g i j)) s → wpAny (model X.prog X.w) X.A (f (.int i t) (.int j u)) Q E s) :
    OpR X f (rI0 fun i j => .bl (g i j)) := by
  intro pins s σ H x y v u Q I rx ry h
  obtain ⟨i, j, rfl, rfl, q⟩ := h
  obtain ⟨t, rfl⟩ := rx
  obtain ⟨t', rfl⟩ := ry
  exact rule i j t t' s _ _ ⟨.bl (g i j), H, I, rfl, q⟩

def CDiv (i j : Int) : Prop := 0 < j ∧ j < 1073741824
def CPow (i j : Int) : Prop := 0 ≤ j ∧ j ≤ 1000000 ∧ i.natAbs < 2 ^ 64
def CMul (i j : Int) : Prop := (-(2 ^ 64) < i ∧ i < 2 ^ 64) ∨ (-(2 ^ 64) < j ∧ j < 2 ^ 64)
theorem CMul.ok {i j : Int} (h : CMul i j) : IntMulOk i j := by
  rcases h with ⟨h1, h2⟩ | ⟨h1, h2⟩
  · exact .of_left (intBits_le_64 h1 h2)
  · exact .of_right (intBits_le_64 h1 h2)
theorem op_add : OpR X (binaryOp .Add) (rI0 fun i j => .int (i + j)) := opI0 fun _ _ _ _ _ _ _ q => add_int q
theorem op_sub : OpR X (binaryOp .Sub) (rI0 fun i j => .int (i - j)) := opI0 fun _ _ _ _ _ _ _ q => sub_int q
theorem op_mul : OpR X (binaryOp .Mult) (rI CMul fun i j => .int (i * j)) := opI fun _ _ _ _ _ _ _ hc q => mul_int q hc.ok
theorem op_fdiv : OpR X (binaryOp .FloorDiv) (rI CDiv fun i j => .int (i / j)) := opI fun i j _ _ _ _ _ hc q => by
  have h1 : (0 : Int) < j := hc.1
  have h2 : j < 1073741824 := hc.2
  exact floordiv_int (by omega) (by rw [Int.fdiv_eq_ediv_of_nonneg i (by omega)]; exact q) (.inl (PyProof.noPylong_small (by omega)))
theorem op_mod : OpR X (binaryOp .Mod) (rI (fun _ j => 0 < j) fun i j => .int (i % j)) := opI fun i j _ _ _ _ _ hc q => by
  have h1 : (0 : Int) < j := hc
  exact mod_int' (by omega) (by rw [Int.fmod_eq_emod_of_nonneg i (by omega)]; exact q)
theorem op_pow : OpR X (binaryOp .Pow) (rI CPow fun i j => .int (i ^ j.toNat)) := opI fun _ _ _ _ _ _ _ hc q => pow_int_small hc.1 hc.2.1 hc.2.2 q
theorem unI {f : Value → Sem Value} {g : Int → Int}
    (rule : ∀ (i : Int) (t : Tok) (s : Shared) (Q : Value → Shared → Prop) (E : Value → Shared → Prop), Q (.int (g i) s.toks) { s with toks := s.toks + 1 } → wpAny (model X.prog X.w) X.A (f (.int i t)) Q E s) :
    UnR X f (rU fun i => .int (g i)) := by
  intro pins s σ H x v Q I rx h
  obtain ⟨i, rfl, q⟩ := h
  obtain ⟨t, rfl⟩ := rx
  exact rule i t s _ _ ⟨.int (g i), H, I.tok _, ⟨_, rfl⟩, q⟩
theorem un_neg : UnR X (unaryOp .USub) (rU fun i => .int (-i)) := unI fun _ _ _ _ _ q => neg_int q
/-! ### bools among ints: n += (a < b) -/
end

/-! ### comparisons -/
section
variable {X : Cx} {a b c : Expr} {ta tb tc : TE} {pos : Pos}
theorem fin_bl {pins : List (Addr × Obj)} {σ : St} {H : Hp} {s : Shared} {Q : VK} {k k' : Bool} (I : Inv X pins σ H s) (q : Q (.bl k) H) (e : k = k') : EP X pins σ Q (.bool k') s := by
  subst e
  exact ⟨.bl k, H, I, rfl, q⟩
theorem op_lt : OpR X (compareOp .Lt) (rI0 fun i j => .bl (decide (i < j))) := opB0 fun _ _ _ _ _ _ _ q => lt_int q
theorem op_gt : OpR X (compareOp .Gt) (rI0 fun i j => .bl (decide (j < i))) := opB0 fun _ _ _ _ _ _ _ q => gt_int q
theorem op_ge : OpR X (compareOp .GtE) (rI0 fun i j => .bl (decide (j ≤ i))) := opB0 fun _ _ _ _ _ _ _ q => ge_int q
theorem op_in_str : OpR X (compareOp .In) (fun x y H Q => ∃ i j, x = .str i ∧ y = .str j ∧ Q (.bl (!(Builtin.Str.occurrences j i 0 j.length 1).isEmpty)) H) := by
  intro pins s σ H x y v u Q I rx ry h
  obtain ⟨i, j, rfl, rfl, q⟩ := h
  obtain ⟨t, rfl⟩ := rx
  obtain ⟨t', rfl⟩ := ry
  exact in_str (fin_bl I q rfl)

theorem op_notN : OpR X (compareOp .IsNot) (fun x y H Q => y = .non ∧ Q (.bl (!decide (x = .non))) H) := by
  intro pins s σ H x y v u Q I rx ry h
  obtain ⟨rfl, q⟩ := h
  cases ry
  refine isnot_none_gen (fin_bl I q ?_)
  cases x <;> first
    | (cases rx; rfl)
    | (obtain ⟨t, rfl⟩ := rx; rfl)

theorem OpR.or {f : Value → Value → Sem Value} {r r' : R2} (h : OpR X f r) (h' : OpR X f r') : OpR X f (fun x y H Q => r x y H Q ∨ r' x y H Q) := by
  intro pins s σ H x y v u Q I rx ry q
  rcases q with q | q
  · exact h pins s σ H x y v u Q I rx ry q
  · exact h' pins s σ H x y v u Q I rx ry q

theorem nomark (b : Expr) {op : CmpOp} (h : op ≠ .In := by decide) (h2 : op ≠ .NotIn := by decide) : behindInMarks op b = false := by
  have e1 : (op == CmpOp.In) = false := by cases op <;> first | rfl | exact absurd rfl h
  have e2 : (op == CmpOp.NotIn) = false := by cases op <;> first | rfl | exact absurd rfl h2
  cases b <;> simp [behindInMarks, e1, e2]
theorem pe_cmpR {op : CmpOp} {r : R2} (ho : OpR X (compareOp op) r) (ha : PE X a ta) (hb : PE X b tb) (hm : behindInMarks op b = false) : PE X (.Compare a [op] [b] pos) (tOp r ta tb) := by
  intro pins s σ H Q I h
  exact wpAny_Compare1 (binT ha hb I h fun v u s2 x y H2 I2 rx ry q => ho pins s2 σ H2 x y v u Q I2 rx ry q) hm
def tTest (t : TE) : TT := fun σ H Q => t σ H fun x H' => ∃ k, x = .bl k ∧ Q k H'
theorem pt_cmpR {op : CmpOp} {r : R2} (ho : OpR X (compareOp op) r) (ha : PE X a ta) (hb : PE X b tb) (hm : behindInMarks op b = false) : PT X (.Compare a [op] [b] pos) (tTest (tOp r ta tb)) := by
  intro pins s σ H Q I h
  refine wpAny_isTrue_Compare1 (thn (ha pins s σ H _ I h) fun v s1 ⟨x, H1, I1, r1, q1⟩ => thn (hb pins s1 σ H1 _ I1 q1) fun u s2 ⟨y, H2, I2, r2, q2⟩ =>
    thn (ho pins s2 σ H2 x y v u _ I2 r1 r2 q2) fun c s3 ⟨z, H3, I3, r3, k, e, q3⟩ => ?_) hm
  subst e
  cases r3
  exact wpAny_truthy_bool ⟨H3, I3, q3⟩
/-! ### truth -/
def TruV (K : PySem.W.Frag) (x : V) (H : Hp) (k : Bool) : Prop :=
  match x with
  | .non => k = false
  | .bl b => k = b
  | .int i => k = (i != 0)
  | .str y => y.length ≤ sizeLine ∧ k = ((y.length : Int) != 0)
  | .byt y => y.size ≤ sizeLine ∧ k = ((y.size : Int) != 0)
  | .ref p => (∃ xs, SqL K H p xs ∧ k = !xs.isEmpty) ∨ (∃ xs, SqT K H p xs ∧ k = !xs.isEmpty) ∨ ∃ kvs, H p = some (.dK kvs) ∧ k = !kvs.isEmpty
  | _ => False
theorem isEmpty_kv {κ : Type} {kvs : List (κ × V)} {vs : List (κ × Value)} (r : KV kvs vs) : (!vs.isEmpty) = !kvs.isEmpty := by
  cases r <;> rfl
theorem isEmpty_of {xs : List V} {its : List Value} (r : Vals xs its) : (!its.toArray.isEmpty) = !xs.isEmpty := by
  cases r <;> simp
theorem line63 : (sizeLine : Nat) < 2 ^ 63 := by rw [sizeLine_eq]; decide
theorem tru_ok : TruR X (fun x H Q => ∃ k, TruV X.K x H k ∧ Q k H) := by
  intro pins s σ H x v Q I rx h
  obtain ⟨k, e, q⟩ := h
  have hl := line63
  have hs : sizeLine = 16777216 := sizeLine_eq
  cases x with
  | non =>
    cases rx
    have e' : k = false := e
    subst e'
    exact truthy_none ⟨H, I, q⟩
  | bl b =>
    cases rx
    have e' : k = b := e
    subst e'
    exact wpAny_truthy_bool ⟨H, I, q⟩
  | int i =>
    obtain ⟨t, rfl⟩ := rx
    have e' : k = (i != 0) := e
    subst e'
    exact PySem.P.truthy_int ⟨H, I, q⟩
  | str y =>
    obtain ⟨t, rfl⟩ := rx
    obtain ⟨hy, e'⟩ : y.length ≤ sizeLine ∧ k = ((y.length : Int) != 0) := e
    subst e'
    exact PySem.P.truthy_str (by omega) ⟨H, I.tok _, q⟩
  | byt y =>
    obtain ⟨t, rfl⟩ := rx
    obtain ⟨hy, e'⟩ : y.size ≤ sizeLine ∧ k = ((y.size : Int) != 0) := e
    subst e'
    exact PySem.W.truthy_bytes (by omega) ⟨H, I.tok _, q⟩
  | ref p =>
    cases rx
    have e' : (∃ xs, SqL X.K H p xs ∧ k = !xs.isEmpty) ∨ (∃ xs, SqT X.K H p xs ∧ k = !xs.isEmpty) ∨ ∃ kvs, H p = some (.dK kvs) ∧ k = !kvs.isEmpty := e
    rcases e' with ⟨xs, hx, e'⟩ | ⟨xs, hx, e'⟩ | ⟨kvs, hx, e'⟩
    · subst e'
      obtain ⟨its, r, pl, hz⟩ := I.list hx
      have hlen := r.length
      exact wpAny_truthy_list pl.isList (by simp only [List.size_toArray]; omega) ⟨H, I.tok _, by rw [isEmpty_of r]; exact q⟩
    · subst e'
      obtain ⟨its, r, pl, hz⟩ := I.tuple hx
      have hlen := r.length
      exact truthy_tuple pl (by simp only [List.size_toArray]; omega) ⟨H, I.tok _, by rw [isEmpty_of r]; exact q⟩
    · subst e'
      obtain ⟨hz, hS, vs, r, m⟩ : kvs.length ≤ sizeLine ∧ (p == sysModules) = false ∧ ∃ vs, KV kvs vs ∧ s.heap.DictOf (mixKind X.prog X.w) p vs := I.hok p _ hx
      have hlen : kvs.length = vs.length := Paired.length r
      exact wpAny_truthy_dict hS m (by omega) ⟨H, I.tok _, by rw [isEmpty_kv r]; exact q⟩
  | _ => exact (show False from e).elim
theorem pt_truth (ha : PE X a ta) (he : ∀ whole, isTrue a X.env whole = (do let v ← whole; standAt a.pos; holding [v] (truthy v))) :
    PT X a (fun σ H Q => ta σ H fun x H' => ∃ k, TruV X.K x H' k ∧ Q k H') := by
  intro pins s σ H Q I h
  exact isTrue_plain (thn (ha pins s σ H _ I h) fun v s1 ⟨x, H1, I1, r1, q1⟩ => tru_ok pins s1 σ H1 x v Q I1 r1 q1) (he _)

/-! ### strs and bytes -/
theorem op_add_str : OpR X (binaryOp .Add) (fun x y H Q => ∃ i j, x = .str i ∧ y = .str j ∧ i.length + j.length ≤ sizeLine ∧ Q (.str (i ++ j)) H) := by
  intro pins s σ H x y v u Q I rx ry h
  obtain ⟨i, j, rfl, rfl, hz, q⟩ := h
  obtain ⟨t, rfl⟩ := rx
  obtain ⟨t', rfl⟩ := ry
  exact add_str (fun t' tk => ⟨.str (i ++ j), H, I.tok _, ⟨_, rfl⟩, q⟩) hz
/-! ### scalar builtins, by CallR -/
theorem vals1 {x : V} {us : List Value} (r : Vals [x] us) : ∃ u, us = [u] ∧ RelV x u := by
  cases r with
  | cons r1 r2 => cases r2; exact ⟨_, rfl, r1⟩
theorem vals2 {x y : V} {us : List Value} (r : Vals [x, y] us) : ∃ u w', us = [u, w'] ∧ RelV x u ∧ RelV y w' := by
  cases r with
  | cons r1 r2 =>
    cases r2 with
    | cons r3 r4 => cases r4; exact ⟨_, _, rfl, r1, r3⟩
theorem call_max2 (hc : X.calm = true) : CallR X (.builtin "max") (fun xs H Q => ∃ i j, xs = [.int i, .int j] ∧ Q (.int (if j > i then j else i)) H) := by
  intro pins s σ H xs us Q I r h
  obtain ⟨i, j, rfl, q⟩ := h
  obtain ⟨u, w', rfl, ⟨t, rfl⟩, ⟨t', rfl⟩⟩ := vals2 r
  refine max_two_ints (I.ok.hd hc) fun h' tk k => ⟨_, H, I.kept k, ?_, q⟩
  by_cases hj : j > i
  · rw [if_pos hj, if_pos hj]; exact ⟨_, rfl⟩
  · rw [if_neg hj, if_neg hj]; exact ⟨_, rfl⟩
theorem call_min2 (hc : X.calm = true) : CallR X (.builtin "min") (fun xs H Q => ∃ i j, xs = [.int i, .int j] ∧ Q (.int (if j < i then j else i)) H) := by
  intro pins s σ H xs us Q I r h
  obtain ⟨i, j, rfl, q⟩ := h
  obtain ⟨u, w', rfl, ⟨t, rfl⟩, ⟨t', rfl⟩⟩ := vals2 r
  refine min_two_ints (I.ok.hd hc) fun h' tk k => ⟨_, H, I.kept k, ?_, q⟩
  by_cases hj : j < i
  · rw [if_pos hj, if_pos hj]; exact ⟨_, rfl⟩
  · rw [if_neg hj, if_neg hj]; exact ⟨_, rfl⟩
def LenV (K : PySem.W.Frag) (x : V) (H : Hp) (n : Nat) : Prop :=
  match x with
  | .str y => y.length ≤ sizeLine ∧ n = y.length
  | .byt y => y.size ≤ sizeLine ∧ n = y.size
  | .ref p => (∃ xs, SqL K H p xs ∧ n = xs.length) ∨ ∃ xs, SqT K H p xs ∧ n = xs.length
  | _ => False
theorem call_len : CallR X (.builtin "len") (fun xs H Q => ∃ x n, xs = [x] ∧ LenV X.K x H n ∧ Q (.int n) H) := by
  intro pins s σ H xs us Q I r h
  obtain ⟨x, n, rfl, e, q⟩ := h
  obtain ⟨u, rfl, rx⟩ := vals1 r
  have hl := line63
  have hs : sizeLine = 16777216 := sizeLine_eq
  cases x with
  | str y =>
    obtain ⟨t, rfl⟩ := rx
    obtain ⟨hy, e'⟩ : y.length ≤ sizeLine ∧ n = y.length := e
    subst e'
    exact len_str (by omega) ⟨.int _, H, I.tok _, ⟨_, rfl⟩, q⟩
  | byt y =>
    obtain ⟨t, rfl⟩ := rx
    obtain ⟨hy, e'⟩ : y.size ≤ sizeLine ∧ n = y.size := e
    subst e'
    exact PySem.W.len_bytes (by omega) ⟨.int _, H, I.tok _, ⟨_, rfl⟩, q⟩
  | ref p =>
    cases rx
    have e' : (∃ xs, SqL X.K H p xs ∧ n = xs.length) ∨ ∃ xs, SqT X.K H p xs ∧ n = xs.length := e
    rcases e' with ⟨xs, hx, e'⟩ | ⟨xs, hx, e'⟩
    · subst e'
      obtain ⟨its, r', pl, hz⟩ := I.list hx
      have hlen := r'.length
      exact Calls.call_len_list pl.isList (by simp only [List.size_toArray]; omega) ⟨.int xs.length, H, I.tok _, ⟨_, by simp only [List.size_toArray]; rw [hlen]⟩, q⟩
    · subst e'
      obtain ⟨its, r', pl, hz⟩ := I.tuple hx
      have hlen := r'.length
      exact len_tuple pl (by simp only [List.size_toArray]; omega) ⟨.int xs.length, H, I.tok _, ⟨_, by simp only [List.size_toArray]; rw [hlen]⟩, q⟩
  | _ => exact (show False from e).elim
end
end L2

namespace L2
open PySem PySem.Spec PyProof.Rows

/-! ### an instance, its attributes a map -/
structure ObjM (h : Heap) (x dx C : Addr) (mA : Str → Option Value) : Prop where
  obj : h.get? x = some (PySem.W.instObj C dx)
  ns : h.Ns1 dx mA
  ne : dx ≠ x

section
variable {prog : Program} {w : World} {A : Around} {E : Value → Shared → Prop} {s : Shared} {K : PySem.W.Frag} {x dx C f : Addr} {mA : Str → Option Value} {name : Str} {v : Value}

end

/-! ### the attributes as a list of pairs -/
section
variable {P : Program} {w : World} {H H' : Hp} {h h' : Heap} {a C dx : Addr} {fs fs' : List (Str × V)}
end

/-! ### what of the text a class must have -/
structure Cls (K : PySem.W.Frag) (C : Addr) : Prop where
  pg : PySem.W.plainGet K C Str.empty = true
  hd : PySem.W.hasDictIn K C = true
  po : PySem.W.plainOver K C = true
  sa : PySem.W.findIn K (.ref C) "__setattr__" = some (some (.builtin "object.__setattr__"))
theorem Cls.get {K : PySem.W.Frag} {C : Addr} (c : Cls K C) (f : Str) : PySem.W.plainGet K C f = true := c.pg
structure Con (K : PySem.W.Frag) (C : Addr) (f : Str) (v : V) (u : Value) : Prop where
  at_ : PySem.W.findIn K (.ref C) f = some (some u)
  rel : RelV v u
  get : PySem.W.specialIn K u "__get__" = some none
  cp : PySem.W.copiedNames.contains f = false
structure Meth (K : PySem.W.Frag) (C : Addr) (m : Str) (f : Addr) : Prop where
  at_ : PySem.W.findIn K (.ref C) m = some (some (.ref f))
  fn : PySem.W.isFn K (.ref f) = true
  kp : PySem.W.keepIn K (.ref f) = true

section
variable {X : Cx} {pins : List (Addr × Obj)} {σ : St} {H : Hp} {s : Shared} {a C dx : Addr} {fs : List (Str × V)} {f : Str} {v : V} {A : Around} {E : Value → Shared → Prop}

end

/-! ### readings and rules -/
section
variable {X : Cx} {o e value : Expr} {f : Str} {pos pos' tpos : Pos} {ta tv : TE}
end

/-! ### isinstance -/
section
variable {X : Cx} {pins : List (Addr × Obj)} {σ : St} {H : Hp} {s : Shared} {A : Around} {E : Value → Shared → Prop} {Q : Value → Shared → Prop} {c : Value} {b : Bool}
inductive TyOf (K : PySem.W.Frag) (H : Hp) : V → Value → Prop where
  | non : TyOf K H .non (.type "NoneType")
  | bl (x : Bool) : TyOf K H (.bl x) (.type "bool")
  | int (i : Int) : TyOf K H (.int i) (.type "int")
  | str (x : Str) : TyOf K H (.str x) (.type "str")
  | flt (x : UInt64) : TyOf K H (.flt x) (.type "float")
  | lst {a : Addr} {xs : List V} (e : H a = some (.lst xs)) : TyOf K H (.ref a) (.type "list")
  | frz {a : Addr} {o : Obj} {xs : List V} (e : H a = some (.frz o (.lst xs))) : TyOf K H (.ref a) (.type "list")
  | tup {a : Addr} {xs : List V} (e : H a = some (.tup xs)) : TyOf K H (.ref a) (.type "tuple")
  | dK {a : Addr} {kvs : List (Key × V)} (e : H a = some (.dK kvs)) : TyOf K H (.ref a) (.type "dict")
  | dT {a : Addr} {kvs : List (List Key × V)} (e : H a = some (.dT kvs)) : TyOf K H (.ref a) (.type "dict")
  | ins {a C dx : Addr} {fs : List (Str × V)} (e : H a = some (.ins C dx fs)) (cl : Cls K C) (ha : PySem.W.findIn K (.ref C) "__class__" = some (some (.builtin "object.__class__")))
      (hn : PySem.W.specialIn K (.builtin "object.__class__") "__get__" = some (some (.builtin "getset_descriptor.__get__"))) (htk : PySem.W.takesIn K (.builtin "object.__class__") = some true)
      (hm : PySem.W.mroIn K C (.type "object") = some true) : TyOf K H (.ref a) (.ref C)
end
end L2

namespace L2
open PySem PySem.Spec PyProof.Rows

/-! ### room -/
structure Room (k : Nat) (A : Around) : Prop where
  hd : A.handled = none
  dp : A.depth + 3 * k + 5 < recursionLimit
  un : A.units + 16 * k + 200 < cLine
theorem Room.mono {j k : Nat} {A : Around} (r : Room k A) (h : j ≤ k) : Room j A := ⟨r.hd, by have := r.dp; omega, by have := r.un; omega⟩
theorem Room.deeper {k : Nat} {A : Around} (r : Room (k + 1) A) (env : Env) : Room k (A.deeper env) :=
  ⟨r.hd, by have := r.dp; show A.depth + 1 + 3 * k + 5 < _; omega, by have := r.un; show A.units + 3 + 16 * k + 200 < _; omega⟩
theorem Room.in1 {k : Nat} {A : Around} (r : Room (k + 1) A) : Room k A.in1 :=
  ⟨r.hd, by have := r.dp; show A.depth + 3 * k + 5 < _; omega, by have := r.un; show A.units + 1 + 16 * k + 200 < _; omega⟩
theorem Room.depth {k : Nat} {A : Around} (r : Room k A) : A.depth < recursionLimit := by have := r.dp; omega
theorem Room.units {k : Nat} {A : Around} (r : Room k A) : A.units + 64 < cLine := by have := r.un; omega
/-! ### argument lists and displays -/
def tNil : TA := fun _ H Q => Q [] H
def tCons (ta : TE) (tr : TA) : TA := fun σ H Q => ta σ H fun x H1 => tr σ H1 fun xs H2 => Q (x :: xs) H2
section
variable {X : Cx} {e : Expr} {es : List Expr} {te : TE} {t : TA} {pos : Pos}
theorem pa_nil : PA X [] tNil := fun _ _ _ _ H Q I h => Calls.spliced_nil ⟨[], H, I, .nil, h⟩
theorem pa_cons (ha : PE X e te) (hr : PA X es t) (hs : starEach (e :: es) X.env = (false, eval e X.env) :: starEach es X.env := by rfl) : PA X (e :: es) (tCons te t) := by
  intro pos pins s σ H Q I h
  rw [hs]
  show wpAny _ _ (spliced ((false, eval e X.env) :: backTo pos (starEach es X.env))) _ _ s
  refine Calls.spliced_cons (thn (ha pins s σ H _ I h) fun u s1 ⟨x, H1, I1, r1, q1⟩ => ?_)
  exact thn (hr pos pins s1 σ H1 _ I1 q1) fun us s2 ⟨xs, H2, I2, r2, q2⟩ => ⟨x :: xs, H2, I2, .cons r1 r2, q2⟩

def tTup (t : TA) : TE := fun σ H Q => t σ H fun xs H1 => xs.length ≤ sizeLine ∧ ∀ p, H1 p = none → Q (.ref p) (upd H1 p (.tup xs))
def tLst (t : TA) : TE := fun σ H Q => t σ H fun xs H1 => xs.length ≤ sizeLine ∧ ∀ p, H1 p = none → Q (.ref p) (upd H1 p (.lst xs))
theorem pe_tup {x1} (h : PA X es t) : PE X (.Tuple es x1 pos) (tTup t) := by
  intro pins s σ H Q I hq
  refine wpAny_Tuple_spliced (thn (h pos pins s σ H _ I hq) fun us s1 ⟨xs, H1, I1, r, z, q⟩ => ⟨by rw [← r.length]; exact z, ?_⟩)
  have hf : H1 s1.heap.objs.size = none := I1.hok.fresh (Nat.le_refl _)
  refine ⟨.ref s1.heap.objs.size, upd H1 s1.heap.objs.size (.tup xs), I1.laid (t' := s1.toks) (fun b u e => Heap.get?_push_of_some _ e) (Nat.le_refl _) ?_, rfl, q _ hf⟩
  exact ⟨z, us, r, ⟨_, Heap.get?_push_size _ rfl, rfl, _, rfl⟩⟩
theorem pe_lst (h : PA X es t) : PE X (.List es pos) (tLst t) := by
  intro pins s σ H Q I hq
  refine wpAny_List_spliced (thn (h pos pins s σ H _ I hq) fun us s1 ⟨xs, H1, I1, r, z, q⟩ => ⟨by rw [← r.length]; exact z, ?_⟩)
  have hf : H1 s1.heap.objs.size = none := I1.hok.fresh (Nat.le_refl _)
  refine ⟨.ref s1.heap.objs.size, upd H1 s1.heap.objs.size (.lst xs), I1.laid (t' := s1.toks) (fun b u e => Heap.get?_push_of_some _ e) (Nat.le_refl _) ?_, rfl, q _ hf⟩
  exact ⟨z, us, 0, r, Heap.get?_push_size _ rfl⟩
end

/-! ### what a def promises -/
abbrev Sp := List V → Hp → VK → XK → Prop
abbrev CXT := List Env → Hp → Shared → XK → Value → Shared → Prop

structure Env0 (P : Program) (w : World) (K : PySem.W.Frag) (mg : Str → Option Value) (base : Heap) (A : Around) (outer : List Env) (s : Shared) (H : Hp) : Prop where
  frames : A.frames = some outer
  mod : Mod K mg base
  bs : ∀ b o, base.get? b = some o → s.heap.get? b = some o ∧ H b = none
  bsz : base.objs.size ≤ s.heap.objs.size
  funs : s.heap.FunFrames base outer
  frf : ∀ b ∈ frs outer, H b = none
  hok : HOk P w H s.heap
  bare : AllBare s.gens
def CE (outer : List Env) (P : Program) (w : World) (H : Hp) (s : Shared) (Q : VK) (u : Value) (s' : Shared) : Prop :=
  ∃ v H', s'.os = s.os ∧ AllBare s'.gens ∧ Un (frs outer) [] H H' s.heap s'.heap ∧ HOk P w H' s'.heap ∧ RelV v u ∧ Q v H'
def CR (CX : CXT) (outer : List Env) (P : Program) (w : World) (H : Hp) (s : Shared) (Q : VK) (E : XK) (r : Result) (s' : Shared) : Prop :=
  match r with
  | .ok (.ret u) => CE outer P w H s Q u s'
  | .ok _ => False
  | .error e => CX outer H s E e s'
structure FnOk (P : Program) (w : World) (K : PySem.W.Frag) (mg : Str → Option Value) (base : Heap) (CX : CXT) (k : Nat) (f : Addr) (fd : FuncData) (ps : List Str) (sp : Sp) : Prop where
  len : ∀ vs H Q E, sp vs H Q E → vs.length = ps.length
  run : ∀ (A : Around) (outer : List Env) (s : Shared) (H : Hp) (args : Args) (us : List Value) (vs : List V) (Q : VK) (E : XK), Room k A → Env0 P w K mg base A outer s H → BindsTo s fd args (ps.zip us) → Vals vs us → sp vs H Q E →
    codeAny (model P w) A (.call (.ref f) args) (CR CX outer P w H s Q E) s
theorem FnOk.mono {P : Program} {w : World} {K : PySem.W.Frag} {mg : Str → Option Value} {base : Heap} {CX : CXT} {j k : Nat} {f : Addr} {fd : FuncData} {ps : List Str} {sp : Sp} (F : FnOk P w K mg base CX j f fd ps sp) (h : j ≤ k) :
    FnOk P w K mg base CX k f fd ps sp := ⟨F.len, fun A outer s H args us vs Q E hr => F.run A outer s H args us vs Q E (hr.mono h)⟩
theorem FnOk.imp {P : Program} {w : World} {K : PySem.W.Frag} {mg : Str → Option Value} {base : Heap} {CX : CXT} {k : Nat} {f : Addr} {fd : FuncData} {ps : List Str} {sp sp' : Sp} (F : FnOk P w K mg base CX k f fd ps sp)
    (h : ∀ vs H Q E, sp' vs H Q E → sp vs H Q E) : FnOk P w K mg base CX k f fd ps sp' :=
  ⟨fun vs H Q E q => F.len vs H Q E (h _ _ _ _ q), fun A outer s H args us vs Q E hr he hb hv hs => F.run A outer s H args us vs Q E hr he hb hv (h _ _ _ _ hs)⟩

theorem Env0.in1 {P : Program} {w : World} {K : PySem.W.Frag} {mg : Str → Option Value} {base : Heap} {A : Around} {outer : List Env} {s : Shared} {H : Hp} (e : Env0 P w K mg base A outer s H) :
    Env0 P w K mg base A.in1 outer s H := ⟨e.frames, e.mod, e.bs, e.bsz, e.funs, e.frf, e.hok, e.bare⟩

section
variable {X : Cx} {pins : List (Addr × Obj)} {σ : St} {H : Hp} {s s' : Shared}
theorem Inv.env0 (I : Inv X pins σ H s) : Env0 X.prog X.w X.K X.mg X.base X.A X.stack s H :=
  ⟨I.ok.frames, I.ok.mod, I.bs, Nat.le_trans I.ok.bsz I.sz, I.stack, I.stkFree, I.hok, I.bare⟩
theorem Inv.after {Q : VK} {u : Value} (I : Inv X pins σ H s) (h : CE X.stack X.prog X.w H s Q u s') : EP X pins σ Q u s' := by
  obtain ⟨v, H', os, bare, un, hok, r, q⟩ := h
  obtain ⟨hh, g, d, t, os'⟩ := s'
  obtain rfl : os' = s.os := os
  exact ⟨v, H', I.call (h' := hh) (g' := g) (d' := d) (t' := t) (ch := []) un hok bare (fun b z => absurd z (by simp)), r, q⟩
end

/-! ### calls -/
def Binds (K : PySem.W.Frag) (fd : FuncData) (ps : List Str) (ds : List Value) : Prop :=
  ∀ (s : Shared) (us : List Value), K.In s.heap → (us ++ ds).length = ps.length → BindsTo s fd ⟨us, []⟩ (ps.zip (us ++ ds))
theorem Binds.all {K : PySem.W.Frag} {fd : FuncData} {ps : List Str} (h : ∀ us : List Value, us.length = ps.length → bindArgs fd ⟨us, []⟩ = pure (ps.zip us)) : Binds K fd ps [] := fun s us _ hl => by
  rw [List.append_nil] at hl ⊢
  exact .of_eq (h us hl)

section
variable {X : Cx} {CX : CXT} {k : Nat} {f C : Addr} {fd : FuncData} {ps : List Str} {sp : Sp} {dvs : List V} {ds : List Value} {E : XK} {x m : Str} {p pos apos : Pos} {e o : Expr} {es : List Expr} {ta : TE} {t : TA}

structure Mk (K : PySem.W.Frag) (C f : Addr) : Prop where
  makes : PySem.W.makesIn K C = true
  init : PySem.W.findIn K (.ref C) "__init__" = some (some (.ref f))
  fn : PySem.W.isFn K (.ref f) = true
  kp : PySem.W.keepIn K (.ref C) = true

end

/-! ### keywords -/
section
variable {X : Cx} {CX : CXT} {k : Nat} {f C : Addr} {fd : FuncData} {ps ks : List Str} {sp : Sp} {E : XK} {x m : Str} {p pos apos kpos : Pos} {e o : Expr} {es : List Expr} {kws : List Keyword} {te ta : TE} {t tk : TA} {nm : Option Str}
structure KBinds (K : PySem.W.Frag) (fd : FuncData) (ps ks : List Str) (g : List Value → List Value → List Value) (gV : List V → List V → List V) : Prop where
  to : ∀ (s : Shared) (us ws : List Value), K.In s.heap → (g us ws).length = ps.length → BindsTo s fd ⟨us, ks.zip ws⟩ (ps.zip (g us ws))
  rel : ∀ {vs : List V} {us : List Value} {zs : List V} {ws : List Value}, Vals vs us → Vals zs ws → Vals (gV vs zs) (g us ws)
variable {g : List Value → List Value → List Value} {gV : List V → List V → List V}
end

/-! ### a def's body keeps its promise -/
structure FnScope (N P : List Str) (sc : Scope) : Prop where
  kind : sc.kind = .function
  co : sc.isCoroutine = false
  gen : sc.isGenerator = false
  nd : N.Nodup
  pre : N.take P.length = P
  par : ∀ x ∈ P, sc.names.lookup x = some .local ∨ sc.names.lookup x = some .cell
  nofree : ∀ y ∈ sc.names, y.2 ≠ .free

theorem bindL_out {kindOf : Str → Option NameKind} {x : Str} : ∀ {binds : List (Str × Value)} {m : Str → Option Value}, (∀ v, (x, v) ∉ binds) → bindL kindOf binds m x = m x
  | [], _, _ => rfl
  | (n, v) :: r, m, h => by
    unfold bindL
    rw [bindL_out fun w hw => h w (List.mem_cons_of_mem _ hw)]
    split
    · have : x ≠ n := by rintro rfl; exact h v List.mem_cons_self
      simp [this]
    · rfl
theorem bindC_out {kindOf : Str → Option NameKind} {x : Str} : ∀ {binds : List (Str × Value)} {m : Str → Option Value}, (∀ v, (x, v) ∉ binds) → bindC kindOf binds m x = m x
  | [], _, _ => rfl
  | (n, v) :: r, m, h => by
    unfold bindC
    rw [bindC_out fun w hw => h w (List.mem_cons_of_mem _ hw)]
    split
    · rfl
    · have : x ≠ n := by rintro rfl; exact h v List.mem_cons_self
      simp [this]
theorem bindL_get {kindOf : Str → Option NameKind} {x : Str} {v : Value} : ∀ {P : List Str} {vs : List Value} {i : Nat} {m : Str → Option Value}, P.Nodup → P[i]? = some x → vs[i]? = some v → kindOf x = some .local →
    bindL kindOf (P.zip vs) m x = some v
  | [], _, _, _, _, h, _, _ => by simp at h
  | _ :: _, [], _, _, _, _, h, _ => by simp at h
  | p :: P, w :: vs, 0, m, nd, h1, h2, hk => by
    simp at h1 h2; subst h1; subst h2
    show bindL kindOf ((p, w) :: P.zip vs) m p = _
    unfold bindL
    rw [bindL_out fun v hv => (List.nodup_cons.mp nd).1 (List.of_mem_zip hv).1, if_pos hk]
    simp
  | p :: P, w :: vs, i + 1, m, nd, h1, h2, hk => by
    show bindL kindOf ((p, w) :: P.zip vs) m x = _
    unfold bindL
    exact bindL_get (i := i) (List.nodup_cons.mp nd).2 (by simpa using h1) (by simpa using h2) hk
theorem bindC_get {kindOf : Str → Option NameKind} {x : Str} {v : Value} : ∀ {P : List Str} {vs : List Value} {i : Nat} {m : Str → Option Value}, P.Nodup → P[i]? = some x → vs[i]? = some v → kindOf x ≠ some .local →
    bindC kindOf (P.zip vs) m x = some v
  | [], _, _, _, _, h, _, _ => by simp at h
  | _ :: _, [], _, _, _, _, h, _ => by simp at h
  | p :: P, w :: vs, 0, m, nd, h1, h2, hk => by
    simp at h1 h2; subst h1; subst h2
    show bindC kindOf ((p, w) :: P.zip vs) m p = _
    unfold bindC
    rw [bindC_out fun v hv => (List.nodup_cons.mp nd).1 (List.of_mem_zip hv).1, if_neg hk]
    simp
  | p :: P, w :: vs, i + 1, m, nd, h1, h2, hk => by
    show bindC kindOf ((p, w) :: P.zip vs) m x = _
    unfold bindC
    exact bindC_get (i := i) (List.nodup_cons.mp nd).2 (by simpa using h1) (by simpa using h2) hk

def start (N : List Str) (vs : List V) : St := vs.map some ++ List.replicate (N.length - vs.length) none

def cxOf (CX : CXT) (P : Program) (w : World) (K : PySem.W.Frag) (mg : Str → Option Value) (base : Heap) (N : List Str) (qual : Str) (scope : Scope) (f : Addr) (cd : Value) (A : Around) (outer : List Env) (s : Shared) (H : Hp) (E : XK) : Cx where
  prog := P
  w := w
  K := K
  mg := mg
  base := base
  A := A.deeper (envOfC qual scope s.heap.objs.size f cd)
  N := N
  s₀ := s
  H₀ := H
  env := envOfC qual scope s.heap.objs.size f cd
  outer := outer
  stack := envOfC qual scope s.heap.objs.size f cd :: outer
  ex := []
  calm := true
  fn := fun _ => true
  pn := []
  xe := fun e s' => wpAny (model P w) (A.deeper (envOfC qual scope s.heap.objs.size f cd)) (leaving (envOfC qual scope s.heap.objs.size f cd) e) (fun _ s'' => CX outer H s E e s'') (fun e' s'' => CX outer H s E e' s'') s'

theorem cell_has {sc : Scope} {n : Nat} {x : Str} (h : sc.names.lookup x = some .cell) : ∃ c, (cellsFrom n sc.names []).lookup x = some c := by
  have q := PySem.W.cellsFrom_some sc.names n [] (.inl h)
  exact Option.isSome_iff_exists.mp q

theorem inv_start {CX : CXT} {P : Program} {w : World} {K : PySem.W.Frag} {mg : Str → Option Value} {base : Heap} {N ps : List Str} {qual : Str} {scope : Scope} {f : Addr} {cd : Value} {A : Around} {outer : List Env} {s s1 : Shared} {H : Hp} {E : XK} {us : List Value} {vs : List V}
    (S : FnScope N ps scope) (hd : A.handled = none) (e0 : Env0 P w K mg base A outer s H) (hl : vs.length = ps.length) (r : Vals vs us)
    (x : InCallC s s.heap.objs.size (bindL (envOfC qual scope s.heap.objs.size f cd).kindOf (ps.zip us) fun _ => none) (cellsFrom (s.heap.objs.size + 1) scope.names []) (bindC (envOfC qual scope s.heap.objs.size f cd).kindOf (ps.zip us) fun _ => none) s1) :
    Inv (cxOf CX P w K mg base N qual scope f cd A outer s H E) [] (start N vs) H s1 := by
  have hpl : ps.length ≤ N.length := by have := congrArg List.length S.pre; rw [List.length_take] at this; omega
  obtain ⟨h1, tk, rfl, hk⟩ := x.done
  have noA : ∀ b : Addr, b ∉ (cxOf CX P w K mg base N qual scope f cd A outer s H E).ex := fun b z => absurd (show b ∈ ([] : List Addr) from z) (by simp)
  refine ⟨⟨e0.mod, S.kind, rfl, rfl, Nat.le_refl _, fun y z c h1 h2 => ?_, fun y hy => ?_, fun y c _ h => ?_, fun _ => hd, Around.frames_deeper e0.frames, .inr ⟨rfl, rfl⟩, fun b z => absurd z (noA b), e0.bs, e0.bsz, fun b _ _ => noA b, fun b z => absurd z (noA b), e0.funs, e0.frf⟩,
    rfl, e0.bare, Un.kept hk, ⟨_, x.toInCall.ns, fun i y v h1 h2 h3 => ?_⟩, fun y c h => ⟨_, x.cell y c h⟩, e0.hok.fresh (Nat.le_refl _), fun y c h => ?_, fun p hp => absurd (show p ∈ ([] : List (Addr × Obj)) from hp) (by simp), e0.hok.kept hk, ?_⟩
  · exact name_of_addr x.apart (PySem.mem_of_lookup h1) (PySem.mem_of_lookup h2)
  · have hy : scope.names.lookup y = some .cell ∨ scope.names.lookup y = some .free := hy
    rcases hy with hy | hy
    · exact cell_has hy
    · exact absurd rfl (S.nofree _ (PySem.mem_of_lookup hy))
  · exact Nat.le_of_lt (x.above y c (PySem.mem_of_lookup h))
  · have hi : i < vs.length := by
      unfold start at h2
      by_cases hi : i < vs.length
      · exact hi
      · rw [List.getElem?_append_right (by simpa using hi)] at h2
        rw [List.getElem?_replicate] at h2
        split at h2 <;> cases h2
    have ha : vs[i]? = some v := by
      unfold start at h2
      rw [List.getElem?_append_left (by simpa using hi), List.getElem?_map] at h2
      cases e : vs[i]? with
      | none => rw [e] at h2; cases h2
      | some a => rw [e] at h2; cases h2; rfl
    obtain ⟨u, hu, rv⟩ := r.get ha
    have hp : ps[i]? = some y := by
      rw [← S.pre, List.getElem?_take_of_lt (by omega)]; exact h1
    have ndP : ps.Nodup := by rw [← S.pre]; exact S.nd.sublist (List.take_sublist _ _)
    refine ⟨u, rv, ?_⟩
    rcases S.par y (List.mem_of_getElem? hp) with k | k
    · exact .inl ⟨k, bindL_get ndP hp hu k⟩
    · obtain ⟨c, e⟩ := cell_has (n := s.heap.objs.size + 1) k
      refine .inr ⟨.inl k, c, e, ?_⟩
      have q := x.cell y c e
      rw [bindC_get ndP hp hu (by show scope.names.lookup y ≠ _; rw [k]; decide)] at q
      exact q
  · exact e0.hok.fresh (Nat.le_of_lt (x.above y c (PySem.mem_of_lookup h)))
  · unfold start
    show _ = N.length
    rw [List.length_append, List.length_map, List.length_replicate]
    omega

theorem fn_of {CX : CXT} {P : Program} {w : World} {K : PySem.W.Frag} {mg : Str → Option Value} {base : Heap} {k : Nat} {f : Addr} {name qual : Str} {params : Arguments} {body : List Stmt} {scope : Scope} {dV kV doc pm cdv ct oc : Value} {an od : Option Addr}
    {osl : Array (Option Value)} {N ps : List Str} {sp : Sp} (lk : K.lookup f = some ⟨oc, od, .func (PySem.W.fnOf name qual params body scope dV kV doc pm an cdv ct), osl⟩) (hcd : PySem.W.codeIn K cdv qual = true) (S : FnScope N ps scope)
    (len : ∀ vs H Q E, sp vs H Q E → vs.length = ps.length)
    (hbody : ∀ (A : Around) (outer : List Env) (s : Shared) (H : Hp) (vs : List V) (Q : VK) (E : XK), Room k (A.deeper (envOfC qual scope s.heap.objs.size f cdv)) → sp vs H Q E →
      ∃ t, PSs (cxOf CX P w K mg base N qual scope f cdv A outer s H E) body t ∧ t { nx := fun _ H' => Q .non H', rt := Q } (start N vs) H) :
    FnOk P w K mg base CX (k + 1) f (PySem.W.fnOf name qual params body scope dV kV doc pm an cdv ct) ps sp := by
  refine ⟨len, fun A outer s H args us vs Q E hr e0 hb r hsp => ?_⟩
  have hl := len _ _ _ _ hsp
  have KX : K.In s.heap := e0.mod.kin.keeps fun b o e => (e0.bs b o e).1
  have lim : s.heap.NoLimit := e0.mod.nolimit.keeps fun b o e => (e0.bs b o e).1
  have hkind : ∀ y ∈ ps.zip us, scope.names.lookup y.1 = some .local ∨ (scope.names.lookup y.1 = some .cell ∧ ((cellsFrom (s.heap.objs.size + 1) scope.names []).lookup y.1).isSome = true) := fun ⟨n, v⟩ hy => by
    rcases S.par n (List.of_mem_zip hy).1 with q | q
    · exact .inl q
    · exact .inr ⟨q, PySem.W.cellsFrom_some _ _ _ (.inl q)⟩
  refine codeAny_call_function hr.depth (KX _ _ lk) rfl S.co S.gen rfl (PySem.W.codeRec_of KX hcd) (hb _ _ _ _ ?_)
  refine wpAny_newFunctionEnv_cells S.kind hkind fun env he s1 x => ?_
  subst he
  refine ⟨lim.keeps x.toInCall.keep, codeAny_func ?_⟩
  obtain ⟨t, ht, hq⟩ := hbody A outer s H vs Q E (hr.deeper _) hsp
  have I : Inv (cxOf CX P w K mg base N qual scope f cdv A outer s H E) [] (start N vs) H s1 := inv_start S hr.hd e0 hl r x
  refine wpAny_mono (ht [] s1 (start N vs) H _ I hq) (fun fl s' hs => ?_) fun e s' hs => hs
  have fin : ∀ {σ' : St} {H' : Hp} {v : V} {u : Value}, Inv (cxOf CX P w K mg base N qual scope f cdv A outer s H E) [] σ' H' s' → RelV v u → Q v H' → CE outer P w H s Q u s' :=
    fun {σ' H' v u} J rv q => ⟨v, H', J.os, J.bare, J.base, J.hok, rv, q⟩
  cases fl with
  | ret u =>
    obtain ⟨v, σ', H', J, rv, q⟩ := hs
    exact fin J rv q
  | next =>
    obtain ⟨σ', H', J, q⟩ := hs
    exact fin (v := V.non) (u := Value.none) J rfl q
  | brk =>
    obtain ⟨_, _, _, q⟩ := hs
    exact False.elim q
  | cont =>
    obtain ⟨_, _, _, q⟩ := hs
    exact False.elim q
end L2

namespace L2
open PySem PySem.Spec PyProof.Rows
section
variable {X : Cx} {x : Str} {p pos : Pos} {e : Expr} {es : List Expr} {t : TA} {id T : String} {r : List V → Hp → VK → Prop}

def tCB (r : List V → Hp → VK → Prop) (t : TA) : TE := fun σ H Q => t σ H fun vs H1 => r vs H1 Q
theorem pe_callB (hc : CallR X (.builtin id) r) (hg : Gl X x) (hm : X.mg x = none) (hv : bootBuiltins x = some (.builtin id)) (ha : PA X (e :: es) t) (hn : x ≠ "__name__" := by decide) (hdb : (x == ("__debug__" : Str)) = false := by decide)
    (he : starEach (e :: es) X.env = (false, eval e X.env) :: starEach es X.env := by rfl) (hpl : (backTo pos (starEach es X.env)).any (·.1) = false := by rfl) : PE X (.Call (.Name x p) (e :: es) [] pos) (tCB r t) := by
  intro pins s σ H Q I h
  refine wpAny_Call_Name_kw (ld_blt I hg hm hv ?_ hn hdb)
  exact PyProof.Rows.callWith_builtin1 (thn (ha pos pins s σ H _ I h) fun us s1 ⟨vs, H1, I1, r1, q1⟩ => hc pins s1 σ H1 vs us Q I1 r1 q1) he hpl
theorem pe_callTy (hc : CallR X (.type T) r) (hg : Gl X x) (hm : X.mg x = none) (hv : bootBuiltins x = some (.type T)) (ha : PA X (e :: es) t) (hn : x ≠ "__name__" := by decide) (hdb : (x == ("__debug__" : Str)) = false := by decide)
    (he : starEach (e :: es) X.env = (false, eval e X.env) :: starEach es X.env := by rfl) (hpl : (backTo pos (starEach es X.env)).any (·.1) = false := by rfl) : PE X (.Call (.Name x p) (e :: es) [] pos) (tCB r t) := by
  intro pins s σ H Q I h
  refine wpAny_Call_Name_kw (ld_blt I hg hm hv ?_ hn hdb)
  exact PyProof.Rows.callWith_type1 (thn (ha pos pins s σ H _ I h) fun us s1 ⟨vs, H1, I1, r1, q1⟩ => hc pins s1 σ H1 vs us Q I1 r1 q1) he hpl
end
end L2

namespace HT
open PySem PyProof.Rows

section
open PySem.SeqAt
open PySem.AutoSeq1 (wpAny_loadPart')
open PySem.MeetsSeq PySem.MeetsSeq2 PySem.MeetsSeq3

end

section
variable {prog : Program} {w : World} {A : Around} {E : Value → Shared → Prop} {s : Shared}

theorem cat_tup {t b : Addr} {vs ws : List Value} {Q : Value → Shared → Prop} (ht : IsTup s.heap t vs.toArray) (hb : IsTup s.heap b ws.toArray) (hv : vs ≠ [])
    (h1 : ws = [] → Q (.ref t) s) (h2 : ws ≠ [] → Q (.ref s.heap.objs.size) { s with heap := s.heap.push { cls := .type "tuple", data := .seq (vs ++ ws).toArray } })
    (hsz : vs.length + ws.length ≤ sizeLine) : wpAny (model prog w) A (binaryOp .Add (.ref t) (.ref b)) Q E s := by
  obtain ⟨⟨cls, dd, data, sl⟩, ho, hc, n, hd⟩ := id ht
  obtain ⟨⟨cls2, dd2, data2, sl2⟩, ho2, hc2, n2, hd2⟩ := id hb
  simp only at hc hd hc2 hd2
  subst hc hd hc2 hd2
  have e : vs.toArray ++ ws.toArray = (vs ++ ws).toArray := by simp
  by_cases hw : ws = []
  · exact concat_meets ⟨_, ho, rfl⟩ ⟨_, ho2, rfl⟩ noFill_tuple_add seq_tuple_add PySem.F.slot_tuple_add PySem.F.entry_tuple_add (PySem.F.args_tuple_add_2 _ _)
      (tuple_addW1 t b vs.toArray ws.toArray n n2 dd dd2 sl sl2 (by simpa using hv) (by simp [hw])) ⟨ho, ho2, h1 hw⟩
  · refine concat_meets ⟨_, ho, rfl⟩ ⟨_, ho2, rfl⟩ noFill_tuple_add seq_tuple_add PySem.F.slot_tuple_add PySem.F.entry_tuple_add (PySem.F.args_tuple_add_2 _ _)
      (tuple_addW2 t b vs.toArray ws.toArray n n2 dd dd2 sl sl2 (by simpa using hv) (by simpa using hw) (by rw [List.size_toArray, List.size_toArray]; exact hsz)) ⟨ho, ho2, ?_⟩
    rw [e]
    exact h2 hw

/-! ### t[a:b], not the whole -/
def sIx (n d : Nat) : Option Int → Nat
  | none => d
  | some v => if v < 0 then (v + (n : Int)).toNat else min v.toNat n
theorem sIx_none (n d : Nat) : sIx n d none = d := rfl
theorem sIx_nat (n d k : Nat) : sIx n d (some (k : Int)) = min k n := by
  show (if (k : Int) < 0 then ((k : Int) + (n : Int)).toNat else min (k : Int).toNat n) = min k n
  rw [if_neg (by omega), Int.toNat_natCast]
theorem sIx_le (n d : Nat) (hd : d ≤ n) (o : Option Int) : sIx n d o ≤ n := by
  cases o with
  | none => exact hd
  | some v =>
    show (if v < 0 then (v + (n : Int)).toNat else min v.toNat n) ≤ n
    by_cases hv : v < 0
    · rw [if_pos hv]; omega
    · rw [if_neg hv]; exact Nat.min_le_right _ _
theorem clip_eq (v : Int) (n d : Nat) : (if v < 0 then max (v + (n : Int)) 0 else min v (n : Int)) = ((sIx n d (some v) : Nat) : Int) := by
  show (if v < 0 then max (v + (n : Int)) 0 else min v (n : Int)) = (((if v < 0 then (v + (n : Int)).toNat else min v.toNat n) : Nat) : Int)
  by_cases hv : v < 0
  · simp only [if_pos hv]; omega
  · simp only [if_neg hv]; omega
theorem adjust_gen (lo hi : Option Int) (n : Nat) : Builtin.Slice.sliceAdjust lo hi 1 (n : Int) = (((sIx n 0 lo : Nat) : Int), ((sIx n n hi : Nat) : Int)) := by
  have h1 : ¬ ((1 : Int) < 0) := by omega
  unfold Builtin.Slice.sliceAdjust
  simp only [h1, if_false]
  refine Prod.ext ?_ ?_
  · cases lo with
    | none => rfl
    | some v => exact clip_eq v n 0
  · cases hi with
    | none => rfl
    | some v => exact clip_eq v n n
theorem places_gen (i j : Nat) : Builtin.Slice.slicePlaces (i : Int) (j : Int) 1 = j - i := by
  unfold Builtin.Slice.slicePlaces
  have h1 : (1 : Int) > 0 := by omega
  simp only [h1, if_true, Int.ediv_one]
  split <;> omega
theorem slicePart_ {v : Value} {o : Option Int} {Q : Option Int → Shared → Prop} (p : IsPart v o) (h : Q o s) : wpAny (model prog w) A (Builtin.Slice.slicePartIndex v) Q E s := by
  cases p with
  | none => exact slicePart_none h
  | int i t => exact slicePart_int h
theorem sliceApplied_gen {sl : Addr} {vl vu : Value} {lo hi : Option Int} {n : Nat} {Q : Int × Int × Nat → Shared → Prop} (hs : s.heap.IsSliceOf sl vl vu .none) (pl : IsPart vl lo) (pu : IsPart vu hi)
    (h : Q (((sIx n 0 lo : Nat) : Int), 1, sIx n n hi - sIx n 0 lo) s) : wpAny (model prog w) A (Builtin.Slice.sliceApplied (.ref sl) (pure (n : Int))) Q E s := by
  obtain ⟨os, hos, hcs, hds⟩ := id hs
  unfold Builtin.Slice.sliceApplied Builtin.Slice.sliceFields
  refine wpAny_bind (wpAny_bind (wpAny_field hos hds (x := vl) rfl (wpAny_bind (wpAny_field hos hds (x := vu) rfl (wpAny_bind (wpAny_field hos hds (x := .none) rfl (wpAny_pure ?_)))))))
  refine wpAny_bind (slicePart_none ?_)
  show wpAny _ _ (if ((1 : Int) == 0) = true then _ else _) _ _ s
  rw [if_neg (by decide)]
  refine wpAny_bind (slicePart_ pl (wpAny_bind (slicePart_ pu (wpAny_bind (wpAny_pure ?_)))))
  show wpAny _ _ (match Builtin.Slice.sliceAdjust lo hi 1 (n : Int) with | (lo, hi) => pure (lo, (1 : Int), Builtin.Slice.slicePlaces lo hi 1)) _ _ s
  rw [adjust_gen lo hi n]
  show wpAny _ _ (pure (((sIx n 0 lo : Nat) : Int), (1 : Int), Builtin.Slice.slicePlaces ((sIx n 0 lo : Nat) : Int) ((sIx n n hi : Nat) : Int) 1)) _ _ s
  rw [places_gen]
  exact wpAny_pure h
theorem pick_gen (xs : Array Value) (i k : Nat) : ((List.range k).filterMap fun (m : Nat) => xs[((i : Int) + (m : Int) * 1).toNat]?).toArray = ((xs.toList.drop i).take k).toArray := by
  have e : (fun (m : Nat) => xs[((i : Int) + (m : Int) * 1).toNat]?) = fun m => xs[i + m]? := by
    funext m
    have : ((i : Int) + (m : Int) * 1).toNat = i + m := by omega
    rw [this]
  rw [e]
  have := pick_run xs i k
  rw [List.filterMap_map] at this
  have e2 : ((fun x => xs[x]?) ∘ fun x => i + x) = fun m => xs[i + m]? := rfl
  rw [e2] at this
  rw [this]

theorem getItem_tuple_cut {t sl : Addr} {items : Array Value} {vl vu : Value} {lo hi : Option Int} {Q : Value → Shared → Prop} (ht : IsTup s.heap t items) (hs : s.heap.IsSliceOf sl vl vu .none) (pl : IsPart vl lo) (pu : IsPart vu hi)
    (hw : ¬ (sIx items.size 0 lo = 0 ∧ sIx items.size items.size hi = items.size))
    (h : Q (.ref s.heap.objs.size) { s with heap := s.heap.push { cls := .type "tuple", data := .seq ((items.toList.drop (sIx items.size 0 lo)).take (sIx items.size items.size hi - sIx items.size 0 lo)).toArray } })
    (hsz : items.size ≤ sizeLine) : wpAny (model prog w) A (getItem (.ref t) (.ref sl)) Q E s := by
  have htake : sizeOk (.seq ((items.toList.drop (sIx items.size 0 lo)).take (sIx items.size items.size hi - sIx items.size 0 lo)).toArray) := by
    show ((items.toList.drop (sIx items.size 0 lo)).take (sIx items.size items.size hi - sIx items.size 0 lo)).toArray.size ≤ sizeLine
    rw [List.size_toArray, List.length_take, List.length_drop, Array.length_toList]
    omega
  have hj : sIx items.size items.size hi ≤ items.size := sIx_le _ _ (Nat.le_refl _) hi
  obtain ⟨os, hos, hcs, hds⟩ := id hs
  have hTs : s.TypeIs (.ref sl) "slice" := ⟨os, hos, hcs⟩
  unfold getItem
  try with_reducible refine wpAny_holding ?_
  first | refine wpAny_bind (wpAny_pure ?_) | skip
  refine wpAny_bind (wpAny_sequenceKey ht.typeIs (by decide) ?_)
  refine wpAny_bind (wpAny_callSpecial?_slot (name := Str.ofString "__getitem__") ht.typeIs PyProof.Rows.slot_tuple_getitem
    (wpAny_call_entry PyProof.Rows.slot_tuple_getitem ht.typeIs entry_tuple_getitem ?_ (args_tuple_getitem _ _)))
  show wpAny _ _ (Builtin.Tuple.tupleItemsOf (.ref t) >>= _) _ _ s
  refine wpAny_bind (tupleItemsOf_ ht ?_)
  refine wpAny_bind (wpAny_typeOf hTs ?_)
  rw [if_pos (by decide)]
  refine wpAny_bind (sliceApplied_gen hs pl pu ?_)
  have hno : ¬ ((((sIx items.size 0 lo : Nat) : Int) == 0 && (1 : Int) == 1 && (sIx items.size items.size hi - sIx items.size 0 lo) == items.size) = true) := by
    intro q
    rw [Bool.and_eq_true, Bool.and_eq_true] at q
    have q1 : ((sIx items.size 0 lo : Nat) : Int) = 0 := eq_of_beq q.1.1
    have q2 : sIx items.size items.size hi - sIx items.size 0 lo = items.size := eq_of_beq q.2
    exact hw ⟨by omega, by omega⟩
  show wpAny _ _ (if (((sIx items.size 0 lo : Nat) : Int) == 0 && (1 : Int) == 1 && (sIx items.size items.size hi - sIx items.size 0 lo) == items.size) = true then _ else _) _ _ s
  rw [if_neg hno, pick_gen]
  first
    | exact wpAny_bind (m := Builtin.Tuple.tupleExact _) (wpAny_newObj_type (wpAny_pure ⟨_, rfl, wpAny_pure h⟩) htake)
    | exact wpAny_bind (m := Builtin.Tuple.tupleExact _) (wpAny_newObj_type (wpAny_bind (wpAny_pure (wpAny_pure ⟨_, rfl, wpAny_pure h⟩))) htake)
    | exact wpAny_bind (wpAny_bind (m := Builtin.Tuple.tupleExact _) (wpAny_newObj_type (wpAny_pure (wpAny_pure ⟨_, rfl, wpAny_pure h⟩)) htake))
    | exact wpAny_bind (wpAny_bind (m := Builtin.Tuple.tupleExact _) (wpAny_newObj_type (wpAny_pure ⟨_, rfl, wpAny_pure h⟩) htake))
end
end HT

namespace L2
open PySem PySem.Spec PyProof.Rows

/-! ### the parts of a slice -/
abbrev TO := St → Hp → (Option Int → Hp → Prop) → Prop
def PO (X : Cx) (e : Option Expr) (t : TO) : Prop :=
  ∀ (pins : List (Addr × Obj)) (s : Shared) (σ : St) (H : Hp) (Q : Option Int → Hp → Prop), Inv X pins σ H s → t σ H Q →
    wpAny (model X.prog X.w) X.A (evalPart e X.env) (fun u s' => ∃ o H', Inv X pins σ H' s' ∧ IsPart u o ∧ Q o H') X.xe s
def tNoPart : TO := fun _ H Q => Q none H
def tPart (t : TE) : TO := fun σ H Q => t σ H fun x H1 => ∃ i, x = .int i ∧ Q (some i) H1

theorem intsAre_of {ns : List Int} : ∀ {us : List Value}, Vals (ns.map V.int) us → IntsAre us ns := by
  induction ns with
  | nil => intro us r; rw [List.map_nil] at r; cases r; exact .nil
  | cons n ns ih =>
    intro us r
    rw [List.map_cons] at r
    cases r with
    | cons r1 r2 =>
      obtain ⟨t, e⟩ := r1
      subst e
      exact .cons n t (ih r2)

section
variable {X : Cx} {e : Expr} {te : TE} {lo hi : Option Expr} {tl th : TO} {pos p2 : Pos}

theorem po_none : PO X none tNoPart := by
  intro pins s σ H Q I h
  rw [evalPart_none]
  exact wpAny_pure ⟨none, H, I, .none, h⟩
theorem po_some (h : PE X e te) : PO X (some e) (tPart te) := by
  intro pins s σ H Q I hw
  rw [evalPart_some]
  refine thn (h pins s σ H _ I hw) fun u s1 ⟨x, H1, I1, r1, q1⟩ => ?_
  obtain ⟨i, rfl, q⟩ := q1
  obtain ⟨t, rfl⟩ := r1
  exact ⟨some i, H1, I1, .int i t, q⟩

def SlR (X : Cx) (r : V → Option Int → Option Int → Hp → VK → Prop) : Prop :=
  ∀ (pins : List (Addr × Obj)) (s : Shared) (σ : St) (H : Hp) (x : V) (v vl vu : Value) (lo hi : Option Int) (sl : Addr) (Q : VK), Inv X pins σ H s → RelV x v → s.heap.IsSliceOf sl vl vu .none → IsPart vl lo → IsPart vu hi → r x lo hi H Q →
    ∃ T id, typeLookup (.type T) "__getitem__" = pure (some (.builtin id)) ∧ s.TypeIs v T ∧ wpAny (model X.prog X.w) X.A (getItem v (.ref sl)) (EP X pins σ Q) X.xe s
theorem SlR.or {r r' : V → Option Int → Option Int → Hp → VK → Prop} (h : SlR X r) (h' : SlR X r') : SlR X (fun x lo hi H Q => r x lo hi H Q ∨ r' x lo hi H Q) := by
  intro pins s σ H x v vl vu lo hi sl Q I rx hs pl pu q
  rcases q with q | q
  · exact h pins s σ H x v vl vu lo hi sl Q I rx hs pl pu q
  · exact h' pins s σ H x v vl vu lo hi sl Q I rx hs pl pu q
def tSl (r : V → Option Int → Option Int → Hp → VK → Prop) (te : TE) (tl th : TO) : TE := fun σ H Q => te σ H fun x H1 => tl σ H1 fun l H2 => th σ H2 fun u H3 => r x l u H3 Q
theorem pe_slice {r : V → Option Int → Option Int → Hp → VK → Prop} (hr : SlR X r) (he : PE X e te) (hl : PO X lo tl) (hu : PO X hi th) : PE X (.Subscript e (.Slice lo hi none p2) pos) (tSl r te tl th) := by
  intro pins s σ H Q I h
  refine Subscript_ (thn (he pins s σ H _ I h) fun v s1 ⟨x, H1, I1, r1, q1⟩ => ?_)
  refine wpAny_Slice (thn (hl pins s1 σ H1 _ I1 q1) fun vl s2 ⟨l, H2, I2, pl, q2⟩ => thn (hu pins s2 σ H2 _ I2 q2) fun vu s3 ⟨u, H3, I3, pu, q3⟩ => ?_)
  rw [evalPart_none]
  refine wpAny_pure ?_
  have I4 : Inv X pins σ H3 { s3 with heap := s3.heap.push { cls := .type "slice", data := .fields #[vl, vu, .none] } } := I3.kept (t' := s3.toks) fun b ob q => Heap.get?_push_of_some _ q
  obtain ⟨T, id, hT, ht, hg⟩ := hr pins { s3 with heap := s3.heap.push { cls := .type "slice", data := .fields #[vl, vu, .none] } } σ H3 x v vl vu l u s3.heap.objs.size Q I4 r1 (Heap.IsSliceOf.new ..) pl pu q3
  show wpAny (model X.prog X.w) X.A (subscriptTail e (.Slice lo hi none p2) v (.ref s3.heap.objs.size)) (EP X pins σ Q) X.xe { s3 with heap := s3.heap.push { cls := .type "slice", data := .fields #[vl, vu, .none] } }
  exact tail_any (ops := [.ref s3.heap.objs.size, v]) ht hT hg (by with_unfolding_all rfl)

def cutV (xs : List V) (lo hi : Option Int) : List V := (xs.drop (HT.sIx xs.length 0 lo)).take (HT.sIx xs.length xs.length hi - HT.sIx xs.length 0 lo)
theorem cutV_length (xs : List V) (lo hi : Option Int) : (cutV xs lo hi).length ≤ xs.length := by
  unfold cutV
  rw [List.length_take, List.length_drop]
  omega
def rSlT (K : PySem.W.Frag) : V → Option Int → Option Int → Hp → VK → Prop := fun x lo hi H Q => ∃ a xs, x = .ref a ∧ SqT K H a xs ∧
  ¬ (HT.sIx xs.length 0 lo = 0 ∧ HT.sIx xs.length xs.length hi = xs.length) ∧ ∀ p, H p = none → Q (.ref p) (upd H p (.tup (cutV xs lo hi)))
theorem sl_tup : SlR X (rSlT X.K) := by
  intro pins s σ H x v vl vu lo hi sl Q I rx hs pl pu h
  obtain ⟨a, xs, rfl, hx, hw, q⟩ := h
  cases rx
  obtain ⟨its, r, ht, hz⟩ := I.tuple hx
  have hlen : its.toArray.size = xs.length := by rw [List.size_toArray]; exact r.length.symm
  refine ⟨"tuple", _, PyProof.Rows.slot_tuple_getitem.lookup, ht.typeIs, ?_⟩
  refine HT.getItem_tuple_cut ht hs pl pu (by rw [hlen]; exact hw) ?_ (by rw [hlen]; exact hz)
  rw [hlen]
  refine ⟨.ref s.heap.objs.size, _, I.laid (t' := s.toks) (o := .tup (cutV xs lo hi)) (fun b ob q => Heap.get?_push_of_some _ q) (Nat.le_refl _) ?_, rfl, q _ (I.hok.fresh (Nat.le_refl _))⟩
  exact ⟨Nat.le_trans (cutV_length xs lo hi) hz, _, (r.drop (HT.sIx xs.length 0 lo)).take (HT.sIx xs.length xs.length hi - HT.sIx xs.length 0 lo), IsTup.new _ _⟩

/-! ### t < u, t + u -/
def rCatT (K : PySem.W.Frag) : R2 := fun x y H Q => ∃ a b xs ys, x = .ref a ∧ y = .ref b ∧ SqT K H a xs ∧ SqT K H b ys ∧ xs ≠ [] ∧ xs.length + ys.length ≤ sizeLine ∧
  (ys = [] → Q (.ref a) H) ∧ (ys ≠ [] → ∀ p, H p = none → Q (.ref p) (upd H p (.tup (xs ++ ys))))
theorem Vals.nil_iff {xs : List V} {us : List Value} (r : Vals xs us) : us = [] ↔ xs = [] := by
  cases r with
  | nil => simp
  | cons _ _ => simp
theorem op_catT : OpR X (binaryOp .Add) (rCatT X.K) := by
  intro pins s σ H x y v u Q I rx ry h
  obtain ⟨a, b, xs, ys, rfl, rfl, ha, hb, hx, hz, q1, q2⟩ := h
  cases rx
  cases ry
  obtain ⟨its, r1, p1, _⟩ := I.tuple ha
  obtain ⟨its2, r2, p2, _⟩ := I.tuple hb
  refine HT.cat_tup p1 p2 (fun z => hx (r1.nil_iff.mp z)) (fun z => ⟨.ref a, H, I, rfl, q1 (r2.nil_iff.mp z)⟩) (fun z => ?_) (by rw [← r1.length, ← r2.length]; exact hz)
  refine ⟨.ref s.heap.objs.size, _, I.laid (t' := s.toks) (o := .tup (xs ++ ys)) (fun b ob q => Heap.get?_push_of_some _ q) (Nat.le_refl _) ?_, rfl, q2 (fun w => z (r2.nil_iff.mpr w)) _ (I.hok.fresh (Nat.le_refl _))⟩
  exact ⟨by rw [List.length_append]; exact hz, _, r1.append r2, IsTup.new _ _⟩
end
end L2

namespace L2
open PySem PySem.Spec PyProof.Rows

/-! ### places -/
def ixN (n : Nat) (i : Int) : Option Nat := if 0 ≤ i then (if i < n then some i.toNat else none) else if -(n : Int) ≤ i then some (i + n).toNat else none
def atI {α : Type} (xs : List α) (i : Int) : Option α := (ixN xs.length i).bind fun j => xs[j]?
theorem ixN_seq {n : Nat} {i : Int} {j : Nat} (h : ixN n i = some j) : seqIndex? i n = some j ∧ j < n ∧ -(n : Int) ≤ i ∧ i < n := by
  unfold ixN at h
  by_cases h0 : 0 ≤ i
  · rw [if_pos h0] at h
    by_cases h1 : i < n
    · rw [if_pos h1] at h
      have e : i.toNat = j := Option.some.inj h
      exact ⟨by rw [seqIndex_of h0 h1, e], by omega, by omega, h1⟩
    · rw [if_neg h1] at h; cases h
  · rw [if_neg h0] at h
    by_cases h1 : -(n : Int) ≤ i
    · rw [if_pos h1] at h
      have e : (i + n).toNat = j := Option.some.inj h
      exact ⟨by rw [seqIndex_neg (by omega) h1, e], by omega, h1, by omega⟩
    · rw [if_neg h1] at h; cases h
theorem atI_get {α : Type} {xs : List α} {i : Int} {v : α} (h : atI xs i = some v) : ∃ j, seqIndex? i xs.length = some j ∧ xs[j]? = some v ∧ j < xs.length ∧ -(xs.length : Int) ≤ i ∧ i < xs.length := by
  unfold atI at h
  cases e : ixN xs.length i with
  | none => rw [e] at h; cases h
  | some j =>
    rw [e] at h
    obtain ⟨h1, h2, h3, h4⟩ := ixN_seq e
    exact ⟨j, h1, h, h2, h3, h4⟩
/-! ### what may be subscripted -/
def PlainIx (b : Expr) : Prop := ∀ o i, subscripted b false o i = operate [o, i] (getItem o i)
def IxR (X : Cx) (r : R2) : Prop :=
  ∀ (value slice : Expr) (pins : List (Addr × Obj)) (s : Shared) (σ : St) (H : Hp) (x y : V) (v u : Value) (Q : VK), Inv X pins σ H s → RelV x v → RelV y u → r x y H Q →
    subscripted slice false v u = operate [v, u] (getItem v u) → wpAny (model X.prog X.w) X.A (subscriptTail value slice v u) (EP X pins σ Q) X.xe s
def MtR (X : Cx) (id : String) (r : V → List V → Hp → VK → Prop) : Prop :=
  ∀ (pins : List (Addr × Obj)) (s : Shared) (σ : St) (H : Hp) (x : V) (xs : List V) (v : Value) (us : List Value) (Q : VK), Inv X pins σ H s → RelV x v → Vals xs us → r x xs H Q →
    wpAny (model X.prog X.w) X.A (call (.builtin id) (v :: us)) (EP X pins σ Q) X.xe s
section
variable {X : Cx} {a b : Expr} {ta tb : TE} {pos : Pos}
theorem IxR.or {r r' : R2} (h : IxR X r) (h' : IxR X r') : IxR X (fun x y H Q => r x y H Q ∨ r' x y H Q) := by
  intro value slice pins s σ H x y v u Q I rx ry q hs
  rcases q with q | q
  · exact h value slice pins s σ H x y v u Q I rx ry q hs
  · exact h' value slice pins s σ H x y v u Q I rx ry q hs
theorem MtR.or {id : String} {r r' : V → List V → Hp → VK → Prop} (h : MtR X id r) (h' : MtR X id r') : MtR X id (fun x xs H Q => r x xs H Q ∨ r' x xs H Q) := by
  intro pins s σ H x xs v us Q I rx rs q
  rcases q with q | q
  · exact h pins s σ H x xs v us Q I rx rs q
  · exact h' pins s σ H x xs v us Q I rx rs q
theorem pe_ix {r : R2} (hr : IxR X r) (ha : PE X a ta) (hb : PE X b tb) (hs : PlainIx b) : PE X (.Subscript a b pos) (tOp r ta tb) := by
  intro pins s σ H Q I h
  exact Subscript_ (binT ha hb I h fun v u s2 x y H2 I2 rx ry q => hr a b pins s2 σ H2 x y v u Q I2 rx ry q (hs _ _))

def rIxL (K : PySem.W.Frag) : R2 := fun x y H Q => ∃ p xs i v, x = .ref p ∧ y = .int i ∧ SqL K H p xs ∧ atI xs i = some v ∧ Q v H
def rIxT (K : PySem.W.Frag) : R2 := fun x y H Q => ∃ p xs i v, x = .ref p ∧ y = .int i ∧ SqT K H p xs ∧ atI xs i = some v ∧ Q v H
def rIxS : R2 := fun x y H Q => ∃ z i c, x = .str z ∧ y = .int i ∧ z.length ≤ sizeLine ∧ atI z.cps.toList i = some c ∧ Q (.str ⟨#[c]⟩) H
theorem ix_list : IxR X (rIxL X.K) := by
  intro value slice pins s σ H x y v u Q I rx ry h hs
  obtain ⟨p, xs, i, z, rfl, rfl, hq, he, q⟩ := h
  cases rx
  obtain ⟨t, rfl⟩ := ry
  obtain ⟨its, r, pl, hz⟩ := I.list hq
  obtain ⟨j, h1, h2, h3, h4, h5⟩ := atI_get he
  obtain ⟨w, ew, rw'⟩ := r.get h2
  have hl := r.length
  have hn := line63
  have fin : EP X pins σ Q w s := ⟨z, H, I, rw', q⟩
  by_cases h0 : 0 ≤ i
  · have hj : i.toNat = j := by
      rw [seqIndex_of h0 h5] at h1
      exact Option.some.inj h1
    exact item_listR pl.isList h0 (by omega) (by rw [hj]; simpa using ew) fin hs
  · have hj : (i + (its.toArray.size : Int)).toNat = j := by
      rw [seqIndex_neg (by omega) h4] at h1
      rw [List.size_toArray, ← hl]
      exact Option.some.inj h1
    exact subscriptTail_builtinR (x := w) pl.isList.typeIs slot_list_getitem.lookup
      (wpAny_getItem_list_neg (Q := fun r s' => r = w ∧ EP X pins σ Q r s') pl.isList (by omega) (by rw [List.size_toArray] <;> omega) (by omega) (by rw [hj]; simpa using ew) ⟨rfl, fin⟩) hs
theorem ix_tup : IxR X (rIxT X.K) := by
  intro value slice pins s σ H x y v u Q I rx ry h hs
  obtain ⟨p, xs, i, z, rfl, rfl, hq, he, q⟩ := h
  cases rx
  obtain ⟨t, rfl⟩ := ry
  obtain ⟨its, r, pl, hz⟩ := I.tuple hq
  obtain ⟨j, h1, h2, h3, h4, h5⟩ := atI_get he
  obtain ⟨w, ew, rw'⟩ := r.get h2
  have hl := r.length
  have hn := line63
  have fin : EP X pins σ Q w s := ⟨z, H, I, rw', q⟩
  exact subscriptTail_builtinR (x := w) pl.typeIs slot_tuple_getitem.lookup
    (getItem_tuple (j := j) (Q := fun r s' => r = w ∧ EP X pins σ Q r s') pl (by omega) (by omega) (by rw [List.size_toArray, ← hl]; exact h1) (by simpa using ew) ⟨rfl, fin⟩) hs
theorem ix_str : IxR X rIxS := by
  intro value slice pins s σ H x y v u Q I rx ry h hs
  obtain ⟨z, i, c, rfl, rfl, hz, he, q⟩ := h
  obtain ⟨t, rfl⟩ := rx
  obtain ⟨t', rfl⟩ := ry
  obtain ⟨j, h1, h2, h3, h4, h5⟩ := atI_get he
  have hl : z.cps.toList.length = z.length := by simp [Str.length]
  rw [hl] at h1 h4 h5
  have hn := line63
  exact tail_any (typeIs_str s z t) slot_str_getitem.lookup (getItem_str (c := c) (by
    have e1 : decide (i < -(2 ^ 63 : Int)) = false := decide_eq_false (by omega)
    have e2 : decide (i ≥ 2 ^ 63) = false := decide_eq_false (by omega)
    rw [e1, e2, Bool.or_false]) (by rw [h1]; simpa using h2) ⟨.str ⟨#[c]⟩, H, I.tok _, ⟨_, rfl⟩, q⟩) hs
def rIx (K : PySem.W.Frag) : R2 := fun x y H Q => rIxL K x y H Q ∨ rIxT K x y H Q ∨ rIxS x y H Q
theorem ix_seq : IxR X (rIx X.K) := ix_list.or (ix_tup.or ix_str)

/-! ### xs[i] = v, any sign -/
theorem Inv.lst {pins : List (Addr × Obj)} {σ : St} {H : Hp} {s : Shared} {p : Addr} {xs : List V} (I : Inv X pins σ H s) (h : H p = some (.lst xs)) :
    ∃ (its : List Value) (n : Nat), Vals xs its ∧ s.heap.get? p = some { cls := .type "list", data := .seq its.toArray n } ∧ xs.length ≤ sizeLine := by
  obtain ⟨z, its, n, r, e⟩ := I.hok p _ h
  exact ⟨its, n, r, e, z⟩
/-! ### slices -/
theorem slice_bounds (lo hi : Option Int) (n : Nat) : (sliceBounds lo hi none n).1 = ((HT.sIx n 0 lo : Nat) : Int) ∧ (sliceBounds lo hi none n).2.1 = ((HT.sIx n n hi : Nat) : Int) ∧ (sliceBounds lo hi none n).2.2 = 1 := by
  refine ⟨?_, ?_, rfl⟩
  · cases lo with
    | none => simp [sliceBounds, HT.sIx]
    | some i =>
      simp only [sliceBounds, HT.sIx, Option.getD_none, show (1 : Int) > 0 by decide, if_true]
      by_cases h : i < 0
      · simp only [h, if_true] <;> omega
      · simp only [h, if_false] <;> omega
  · cases hi with
    | none => simp [sliceBounds, HT.sIx]
    | some i =>
      simp only [sliceBounds, HT.sIx, Option.getD_none, show (1 : Int) > 0 by decide, if_true]
      by_cases h : i < 0
      · simp only [h, if_true] <;> omega
      · simp only [h, if_false] <;> omega
theorem slicePick_cut (its : List Value) (lo hi : Option Int) : slicePick its.toArray lo hi none = ((its.drop (HT.sIx its.length 0 lo)).take (HT.sIx its.length its.length hi - HT.sIx its.length 0 lo)).toArray := by
  obtain ⟨h1, h2, h3⟩ := slice_bounds lo hi its.toArray.size
  unfold slicePick
  rw [h1, h2, h3]
  simp only [sliceRange_one, pick_run, List.size_toArray] <;> rfl
def rSlL (K : PySem.W.Frag) : V → Option Int → Option Int → Hp → VK → Prop := fun x lo hi H Q => ∃ a xs, x = .ref a ∧ SqL K H a xs ∧ ∀ p, H p = none → Q (.ref p) (upd H p (.lst (cutV xs lo hi)))
theorem sl_list : SlR X (rSlL X.K) := by
  intro pins s σ H x v vl vu lo hi sl Q I rx hs pl pu h
  obtain ⟨a, xs, rfl, hx, q⟩ := h
  cases rx
  obtain ⟨its, r, ht, hz⟩ := I.list hx
  have hlen := r.length
  refine ⟨"list", _, slot_list_getitem.lookup, ht.isList.typeIs, ?_⟩
  refine wpAny_getItem_list_slice ht.isList hs pl pu .none (by simp) ?_ (by rw [List.size_toArray] <;> omega)
  rw [slicePick_cut, ← hlen]
  refine ⟨.ref s.heap.objs.size, _, I.laid (t' := s.toks) (o := .lst (cutV xs lo hi)) (fun b ob q => Heap.get?_push_of_some _ q) (Nat.le_refl _) ?_, rfl, q _ (I.hok.fresh (Nat.le_refl _))⟩
  exact ⟨Nat.le_trans (cutV_length xs lo hi) hz, _, 0, (r.drop (HT.sIx xs.length 0 lo)).take (HT.sIx xs.length xs.length hi - HT.sIx xs.length 0 lo), Heap.get?_push_size _ rfl⟩

/-! ### in, not in: flat items -/
/-! ### len, list(x), tuple(x) of any list or tuple that is read -/
theorem CallR.or {f : Value} {r r' : List V → Hp → VK → Prop} (h : CallR X f r) (h' : CallR X f r') : CallR X f (fun xs H Q => r xs H Q ∨ r' xs H Q) := by
  intro pins s σ H xs us Q I rs q
  rcases q with q | q
  · exact h pins s σ H xs us Q I rs q
  · exact h' pins s σ H xs us Q I rs q
theorem call_list_of : CallR X (.type "list") (fun xs H Q => ∃ p ys, xs = [.ref p] ∧ (SqL X.K H p ys ∨ SqT X.K H p ys) ∧ ∀ l, H l = none → Q (.ref l) (upd H l (.lst ys))) := by
  intro pins s σ H xs us Q I r h
  obtain ⟨p, ys, rfl, hq, q⟩ := h
  obtain ⟨u, rfl, rx⟩ := vals1 r
  cases rx
  have fin : ∀ (its : List Value), Vals ys its → ys.length ≤ sizeLine → ∀ (h' : Heap) (c' : Nat), (∀ b o', s.heap.get? b = some o' → h'.get? b = some o') →
      h'.get? s.heap.objs.size = some { cls := .type "list", dict := none, data := .seq its.toArray c', slots := #[] } → EP X pins σ Q (.ref s.heap.objs.size) { s with heap := h' } := fun its r' hz h' c' kp e =>
    ⟨.ref s.heap.objs.size, _, I.laid (t' := s.toks) kp (Nat.le_refl _) (show ObjOk X.prog X.w _ h' _ (.lst ys) from ⟨hz, its, c', r', e⟩), rfl, q _ (I.hok.fresh (Nat.le_refl _))⟩
  rcases hq with hq | hq
  · obtain ⟨its, r', pl, hz⟩ := I.list hq
    have hlen := r'.length
    obtain ⟨o, ho, hc, n, hd⟩ := pl.isList
    exact call_list_seq p (.inl rfl) ho hc hd (fun h' c' kp e => fin its r' hz h' c' kp e) (by simp only [List.size_toArray] <;> omega)
  · obtain ⟨its, r', pl, hz⟩ := I.tuple hq
    have hlen := r'.length
    obtain ⟨o, ho, hc, n, hd⟩ := pl
    exact call_list_seq p (.inr rfl) ho hc hd (fun h' c' kp e => fin its r' hz h' c' kp e) (by simp only [List.size_toArray] <;> omega)
theorem call_tuple_of : CallR X (.type "tuple") (fun xs H Q => ∃ p ys, xs = [.ref p] ∧ ((SqL X.K H p ys ∧ ∀ l, H l = none → Q (.ref l) (upd H l (.tup ys))) ∨ (SqT X.K H p ys ∧ Q (.ref p) H))) := by
  intro pins s σ H xs us Q I r h
  obtain ⟨p, ys, rfl, h⟩ := h
  obtain ⟨u, rfl, rx⟩ := vals1 r
  cases rx
  rcases h with ⟨hq, q⟩ | ⟨hq, q⟩
  · obtain ⟨its, r', pl, hz⟩ := I.list hq
    have hlen := r'.length
    refine call_tuple_list pl.isList (fun h' kp => ?_) (by simp only [List.size_toArray] <;> omega)
    have I1 : Inv X pins σ H { s with heap := h' } := I.kept (t' := s.toks) kp
    have I2 : Inv X pins σ (upd H h'.objs.size (.tup ys)) { s with heap := h'.push { cls := .type "tuple", data := .seq its.toArray } } :=
      I1.laid (t' := s.toks) (fun b o e => Heap.get?_push_of_some _ e) (Nat.le_refl _) (show ObjOk X.prog X.w _ _ _ (.tup ys) from ⟨hz, its, r', IsTup.new _ _⟩)
    exact ⟨.ref h'.objs.size, _, I2, rfl, q _ (I1.hok.fresh (Nat.le_refl _))⟩
  · obtain ⟨its, r', pl, hz⟩ := I.tuple hq
    exact call_tuple_same pl ⟨.ref p, H, I, rfl, q⟩

/-! ### the call of a builtin's method: o.m(..) -/
def tyV (K : PySem.W.Frag) (T : String) (x : V) (H : Hp) : Prop := match x with
  | .str _ => T = "str"
  | .int _ => T = "int"
  | .ref p => (T = "list" ∧ ∃ xs, SqL K H p xs) ∨ (T = "tuple" ∧ ∃ o, K.lookup p = some o ∧ o.cls = .type "tuple" ∧ o.dict = none) ∨
      (T = "dict" ∧ ((∃ kvs, H p = some (.dK kvs)) ∨ ∃ kvs, H p = some (.dT kvs))) ∨ (T = "set" ∧ ∃ S n, H p = some (.set S n))
  | _ => False
theorem tyV_is {pins : List (Addr × Obj)} {σ : St} {H : Hp} {s : Shared} {T : String} {x : V} {v : Value} (I : Inv X pins σ H s) (r : RelV x v) (ty : tyV X.K T x H) :
    s.TypeIs v T ∧ ∀ a, v = .ref a → ∃ ob, s.heap.get? a = some ob ∧ ob.dict = none := by
  cases x with
  | str z =>
    obtain ⟨t, rfl⟩ := r
    cases (show T = "str" from ty)
    exact ⟨typeIs_str s z t, fun _ e => nomatch e⟩
  | int i =>
    obtain ⟨t, rfl⟩ := r
    cases (show T = "int" from ty)
    exact ⟨typeIs_int s i t, fun _ e => nomatch e⟩
  | ref p =>
    cases r
    rcases ty with ⟨rfl, xs, hq⟩ | ⟨rfl, o, hk, hc, hd⟩ | ⟨rfl, hk⟩ | ⟨rfl, S, n, hk⟩
    · obtain ⟨its, _, pl, _⟩ := I.list hq
      refine ⟨pl.isList.typeIs, fun a e => ?_⟩
      cases e
      obtain ⟨o, n, e, c, hd, _⟩ := pl
      exact ⟨o, e, hd⟩
    · refine ⟨⟨o, I.kIn p o hk, hc⟩, fun a e => ?_⟩
      cases e
      exact ⟨o, I.kIn _ o hk, hd⟩
    · have z : ∃ o, s.heap.get? p = some o ∧ o.ExactDict := by
        rcases hk with ⟨kvs, hk⟩ | ⟨kvs, hk⟩
        · obtain ⟨_, _, _, _, o, _, _, e, ex, _⟩ := I.hok p _ hk
          exact ⟨o, e, ex⟩
        · obtain ⟨_, _, _, _, o, _, _, e, ex, _⟩ := I.hok p _ hk
          exact ⟨o, e, ex⟩
      obtain ⟨o, e, ex⟩ := z
      refine ⟨⟨o, e, ex.1⟩, fun a e2 => ?_⟩
      cases e2
      exact ⟨o, e, ex.2.1⟩
    · obtain ⟨o, _, _, _, e, ex, _⟩ := I.hok p _ hk
      refine ⟨⟨o, e, ex.1⟩, fun a e2 => ?_⟩
      cases e2
      exact ⟨o, e, ex.2.1⟩
  | _ => exact False.elim ty
def tBM (K : PySem.W.Frag) (T : String) (r : V → List V → Hp → VK → Prop) (to : TE) (t : TA) : TE := fun σ H Q => to σ H fun x H1 => tyV K T x H1 ∧ t σ H1 fun xs H2 => r x xs H2 Q
variable {o e : Expr} {es : List Expr} {to : TE} {t : TA} {name : Str} {apos cpos : Pos} {T id : String} {r : V → List V → Hp → VK → Prop}
theorem pe_bm (pa : PlainAttrs T) (slot : Slot T name id) (hty : typeOf (.builtin id) = pure (.type "method_descriptor")) (hm : MtR X id r) (ho : PE X o to) (ha : PA X (e :: es) t)
    (hbase : attributeBase o name X.env (eval o X.env) = eval o X.env := by rfl)
    (hfew : ((backTo cpos (starEach (e :: es) X.env)).all (fun x => !x.1) && (backToKw cpos (keywordEach [] X.env)).all (fun x => x.1.isSome)
      && decide ((e :: es).length + ([] : List Keyword).length + (if ([] : List Keyword).isEmpty then 0 else 1) < 30)) = true := by rfl)
    (hline : (apos.endLine == cpos.line) = true := by rfl) (hs : starEach (e :: es) X.env = (false, eval e X.env) :: starEach es X.env := by rfl) (hplain : (backTo cpos (starEach es X.env)).any (·.1) = false := by rfl) :
    PE X (.Call (.Attribute o name apos) (e :: es) [] cpos) (tBM X.K T r to t) := by
  intro pins s σ H Q I h
  refine wpAny_Call_method_late hbase hfew hline rfl (thn (ho pins s σ H _ I h) fun v s1 ⟨x, H1, I1, r1, ty, q1⟩ => ?_)
  obtain ⟨h1, h2⟩ := tyV_is I1 r1 ty
  refine ⟨T, id, pa, slot, hty, h1, h2, ?_⟩
  have hA := ha cpos pins s1 σ H1 _ I1 q1
  rw [hs] at hA ⊢
  refine Calls.callWith_builtin (by show (false || (backTo cpos (starEach es X.env)).any (·.1)) = false; rw [hplain] <;> rfl) (Calls.evalArgs_plain ?_)
  exact thn hA fun us s2 ⟨vs, H2, I2, r2, q2⟩ => hm pins s2 σ H2 x vs v us Q I2 r1 r2 q2
/- xs.append(e), list.index on a module's tuple .. are MtR facts of 06m -/
end
end L2

namespace L2
open PySem PySem.Spec PyProof.Rows

def MtM (X : Cx) (id : String) (r : V → List V → Hp → VK → Prop) : Prop :=
  ∀ (pins : List (Addr × Obj)) (s : Shared) (σ : St) (H : Hp) (x : V) (xs : List V) (v : Value) (us : List Value) (Q : VK), Inv X pins σ H s → RelV x v → Vals xs us → r x xs H Q →
    wpAny (model X.prog X.w) X.A (call (.builtin id) (v :: us)) (EP X pins σ Q) X.xe s

/-! ### lists of values -/
theorem Vals.one : ∀ {x : V} {us : List Value}, Vals [x] us → ∃ u, us = [u] ∧ RelV x u
  | _, _, .cons r .nil => ⟨_, rfl, r⟩
theorem Vals.two : ∀ {x y : V} {us : List Value}, Vals [x, y] us → ∃ u v, us = [u, v] ∧ RelV x u ∧ RelV y v
  | _, _, _, .cons r (.cons q .nil) => ⟨_, _, rfl, r, q⟩
theorem Vals.zero : ∀ {us : List Value}, Vals [] us → us = []
  | _, .nil => rfl
theorem Vals.dropLast {xs : List V} {us : List Value} (h : Vals xs us) : Vals xs.dropLast us.dropLast := by
  induction h with
  | nil => exact .nil
  | cons r t ih =>
    cases t with
    | nil => exact .nil
    | cons q t' => exact .cons r ih
theorem Vals.rep {xs : List V} {us : List Value} (h : Vals xs us) : ∀ k : Nat, Vals (List.replicate k xs).flatten (List.replicate k us).flatten
  | 0 => .nil
  | k + 1 => by
    rw [List.replicate_succ, List.replicate_succ, List.flatten_cons, List.flatten_cons]
    exact Vals.append h (Vals.rep h k)
section
variable {X : Cx} {pins : List (Addr × Obj)} {σ : St} {H : Hp} {s : Shared} {l b : Addr} {xs ys zs : List V}

/-! ### the two steps: a tracked list is rewritten, a new list is laid -/
theorem Inv.lset {its its' : List Value} {n : Nat} {f : Array Value → Array Value} {t' : Nat} (I : Inv X pins σ H s) (hH : H l = some (.lst xs))
    (e : s.heap.get? l = some { cls := .type "list", data := .seq its.toArray n }) (hf : f its.toArray = its'.toArray) (hv : Vals ys its') (hz : ys.length ≤ sizeLine) :
    Inv X pins σ (upd H l (.lst ys)) { s with heap := s.heap.update l (Obj.mapSeq f), toks := t' } := by
  have q := PySem.IsL.update e f
  rw [hf] at q
  refine I.write (x := l) (e := l) (by rw [hH]; exact trivial) (.inl rfl) (fun b' u hb hu => (Heap.get?_update_other s.heap (Obj.mapSeq f) (Ne.symm hb)).trans hu) ⟨_, q⟩ ?_
  exact ⟨hz, its', _, hv, q⟩
theorem Inv.lnew {its : List Value} {t' : Nat} (I : Inv X pins σ H s) (hv : Vals ys its) (hz : ys.length ≤ sizeLine) :
    Inv X pins σ (upd H s.heap.objs.size (.lst ys)) { s with heap := s.heap.push { cls := .type "list", data := .seq its.toArray }, toks := t' } :=
  I.laid (fun _ _ q => Heap.get?_push_of_some _ q) (Nat.le_refl _) ⟨hz, its, 0, hv, Heap.get?_push_size _ rfl⟩
theorem Inv.fresh (I : Inv X pins σ H s) : H s.heap.objs.size = none := I.hok.fresh (Nat.le_refl _)
theorem Inv.lstM (I : Inv X pins σ H s) (hH : H l = some (.lst xs)) : xs.length ≤ sizeLine ∧ ∃ (its : List Value) (n : Nat), Vals xs its ∧ xs.length = its.length ∧ s.heap.get? l = some { cls := .type "list", data := .seq its.toArray n } := by
  obtain ⟨z, its, n, r, e⟩ := I.hok l _ hH
  exact ⟨z, its, n, r, r.length, e⟩

end

section
variable {X : Cx}

/-! ### methods -/
def rAppend : V → List V → Hp → VK → Prop := fun x vs H Q => ∃ l xs y, x = .ref l ∧ vs = [y] ∧ H l = some (.lst xs) ∧ xs.length < sizeLine ∧ Q .non (upd H l (.lst (xs ++ [y])))
theorem mt_append : MtM X "list.append" rAppend := by
  intro pins s σ H x vs v us Q I rx rv h
  obtain ⟨l, xs, y, rfl, rfl, hH, hz, q⟩ := h
  cases rx
  obtain ⟨u, rfl, ru⟩ := rv.one
  obtain ⟨z, its, n, r, hl, e⟩ := I.lstM hH
  refine call_meets F.slot_list_append ⟨_, e, rfl⟩ F.entry_list_append (F.args_list_append_2 _ _) (PySem.list_append l its.toArray n u (by rw [List.size_toArray]; omega)) ⟨e, ?_⟩
  refine ⟨.non, _, I.lset (its' := its ++ [u]) hH e (by simp) (r.append (.cons ru .nil)) ?_, rfl, q⟩
  rw [List.length_append, List.length_singleton]
  omega

/-! ### list + list, list += list, list * int -/
/-! ### del xs[i] -/
end

/-! ### xs[a:b] = ys -/
section
variable {prog : Program} {w : World} {A : Around} {E : Value → Shared → Prop} {s : Shared}
set_option maxRecDepth 100000 in
end

section
variable {X : Cx}
end
end L2

namespace Att
open PySem PySem.W PySem.Calls PyProof.Rows

/-! ### the script -/
theorem ints_of_wellAll {P : Params} {h : Heap} : ∀ (ns : List Int) (vs : List Value), WellAll P h vs (ns.map WData.int) → IntsAre vs ns := by
  intro ns
  induction ns with
  | nil =>
    intro vs w
    rw [List.map_nil] at w
    cases w
    exact .nil
  | cons n ns ih =>
    intro vs w
    rw [List.map_cons] at w
    cases w with
    | cons a b =>
      cases a
      exact .cons _ _ (ih _ b)

theorem script_of {l : OpenLaw} {n : Nat} (hn : l.most = some n) {P : Params} {h : Heap} {args : List WData} {vals : List Value}
    (hpre : l.row.toRowW.claim.pre args = true) (hwl : WellAll P h vals args) :
    ∃ a vs ns, vals = [Value.ref a] ∧ args = [WData.list (ns.map WData.int)] ∧ h.get? a = some { cls := .type "list", data := .seq vs.toArray } ∧ IntsAre vs ns ∧ ns.length ≤ n := by
  have hsh : WShape.hasAll [] args [.list .int] = true := (pre_splitW hpre).1
  have hc : l.pre.holds [] { args := args } = true := (pre_splitW hpre).2
  obtain ⟨d, r, rfl, h1, h2⟩ := hasAllW_cons hsh
  obtain rfl := hasAllW_nil h2
  obtain ⟨xs, rfl, h3⟩ := hasW_list h1
  obtain ⟨ns, rfl⟩ := items_int h3
  have hlen : ns.length ≤ n := by
    unfold OpenLaw.pre at hc
    have h4 : (WTm.not (.lt (.lit (.int (n : Int))) (.len (.arg 0)))).holds [] { args := [.list (ns.map .int)] } = true := by
      have h4 := (holds_andW hc).1
      rw [hn] at h4
      exact h4
    have h5 := condW_of h4 (w_not (w_lt w_lit (w_len_list (w_arg rfl))))
    rw [List.length_map] at h5
    refine Nat.le_of_not_lt fun q => ?_
    have q' : (n : Int) < ((ns.length : Nat) : Int) := by omega
    first
      | (rw [decide_eq_true q'] at h5; exact absurd h5 (by decide))
      | (simp at h5; omega)
  cases hwl with
  | cons w1 w2 =>
    cases w2
    cases w1 with
    | list ho hall => exact ⟨_, _, ns, rfl, rfl, ho, ints_of_wellAll ns _ hall, hlen⟩

theorem post_true (l : OpenLaw) (args : List WData) : l.row.toRowW.claim.post args (.bool true) args = true :=
  postW_of (r := l.row.toRowW) (X := (true == true))
    (show WShape.has [] (.bool true) .bool = true by first | rfl | decide | simp [WShape.has, WShape.arms, WShape.armsAll])
    (show (WTm.eq .res (.lit (.bool true))).value [] { args := args, res := some (.bool true), after := args } = some (.bool (true == true)) from w_eq_bool (w_res rfl) w_lit) rfl

/-! ### the attachment: holds_open's last premise (the goal 'hc' behind k_head) from a wpAny of the law's body -/
theorem attach_call {l : OpenLaw} {n : Nat} {q : Program} {loose : List Str} {XP : (Str → Option Value) → Heap → Prop} {YP : World → Heap → Prop} {d : DefRec}
    (hn : l.most = some n) (hdf : d.params.defaults = [])
    (call : ∀ (w : World) (s₀ s₁ : Shared) (mg mb : Str → Option Value) (fa : Addr) (o : Obj) (pm cd doc : Value) (a : Addr) (vs : List Value) (ns : List Int),
      Ground q loose [] XP w s₀ mg mb s₁.heap → YP w s₁.heap →
      s₁.heap.get? fa = some o → o.data = .func (docDef d.name d.params d.body d.scope pm cd doc) → s₁.heap.CodeRec cd d.name → mg d.name = some (.ref fa) →
      s₁.heap.get? a = some { cls := .type "list", data := .seq vs.toArray } → IntsAre vs ns → ns.length ≤ n → s₁.gens = #[] →
      codeAny (model l.prog w) callerA (.call (.ref fa) ⟨[.ref a], []⟩) (fun r s' => r = .ok (.ret (.bool true)) ∧ OldK s₁.heap s'.heap ∧ s'.os = s₁.os ∧ AllBare s'.gens) s₁) :
    WalkO q loose XP YP l.row.toRowW d [] (fun f vs => PySem.call f vs) := by
  intro w s₀ s₁ mg mb G Y fa o pm cd doc dV kV ho hd hcd hD hmg hg args vals as hpre hlay hrd hwl hlo
  obtain rfl : dV = .none := Dflts.none hD hdf
  obtain rfl : kV = .none := Dflts.noKw hD
  obtain ⟨a, vs, ns, rfl, rfl, hobj, hints, hlen⟩ := script_of hn hpre hwl
  refine enter_call (codeAny_mono (call w s₀ s₁ mg mb fa o pm cd doc a vs ns G Y ho (fd_plain hd) hcd hmg hobj hints hlen hg) fun r s' hq => ?_)
  obtain ⟨rfl, h2, h3, h4⟩ := hq
  exact ⟨.inl ⟨.bool true, .bool true, [], rfl, fun _ => rfl, .bool true, post_true l _, fun _ => ⟨List.Pairwise.nil, fun _ hm => (nomatch hm)⟩⟩, h2, h3, h4⟩

/-! ### rules over ANY heap (no ledger) from facts about the written part K: the library's own take a ledger (News) for what they write -/
section
variable {prog : Program} {w : World} {A : Around} {E : Value → Shared → Prop} {s : Shared} {K : Frag}

/-! the whole heap as the ledger: makes every rule that writes through a ledger a rule over any heap -/
end
end Att

namespace L2
open PySem PySem.Spec PyProof.Rows

theorem vals_ints : ∀ {vs : List Value} {ns : List Int}, IntsAre vs ns → Vals (ns.map V.int) vs
  | _, _, .nil => .nil
  | _, _, .cons n t h => .cons ⟨t, rfl⟩ (vals_ints h)

def Only (H : Hp) : Prop := ∀ b, H b = none ∨ ∃ o xs, H b = some (.frz o (.lst xs))

end L2

namespace L2
open PySem PySem.Spec PyProof.Rows

end L2

/- THE LAST THEOREM (shape; LID, My.* are yours):
   My.Adr: a structure of the addresses that your layer names (classes, functions); My.Txt K t: a structure (Prop) of the equations over K;
   My.txt_mk : {K} {implicit addresses ..} (e1 : nsIn K mainGlobals "law" = some (some (.ref f))) (e2 : K.lookup f = some ⟨oc, od, .func (fnOf "law" "law" params body scope dV kV doc pm an cdv ct), sl⟩) (e3 : codeIn K cdv "law" = true) .. : ∃ t, My.Txt K t

set_option maxRecDepth 100000 in
set_option maxHeartbeats 0 in
theorem PySem.Challenge.cw_LID_holds : PySem.Challenge.rw_LID.Holds := by
  w_on; o_law; k_head; (case hw => w_witness2)
  k_fill
  refine L2.walk_of (l := PySem.Challenge.rw_LID) (n := 63) (k := 40) (x := "script") (CX := fun w => ..) (sp := fun _ => My.sp_law) rfl (by decide) rfl ⟨rfl, by decide, by decide⟩ (fun w h Y => PySem.W.kIn_of Y) ?F ?S ?C
  case F =>
    intro w mg fa h KX G hmg
    have T : ∃ t, My.Txt (L2.KOf KX) t := by
      dsimp only [L2.KOf]                          -- K must stand as «<heap const> w.params» for k_is
      refine' My.txt_mk ?e1 ?e2 ?e3 ..
      (case e1 => PySem.W.k_is)                    -- in the order: a name -> its address -> its object -> its parts
      (case e2 => PySem.W.k_is)
      ..
    obtain ⟨t, T⟩ := T
    have e0 := hmg.symm.trans (PySem.W.mg_of KX G T.law)
    cases e0                                       -- fa is the law's own address
    exact ⟨_, fun s u => .of_eq rfl, fun base kb nb => My.law_fn T kb nb⟩     -- if «.of_eq rfl» comes too early: refine' ⟨_, ?b, fun base kb nb => My.law_fn T kb nb⟩; exact fun s u => .of_eq rfl
  case S => exact fun w H a ns hl hO hS => ..
  case C => exact ..
(the tactic k_is has no namespace: write k_is) -/

/-! SHORT WORDS over the layer: a def of the text, its body, what a loop and a test want. -/
namespace L2
open PySem PySem.Spec PyProof.Rows

/-! ### the text by places -/
def defArgs (s : Stmt) : Arguments := match s with
  | .FunctionDef _ a _ _ _ _ _ _ _ _ => a
  | _ => { posonlyargs := [], args := [], vararg := none, kwonlyargs := [], kw_defaults := [], kwarg := none, defaults := [] }
def defBody (s : Stmt) : List Stmt := match s with
  | .FunctionDef _ _ b _ _ _ _ _ _ _ => b
  | _ => []
def defScope (s : Stmt) : Scope := match s with
  | .FunctionDef _ _ _ _ _ _ sc _ _ _ => sc
  | _ => { kind := .function, names := [], isGenerator := false, isCoroutine := false }

/-! ### no exception leaves a def -/
abbrev CX0 : CXT := fun _ _ _ _ _ _ => False
/-! ### a def (or method) of the text as it stands behind the top -/
structure Fun (K : PySem.W.Frag) (x qual : Str) (st : Stmt) (f : Addr) (fd : FuncData) : Prop where
  ex : ∃ (oc : Value) (od : Option Addr) (kV doc pm : Value) (an : Option Addr) (cdv ct : Value) (osl : Array (Option Value)),
    fd = PySem.W.fnOf x qual (defArgs st) (defBody st) (defScope st) .none kV doc pm an cdv ct ∧ K.lookup f = some ⟨oc, od, .func fd, osl⟩ ∧ PySem.W.codeIn K cdv qual = true
  kp : PySem.W.keepIn K (.ref f) = true
section
variable {P : Program} {w : World} {K : PySem.W.Frag} {mg : Str → Option Value} {base : Heap}
theorem Fun.ok {x qual : Str} {st : Stmt} {f : Addr} {fd : FuncData} {N ps : List Str} {k : Nat} {sp : Sp} (F : Fun K x qual st f fd) (S : FnScope N ps (defScope st)) (len : ∀ vs H Q E, sp vs H Q E → vs.length = ps.length)
    (hbody : ∀ (cdv : Value) (A : Around) (outer : List Env) (s : Shared) (H : Hp) (vs : List V) (Q : VK) (E : XK), Room k (A.deeper (envOfC qual (defScope st) s.heap.objs.size f cdv)) → sp vs H Q E →
      ∃ t, PSs (cxOf CX0 P w K mg base N qual (defScope st) f cdv A outer s H E).nox (defBody st) t ∧ t { nx := fun _ H' => Q .non H', rt := Q } (start N vs) H) : FnOk P w K mg base CX0 (k + 1) f fd ps sp := by
  obtain ⟨oc, od, kV, doc, pm, an, cdv, ct, osl, rfl, lk, hcd⟩ := F.ex
  refine fn_of lk hcd S len fun A outer s H vs Q E hr hsp => ?_
  obtain ⟨t, h, q⟩ := hbody cdv A outer s H vs Q E hr hsp
  exact ⟨t, h.nox, q⟩
theorem Fun.binds {x qual : Str} {st : Stmt} {f : Addr} {fd : FuncData} {ps : List Str} (F : Fun K x qual st f fd)
    (h : ∀ (kV doc pm : Value) (an : Option Addr) (cdv ct : Value) (us : List Value), us.length = ps.length → bindArgs (PySem.W.fnOf x qual (defArgs st) (defBody st) (defScope st) .none kV doc pm an cdv ct) ⟨us, []⟩ = pure (ps.zip us)) : Binds K fd ps [] := by
  obtain ⟨oc, od, kV, doc, pm, an, cdv, ct, osl, rfl, lk, hcd⟩ := F.ex
  exact .all (h kV doc pm an cdv ct)
theorem fun_mk {x qual : Str} {st : Stmt} {f : Addr} {oc : Value} {od an : Option Addr} {osl : Array (Option Value)} {kV doc pm cdv ct : Value} (l : K.lookup f = some ⟨oc, od, .func (PySem.W.fnOf x qual (defArgs st) (defBody st) (defScope st) .none kV doc pm an cdv ct), osl⟩)
    (c : PySem.W.codeIn K cdv qual = true) (k : PySem.W.keepIn K (.ref f) = true) : Fun K x qual st f (PySem.W.fnOf x qual (defArgs st) (defBody st) (defScope st) .none kV doc pm an cdv ct) := ⟨⟨oc, od, kV, doc, pm, an, cdv, ct, osl, rfl, l, c⟩, k⟩
end
/-! ### expressions in short: the name that stands in the i-th slot -/
section
variable {X : Cx}
theorem pv (i : Nat) {x : Str} {pos : Pos} (hN : X.N[i]? = some x := by rfl) (hv : Vis X.env.scope x := by first | exact Or.inl rfl | exact Or.inr (Or.inl rfl) | exact Or.inr (Or.inr rfl)) (hd : (x == ("__debug__" : Str)) = false := by decide)
    (hcd : (x == ("__classdict__" : Str)) = false := by decide) : PE X (.Name x pos) (tVar i) := pe_var hN hv hd hcd
end

/-! ### tests -/
/-! ### heaps -/
def Same (H H' : Hp) : Prop := ∀ b o, H b = some o → H' b = some o
theorem Same.refl (H : Hp) : Same H H := fun _ _ h => h
theorem Same.trans {H H1 H2 : Hp} (a : Same H H1) (b : Same H1 H2) : Same H H2 := fun c o h => b c o (a c o h)
theorem Same.free {H H' : Hp} (e : Same H H') {l : Addr} (h : H' l = Option.none) : H l = Option.none := by
  cases q : H l with
  | none => rfl
  | some o =>
    rw [e l o q] at h
    cases h
theorem Same.seq {K : PySem.W.Frag} {H H' : Hp} {a : Addr} {xs : List V} (e : Same H H') (h : SqL K H a xs) : SqL K H' a xs := by
  rcases h with (h | ⟨o, h⟩) | h
  · exact .inl (.inl (e _ _ h))
  · exact .inl (.inr ⟨o, e _ _ h⟩)
  · exact .inr h

end L2


namespace L4
open PySem L2

inductive D where
  | non | bl (b : Bool) | int (i : Int) | str (x : Str) | ty (n : String) | tup (ds : List D) | lst (ds : List D) | dct (ks vs : List D) | exc (c : Str)
structure XD where
  c : Str
  fs : List (Str × D)
def keyD : Key → D
  | .inl i => .int i
  | .inr x => .str x

def LsK (K : PySem.W.Frag) (H : Hp) (a : Addr) (xs : List V) : Prop :=
  Rd H a (.lst xs) ∨ ∃ (its : Array Value) (n : Nat), K.lookup a = some { cls := .type "list", data := .seq its n } ∧ its.size ≤ sizeLine ∧ Vals xs its.toList
theorem LsK.sq {K : PySem.W.Frag} {H : Hp} {a : Addr} {xs : List V} (h : LsK K H a xs) : SqL K H a xs := by
  rcases h with h | ⟨its, n, h1, h2, h3⟩
  · exact .inl h
  · exact .inr ⟨_, its, n, h1, rfl, rfl, rfl, h2, h3⟩
theorem LsK.of {K : PySem.W.Frag} {H : Hp} {a : Addr} {xs : List V} (h : H a = some (.lst xs)) : LsK K H a xs := .inl (.inl h)
def DcK (H : Hp) (a : Addr) (ks : List D) (vs : List V) : Prop :=
  (∃ kvs : List (List Key × V), Rd H a (.dT kvs) ∧ ks = kvs.map (fun kv => D.tup (kv.1.map keyD)) ∧ vs = kvs.map (·.2)) ∨
  (∃ kvs : List (Key × V), Rd H a (.dK kvs) ∧ ks = kvs.map (fun kv => keyD kv.1) ∧ vs = kvs.map (·.2))
def DcO (H : Hp) (a : Addr) (ks : List D) (vs : List V) : Prop :=
  (∃ kvs : List (List Key × V), H a = some (.dT kvs) ∧ ks = kvs.map (fun kv => D.tup (kv.1.map keyD)) ∧ vs = kvs.map (·.2)) ∨
  (∃ kvs : List (Key × V), H a = some (.dK kvs) ∧ ks = kvs.map (fun kv => keyD kv.1) ∧ vs = kvs.map (·.2))
theorem DcO.k {H : Hp} {a : Addr} {ks : List D} {vs : List V} (h : DcO H a ks vs) : DcK H a ks vs := by
  rcases h with ⟨kvs, h, e⟩ | ⟨kvs, h, e⟩
  · exact .inl ⟨kvs, .inl h, e⟩
  · exact .inr ⟨kvs, .inl h, e⟩

def XObj (a : Addr) (C : Value) (h : Heap) : Prop := ∃ oe vs, h.get? a = some oe ∧ oe.cls = C ∧ oe.data = .fields vs
def ExN (K : PySem.W.Frag) (c : Str) (C : Value) : Prop := PySem.W.nsIn K mainGlobals c = some (some C)
mutual
inductive Rep (K : PySem.W.Frag) (G : Hp) : V → D → Prop where
  | non : Rep K G .non .non
  | bl (b : Bool) : Rep K G (.bl b) (.bl b)
  | int (i : Int) : Rep K G (.int i) (.int i)
  | str (x : Str) : Rep K G (.str x) (.str x)
  | ty (n : String) : Rep K G (.ty n) (.ty n)
  | tup {a : Addr} {vs : List V} {ds : List D} : SqT K G a vs → RepL K G vs ds → Rep K G (.ref a) (.tup ds)
  | lst {a : Addr} {vs : List V} {ds : List D} : LsK K G a vs → RepL K G vs ds → Rep K G (.ref a) (.lst ds)
  | dct {a : Addr} {vs : List V} {ks ds : List D} : DcK G a ks vs → RepL K G vs ds → Rep K G (.ref a) (.dct ks ds)
  | exc {a : Addr} {C : Value} {c : Str} : ExN K c C → G a = some (.ext (XObj a C)) → Rep K G (.ref a) (.exc c)
inductive RepL (K : PySem.W.Frag) (G : Hp) : List V → List D → Prop where
  | nil : RepL K G [] []
  | cons {v : V} {vs : List V} {d : D} {ds : List D} : Rep K G v d → RepL K G vs ds → RepL K G (v :: vs) (d :: ds)
end

theorem same_rd {H H' : Hp} {a : Addr} {u : HO} (e : Same H H') (h : Rd H a u) : Rd H' a u := by
  rcases h with h | ⟨o, h⟩
  · exact .inl (e _ _ h)
  · exact .inr ⟨o, e _ _ h⟩
theorem same_ls {K : PySem.W.Frag} {H H' : Hp} {a : Addr} {xs : List V} (e : Same H H') (h : LsK K H a xs) : LsK K H' a xs := by
  rcases h with h | h
  · exact .inl (same_rd e h)
  · exact .inr h
theorem same_dc {H H' : Hp} {a : Addr} {ks : List D} {vs : List V} (e : Same H H') (h : DcK H a ks vs) : DcK H' a ks vs := by
  rcases h with ⟨kvs, h, q⟩ | ⟨kvs, h, q⟩
  · exact .inl ⟨kvs, same_rd e h, q⟩
  · exact .inr ⟨kvs, same_rd e h, q⟩
theorem same_sqT {K : PySem.W.Frag} {H H' : Hp} {a : Addr} {xs : List V} (e : Same H H') (h : SqT K H a xs) : SqT K H' a xs := by
  rcases h with h | h
  · exact .inl (same_rd e h)
  · exact .inr h

mutual
theorem Rep.mono {K : PySem.W.Frag} {G G' : Hp} (e : Same G G') : ∀ {v : V} {d : D}, Rep K G v d → Rep K G' v d
  | _, _, .non => .non
  | _, _, .bl b => .bl b
  | _, _, .int i => .int i
  | _, _, .str x => .str x
  | _, _, .ty n => .ty n
  | _, _, .tup h r => .tup (same_sqT e h) (RepL.mono e r)
  | _, _, .lst h r => .lst (same_ls e h) (RepL.mono e r)
  | _, _, .dct h r => .dct (same_dc e h) (RepL.mono e r)
  | _, _, .exc n h => .exc n (e _ _ h)
theorem RepL.mono {K : PySem.W.Frag} {G G' : Hp} (e : Same G G') : ∀ {vs : List V} {ds : List D}, RepL K G vs ds → RepL K G' vs ds
  | _, _, .nil => .nil
  | _, _, .cons h r => .cons (Rep.mono e h) (RepL.mono e r)
end

theorem RepL.len {K : PySem.W.Frag} {G : Hp} : ∀ {vs : List V} {ds : List D}, RepL K G vs ds → vs.length = ds.length
  | _, _, .nil => rfl
  | _, _, .cons _ r => congrArg (· + 1) (RepL.len r)
theorem RepL.app {K : PySem.W.Frag} {G : Hp} : ∀ {vs ws : List V} {ds es : List D}, RepL K G vs ds → RepL K G ws es → RepL K G (vs ++ ws) (ds ++ es)
  | _, _, _, _, .nil, s => s
  | _, _, _, _, .cons h r, s => .cons h (RepL.app r s)
theorem RepL.at {K : PySem.W.Frag} {G : Hp} : ∀ {vs : List V} {ds : List D} {i : Nat} {d : D}, RepL K G vs ds → ds[i]? = some d → ∃ v, vs[i]? = some v ∧ Rep K G v d
  | _, _, _, _, .nil, e => by simp at e
  | _, _, 0, _, .cons h _, e => by simp at e; subst e; exact ⟨_, rfl, h⟩
  | _, _, i + 1, d, .cons _ r, e => by
    obtain ⟨v, h1, h2⟩ := RepL.at (i := i) (d := d) r (by simpa using e)
    exact ⟨v, by simpa using h1, h2⟩
theorem RepL.atV {K : PySem.W.Frag} {G : Hp} : ∀ {vs : List V} {ds : List D} {i : Nat} {v : V}, RepL K G vs ds → vs[i]? = some v → ∃ d, ds[i]? = some d ∧ Rep K G v d
  | _, _, _, _, .nil, e => by simp at e
  | _, _, 0, _, .cons h _, e => by simp at e; subst e; exact ⟨_, rfl, h⟩
  | _, _, i + 1, d, .cons _ r, e => by
    obtain ⟨v, h1, h2⟩ := RepL.atV (i := i) (v := d) r (by simpa using e)
    exact ⟨v, by simpa using h1, h2⟩
theorem RepL.take {K : PySem.W.Frag} {G : Hp} : ∀ (n : Nat) {vs : List V} {ds : List D}, RepL K G vs ds → RepL K G (vs.take n) (ds.take n)
  | 0, _, _, _ => .nil
  | _ + 1, _, _, .nil => .nil
  | n + 1, _, _, .cons h r => .cons h (RepL.take n r)
theorem RepL.drop {K : PySem.W.Frag} {G : Hp} : ∀ (n : Nat) {vs : List V} {ds : List D}, RepL K G vs ds → RepL K G (vs.drop n) (ds.drop n)
  | 0, _, _, r => r
  | _ + 1, _, _, .nil => .nil
  | n + 1, _, _, .cons _ r => RepL.drop n r
theorem RepL.set {K : PySem.W.Frag} {G : Hp} {v : V} {d : D} (h : Rep K G v d) : ∀ (n : Nat) {vs : List V} {ds : List D}, RepL K G vs ds → RepL K G (vs.set n v) (ds.set n d)
  | _, _, _, .nil => .nil
  | 0, _, _, .cons _ r => .cons h r
  | n + 1, _, _, .cons q r => .cons q (RepL.set h n r)
theorem RepL.map {K : PySem.W.Frag} {G : Hp} {α : Type} {f : α → V} {g : α → D} (h : ∀ a, Rep K G (f a) (g a)) : ∀ l : List α, RepL K G (l.map f) (l.map g)
  | [] => .nil
  | a :: l => .cons (h a) (RepL.map h l)

inductive Sl where
  | val (d : D) | own (d : D) | lnt (d : D)
def Sl.fz : Sl → D
  | .val d => d
  | .own d => d
  | .lnt d => d
abbrev DEnv := List (Option Sl)

def OwnAt (K : PySem.W.Frag) (G H : Hp) (p : Addr) : D → Prop
  | .lst ds => ∃ vs, H p = some (.lst vs) ∧ RepL K G vs ds
  | .dct ks ds => ∃ vs, DcO H p ks vs ∧ RepL K G vs ds
  | _ => False
def RepS (K : PySem.W.Frag) (G H : Hp) (v : V) : Sl → Prop
  | .val d => Rep K G v d
  | .own d => ∃ p, v = .ref p ∧ G p = none ∧ OwnAt K G H p d
  | .lnt d => ∃ p, v = .ref p ∧ G p = none ∧ OwnAt K G H p d
def Sl.isO : Sl → Bool
  | .val _ => false
  | _ => true
theorem RepS.own {K : PySem.W.Frag} {G H : Hp} {v : V} {s : Sl} (h : RepS K G H v s) (o : s.isO = true) : ∃ p, v = .ref p ∧ G p = none ∧ OwnAt K G H p s.fz := by
  cases s with
  | val d => cases o
  | own d => exact h
  | lnt d => exact h
theorem OwnAt.some {K : PySem.W.Frag} {G H : Hp} {p : Addr} {d : D} (h : OwnAt K G H p d) : ∃ o, H p = Option.some o := by
  cases d with
  | lst ds => obtain ⟨vs, h, _⟩ := h; exact ⟨_, h⟩
  | dct ks ds =>
    obtain ⟨vs, h, _⟩ := h
    rcases h with ⟨kvs, h, _⟩ | ⟨kvs, h, _⟩
    · exact ⟨_, h⟩
    · exact ⟨_, h⟩
  | _ => exact h.elim
theorem OwnAt.keep {K : PySem.W.Frag} {G H G' H' : Hp} {p : Addr} {d : D} (h : OwnAt K G H p d) (e : H' p = H p) (g : Same G G') : OwnAt K G' H' p d := by
  cases d with
  | lst ds => obtain ⟨vs, h, r⟩ := h; exact ⟨vs, by rw [e]; exact h, RepL.mono g r⟩
  | dct ks ds =>
    obtain ⟨vs, h, r⟩ := h
    refine ⟨vs, ?_, RepL.mono g r⟩
    rcases h with ⟨kvs, h, q⟩ | ⟨kvs, h, q⟩
    · exact .inl ⟨kvs, by rw [e]; exact h, q⟩
    · exact .inr ⟨kvs, by rw [e]; exact h, q⟩
  | _ => exact h.elim
theorem OwnAt.shown {K : PySem.W.Frag} {G H : Hp} {p : Addr} {d : D} (h : OwnAt K G H p d) (hg : G p = Option.none) {o : HO} (ho : H p = Option.some o) : Rep K (upd G p o) (.ref p) d := by
  have hs : Same G (upd G p o) := fun b u q => by rw [upd_ne (ne_of_none q hg)]; exact q
  cases d with
  | lst ds => obtain ⟨vs, h, r⟩ := h; rw [ho] at h; cases h; exact .lst (.of upd_same) (RepL.mono hs r)
  | dct ks ds =>
    obtain ⟨vs, h, r⟩ := h
    refine .dct ?_ (RepL.mono hs r)
    rcases h with ⟨kvs, h, q⟩ | ⟨kvs, h, q⟩
    · rw [ho] at h; cases h; exact .inl ⟨kvs, .inl upd_same, q⟩
    · rw [ho] at h; cases h; exact .inr ⟨kvs, .inl upd_same, q⟩
  | _ => exact h.elim
def Ow (σ : St) (δ : DEnv) (p : Addr) : Prop := ∃ (i : Nat) (s : Sl), δ[i]? = some (some s) ∧ s.isO = true ∧ σ[i]? = some (some (V.ref p))

structure EnvOk (K : PySem.W.Frag) (G H : Hp) (σ : St) (δ : DEnv) : Prop where
  len : δ.length = σ.length
  at' : ∀ (i : Nat) (s : Sl), δ[i]? = some (some s) → ∃ v, σ[i]? = some (some v) ∧ RepS K G H v s
  sep : ∀ (i j : Nat) (p : Addr) (s s' : Sl), δ[i]? = some (some s) → δ[j]? = some (some s') → s.isO = true → s'.isO = true → σ[i]? = some (some (.ref p)) → σ[j]? = some (some (.ref p)) → i = j

structure StOk (K : PySem.W.Frag) (M : Nat → Option Addr) (G0 H0 G H : Hp) (σ : St) (δ : DEnv) : Prop where
  gh : Same G H
  env : EnvOk K G H σ δ
  h0 : Same H0 H
  g0 : Same G0 G
  fr : ∀ b, H0 b ≠ none → G0 b = none → G b = none
  own0 : ∀ p, Ow σ δ p → H0 p = none
  mt : ∀ (i : Nat) (d : D), δ[i]? = some (some (.lnt d)) → ∃ p, M i = some p ∧ σ[i]? = some (some (.ref p))

structure Gr (G H : Hp) (σ : St) (δ : DEnv) (G' H' : Hp) (δ' : DEnv) : Prop where
  hs : ∀ b o, H b = some o → ¬ Ow σ δ b → H' b = some o
  hd : ∀ b, H b ≠ none → H' b ≠ none
  gg : Same G G'
  fr : ∀ b, H b ≠ none → G b = none → ¬ Ow σ δ b → G' b = none
  shr : ∀ p, Ow σ δ' p → Ow σ δ p

theorem Gr.refl (G H : Hp) (σ : St) (δ : DEnv) : Gr G H σ δ G H δ := ⟨fun _ _ h _ => h, fun _ h => h, Same.refl _, fun _ _ h _ => h, fun _ h => h⟩
theorem same_ne {H H' : Hp} (e : Same H H') {b : Addr} (h : H b ≠ none) : H' b ≠ none := by
  cases q : H b with
  | none => exact absurd q h
  | some o => rw [e b o q]; simp
theorem Gr.of {G H G' H' : Hp} {σ : St} {δ δ' : DEnv} (hh : Same H H') (gg : Same G G') (fr : ∀ b, H b ≠ none → G b = none → ¬ Ow σ δ b → G' b = none) (shr : ∀ p, Ow σ δ' p → Ow σ δ p) : Gr G H σ δ G' H' δ' :=
  ⟨fun b o h _ => hh b o h, fun _ h => same_ne hh h, gg, fr, shr⟩
theorem Gr.trans {G H G1 H1 G2 H2 : Hp} {σ : St} {δ δ1 δ2 : DEnv} (a : Gr G H σ δ G1 H1 δ1) (b : Gr G1 H1 σ δ1 G2 H2 δ2) : Gr G H σ δ G2 H2 δ2 :=
  ⟨fun c o h n => b.hs c o (a.hs c o h n) fun z => n (a.shr c z), fun c h => b.hd c (a.hd c h), a.gg.trans b.gg, fun c h n o => b.fr c (a.hd c h) (a.fr c h n o) fun z => o (a.shr c z), fun p z => a.shr p (b.shr p z)⟩
theorem Gr.free {G H G' H' : Hp} {σ : St} {δ δ' : DEnv} (g : Gr G H σ δ G' H' δ') {p : Addr} (h : H' p = none) : H p = none := by
  cases q : H p with
  | none => rfl
  | some o => exact absurd h (g.hd p (by rw [q]; simp))
theorem StOk.noOw {K : PySem.W.Frag} {M : Nat → Option Addr} {G0 H0 G H : Hp} {σ : St} {δ : DEnv} (S : StOk K M G0 H0 G H σ δ) {p : Addr} (hp : H p = none) : ¬ Ow σ δ p := fun ⟨i, s, z1, o, z2⟩ => by
  obtain ⟨v, z3, r⟩ := S.env.at' i _ z1
  rw [z2] at z3
  cases z3
  obtain ⟨q, z4, _, z5⟩ := r.own o
  cases z4
  obtain ⟨o', z6⟩ := z5.some
  rw [hp] at z6; cases z6

def RepR (K : PySem.W.Frag) (H G' H' : Hp) (v : V) (s : Sl) : Prop := RepS K G' H' v s ∧ (s.isO = true → (∃ d, s = .own d) ∧ ∃ p, v = .ref p ∧ H p = none)

def New (X : Cx) (pins : List (Addr × Obj)) (b : Addr) : Prop := (b ∉ X.ex → X.s₀.heap.get? b = none) ∧ ∀ p ∈ X.pn ++ pins, p.1 ≠ b
structure Air (N : Addr → Prop) (H : Hp) (h : Heap) (e : Addr) (C : Value) : Prop where
  n : N e
  f : H e = none
  ex : ∃ oe vs, h.get? e = some oe ∧ oe.cls = C ∧ oe.data = .fields vs ∧ (vs[1]? = some .none ∨ ∃ T oT ts, vs[1]? = some (.ref T) ∧ N T ∧ H T = none ∧ T ≠ e ∧ h.get? T = some oT ∧ oT.data = .fields ts ∧ ts[3]? = some .none)
def XRep (X : Cx) (C : Value) (dx : Option Addr) (_ _ : Hp) (x : XD) : Prop := ExN X.K x.c C ∧ x.fs = [] ∧ dx = none
def EX (X : Cx) (σ : St) (C : Value) (_ : Option Addr) (H : Hp) : Prop := ∀ pins e s, Inv X pins σ H s → Air (New X pins) H s.heap e C → X.xe (.ref e) s

abbrev Rs (α : Type) := Option (Except XD α × DEnv)
def Rs.bind {α β : Type} (r : Rs α) (k : α → DEnv → Rs β) : Rs β := match r with
  | some (.ok a, δ) => k a δ
  | some (.error x, δ) => some (.error x, δ)
  | none => none
theorem Rs.inv {α β : Type} {r : Rs α} {k : α → DEnv → Rs β} {q : Except XD β} {δ' : DEnv} (h : r.bind k = some (q, δ')) : (∃ a δ1, r = some (.ok a, δ1) ∧ k a δ1 = some (q, δ')) ∨ ∃ x, r = some (.error x, δ') ∧ q = .error x := by
  unfold Rs.bind at h
  split at h
  · exact .inl ⟨_, _, rfl, h⟩
  · cases h; exact .inr ⟨_, rfl, rfl⟩
  · cases h
theorem Rs.bind_ok {α β : Type} (a : α) (δ : DEnv) (k : α → DEnv → Rs β) : Rs.bind (some (.ok a, δ)) k = k a δ := rfl
abbrev FE := DEnv → Rs Sl
abbrev FL := DEnv → Rs (List D)
abbrev FT := DEnv → Rs Bool
def PostX (X : Cx) (M : Nat → Option Addr) (G0 H0 G H : Hp) (σ : St) (δ δ' : DEnv) (x : XD) : Prop := ∀ C dx G' H', StOk X.K M G0 H0 G' H' σ δ' → Gr G H σ δ G' H' δ' → XRep X C dx G' H' x → EX X σ C dx H'
theorem PostX.after {X : Cx} {M : Nat → Option Addr} {G0 H0 G H G1 H1 : Hp} {σ : St} {δ δ1 δ' : DEnv} {x : XD} (g : Gr G H σ δ G1 H1 δ1) (k : PostX X M G0 H0 G H σ δ δ' x) : PostX X M G0 H0 G1 H1 σ δ1 δ' x := fun C dx G' H' S g' r => k C dx G' H' S (g.trans g') r
def PostE (X : Cx) (M : Nat → Option Addr) (G0 H0 G H : Hp) (σ : St) (δ δ' : DEnv) (Q : VK) : Except XD Sl → Prop
  | .ok s => ∀ v G' H', StOk X.K M G0 H0 G' H' σ δ' → Gr G H σ δ G' H' δ' → RepR X.K H G' H' v s → Q v H'
  | .error x => PostX X M G0 H0 G H σ δ δ' x
def PostL (X : Cx) (M : Nat → Option Addr) (G0 H0 G H : Hp) (σ : St) (δ δ' : DEnv) (Q : List V → Hp → Prop) : Except XD (List D) → Prop
  | .ok ds => ∀ vs G' H', StOk X.K M G0 H0 G' H' σ δ' → Gr G H σ δ G' H' δ' → RepL X.K G' vs ds → Q vs H'
  | .error x => PostX X M G0 H0 G H σ δ δ' x
def PostT {α : Type} (X : Cx) (M : Nat → Option Addr) (G0 H0 G H : Hp) (σ : St) (δ δ' : DEnv) (Q : α → Hp → Prop) : Except XD α → Prop
  | .ok b => ∀ G' H', StOk X.K M G0 H0 G' H' σ δ' → Gr G H σ δ G' H' δ' → Q b H'
  | .error x => PostX X M G0 H0 G H σ δ δ' x
def SndE (X : Cx) (t : TE) (f : FE) : Prop := ∀ (M : Nat → Option Addr) (G0 H0 G H : Hp) (σ : St) (δ : DEnv) (r : Except XD Sl) (δ' : DEnv) (Q : VK), StOk X.K M G0 H0 G H σ δ → f δ = some (r, δ') → PostE X M G0 H0 G H σ δ δ' Q r → t σ H Q
def SndL (X : Cx) (t : TA) (f : FL) : Prop := ∀ (M : Nat → Option Addr) (G0 H0 G H : Hp) (σ : St) (δ : DEnv) (r : Except XD (List D)) (δ' : DEnv) (Q : List V → Hp → Prop), StOk X.K M G0 H0 G H σ δ → f δ = some (r, δ') → PostL X M G0 H0 G H σ δ δ' Q r → t σ H Q
def SndT (X : Cx) (t : TT) (f : FT) : Prop := ∀ (M : Nat → Option Addr) (G0 H0 G H : Hp) (σ : St) (δ : DEnv) (r : Except XD Bool) (δ' : DEnv) (Q : Bool → Hp → Prop), StOk X.K M G0 H0 G H σ δ → f δ = some (r, δ') → PostT X M G0 H0 G H σ δ δ' Q r → t σ H Q
def DE (X : Cx) (e : Expr) (f : FE) : Prop := ∃ t, PE X e t ∧ SndE X t f
def DA (X : Cx) (es : List Expr) (f : FL) : Prop := ∃ t, PA X es t ∧ SndL X t f
def DT (X : Cx) (e : Expr) (f : FT) : Prop := ∃ t, PT X e t ∧ SndT X t f

/-! ### growing the two heaps -/
theorem StOk.new {K : PySem.W.Frag} {M : Nat → Option Addr} {G0 H0 G H : Hp} {σ : St} {δ : DEnv} (S : StOk K M G0 H0 G H σ δ) {p : Addr} {o : HO} (hp : H p = none) : StOk K M G0 H0 G (upd H p o) σ δ ∧ Gr G H σ δ G (upd H p o) δ ∧ G p = none := by
  have hs : Same H (upd H p o) := fun b u q => by rw [upd_ne (ne_of_none q hp)]; exact q
  have hg : G p = none := Same.free S.gh hp
  refine ⟨⟨S.gh.trans hs, ⟨S.env.len, fun i s e => ?_, S.env.sep⟩, S.h0.trans hs, S.g0, S.fr, S.own0, S.mt⟩, Gr.of hs (Same.refl _) (fun _ _ h _ => h) fun _ h => h, hg⟩
  obtain ⟨v, e1, r⟩ := S.env.at' i s e
  refine ⟨v, e1, ?_⟩
  have key : ∀ d, (∃ q, v = .ref q ∧ G q = none ∧ OwnAt K G H q d) → ∃ q, v = .ref q ∧ G q = none ∧ OwnAt K G (upd H p o) q d := fun d ⟨q, e2, e3, rr⟩ => by
    obtain ⟨o', ho⟩ := rr.some
    exact ⟨q, e2, e3, rr.keep (by rw [upd_ne (ne_of_none ho hp)]) (Same.refl _)⟩
  cases s with
  | val d => exact r
  | own d => exact key d r
  | lnt d => exact key d r
theorem StOk.showAt {K : PySem.W.Frag} {M : Nat → Option Addr} {G0 H0 G H : Hp} {σ : St} {δ : DEnv} (S : StOk K M G0 H0 G H σ δ) {p : Addr} {o : HO} (hp : H p = some o) (hg : G p = none) (hn : ¬ Ow σ δ p) (h0 : H0 p = none) :
    StOk K M G0 H0 (upd G p o) H σ δ ∧ Same G (upd G p o) := by
  have hs : Same G (upd G p o) := fun b u q => by rw [upd_ne (ne_of_none q hg)]; exact q
  refine ⟨⟨fun b u q => ?_, ⟨S.env.len, fun i s e => ?_, S.env.sep⟩, S.h0, S.g0.trans hs, fun b h n => ?_, S.own0, S.mt⟩, hs⟩
  · by_cases e : b = p
    · subst e; rw [upd_same] at q; cases q; exact hp
    · rw [upd_ne e] at q; exact S.gh b u q
  · obtain ⟨v, e1, r⟩ := S.env.at' i s e
    refine ⟨v, e1, ?_⟩
    have key : ∀ d, s.isO = true → (∃ q, v = .ref q ∧ G q = none ∧ OwnAt K G H q d) → ∃ q, v = .ref q ∧ (upd G p o) q = none ∧ OwnAt K (upd G p o) H q d := fun d os ⟨q, e2, e3, rr⟩ => by
      subst e2
      have ne : q ≠ p := fun z => hn ⟨i, s, e, os, by rw [← z]; exact e1⟩
      exact ⟨q, rfl, by rw [upd_ne ne]; exact e3, rr.keep rfl hs⟩
    cases s with
    | val d => exact Rep.mono hs r
    | own d => exact key d rfl r
    | lnt d => exact key d rfl r
  · have ne : b ≠ p := fun z => h (by rw [z]; exact h0)
    rw [upd_ne ne]; exact S.fr b h n

theorem SndE.toV {X : Cx} {t : TE} {f : FE} (h : SndE X t f) (M : Nat → Option Addr) (G0 H0 G H : Hp) (σ : St) (δ : DEnv) (s : Sl) (δ' : DEnv) (Q : VK) (S : StOk X.K M G0 H0 G H σ δ) (ef : f δ = some (.ok s, δ'))
    (k : ∀ v G' H', StOk X.K M G0 H0 G' H' σ δ' → Gr G H σ δ G' H' δ' → Rep X.K G' v s.fz → Q v H') : t σ H Q := by
  refine h M G0 H0 G H σ δ (.ok s) δ' Q S ef fun v G' H' S' g r => ?_
  obtain ⟨r, nw⟩ := r
  by_cases os : s.isO = true
  · obtain ⟨_, q, e4, hq⟩ := nw os
    obtain ⟨p, e2, e3, rr⟩ := r.own os
    have epq : p = q := by rw [e2] at e4; cases e4; rfl
    subst epq e2
    have no : ¬ Ow σ δ' p := fun z => S.noOw hq (g.shr _ z)
    obtain ⟨o, ho⟩ := rr.some
    obtain ⟨S2, hs⟩ := S'.showAt ho e3 no (Same.free S.h0 hq)
    refine k (.ref p) _ H' S2 ⟨g.hs, g.hd, g.gg.trans hs, fun b hb n o => ?_, g.shr⟩ (rr.shown e3 ho)
    rw [upd_ne (fun z => hb (by rw [z]; exact hq))]
    exact g.fr b hb n o
  · cases s with
    | val d => exact k v G' H' S' g r
    | own d => exact absurd rfl os
    | lnt d => exact absurd rfl os

/-! ### names and constants -/
theorem ow_drop {σ : St} {δ : DEnv} {i : Nat} {o : Option Sl} (ho : ∀ s, o = some s → s.isO = false) (hi : i < δ.length) {q : Addr} (h : Ow σ (δ.set i o) q) : ∃ j s, j ≠ i ∧ δ[j]? = some (some s) ∧ s.isO = true ∧ σ[j]? = some (some (V.ref q)) := by
  obtain ⟨j, s, z1, os, z2⟩ := h
  by_cases hj : j = i
  · subst hj; rw [List.getElem?_set_self hi] at z1
    cases o with
    | none => cases z1
    | some s' => cases z1; rw [ho s rfl] at os; cases os
  · rw [List.getElem?_set_ne (Ne.symm hj)] at z1
    exact ⟨j, s, hj, z1, os, z2⟩
def fVar (i : Nat) : FE := fun δ => match δ[i]? with
  | some (some (.val d)) => some (.ok (.val d), δ)
  | some (some (.own d)) => some (.ok (.val d), δ.set i (some (.val d)))
  | _ => none
theorem StOk.freeze {K : PySem.W.Frag} {M : Nat → Option Addr} {G0 H0 G H : Hp} {σ : St} {δ : DEnv} (S : StOk K M G0 H0 G H σ δ) {i : Nat} {d : D} (hd : δ[i]? = some (some (.own d))) :
    ∃ p o, σ[i]? = some (some (.ref p)) ∧ StOk K M G0 H0 (upd G p o) H σ (δ.set i (some (.val d))) ∧ Gr G H σ δ (upd G p o) H (δ.set i (some (.val d))) ∧ Rep K (upd G p o) (.ref p) d := by
  obtain ⟨v, e1, r⟩ := S.env.at' i _ hd
  obtain ⟨p, rfl, e3, r⟩ := r
  obtain ⟨o, e2⟩ := r.some
  have hs : Same G (upd G p o) := fun b u q => by rw [upd_ne (ne_of_none q e3)]; exact q
  have hi : i < δ.length := (List.getElem?_eq_some_iff.mp hd).1
  have shr : ∀ q, Ow σ (δ.set i (some (.val d))) q → Ow σ δ q ∧ q ≠ p := fun q z => by
    obtain ⟨j, s, hj, z1, os, z2⟩ := ow_drop (fun s e => by cases e; rfl) hi z
    refine ⟨⟨j, s, z1, os, z2⟩, fun z => hj ?_⟩
    subst z
    exact S.env.sep j i q s _ z1 hd os rfl z2 e1
  refine ⟨p, o, e1, ⟨fun b u q => ?_, ⟨by simpa using S.env.len, fun j s ej => ?_, fun j j' q a b z1 z2 oa ob z3 z4 => ?_⟩, S.h0, S.g0.trans hs, fun b hb n => ?_, fun q z => S.own0 q (shr q z).1, fun j d' z => ?_⟩,
    Gr.of (Same.refl _) hs (fun b hb n o' => ?_) fun q z => (shr q z).1, r.shown e3 e2⟩
  · by_cases e : b = p
    · subst e; rw [upd_same] at q; cases q; exact e2
    · rw [upd_ne e] at q; exact S.gh b u q
  · by_cases hj : j = i
    · subst hj; rw [List.getElem?_set_self hi] at ej; cases ej
      exact ⟨.ref p, e1, r.shown e3 e2⟩
    · have ej' := ej
      rw [List.getElem?_set_ne (Ne.symm hj)] at ej
      obtain ⟨v, e4, r'⟩ := S.env.at' j s ej
      refine ⟨v, e4, ?_⟩
      have key : ∀ d, s.isO = true → (∃ q, v = .ref q ∧ G q = none ∧ OwnAt K G H q d) → ∃ q, v = .ref q ∧ (upd G p o) q = none ∧ OwnAt K (upd G p o) H q d := fun d os ⟨q, z2, z3, rr⟩ => by
        subst z2
        have ne : q ≠ p := (shr q ⟨j, s, ej', os, e4⟩).2
        exact ⟨q, rfl, by rw [upd_ne ne]; exact z3, rr.keep rfl hs⟩
      cases s with
      | val d => exact Rep.mono hs r'
      | own d => exact key d rfl r'
      | lnt d => exact key d rfl r'
  · by_cases hj : j = i
    · subst hj; rw [List.getElem?_set_self hi] at z1; cases z1; cases oa
    · by_cases hj' : j' = i
      · subst hj'; rw [List.getElem?_set_self hi] at z2; cases z2; cases ob
      · rw [List.getElem?_set_ne (Ne.symm hj)] at z1
        rw [List.getElem?_set_ne (Ne.symm hj')] at z2
        exact S.env.sep j j' q a b z1 z2 oa ob z3 z4
  · have ne : b ≠ p := fun z => hb (by rw [z]; exact S.own0 p ⟨i, _, hd, rfl, e1⟩)
    rw [upd_ne ne]; exact S.fr b hb n
  · by_cases hj : j = i
    · subst hj; rw [List.getElem?_set_self hi] at z; cases z
    · rw [List.getElem?_set_ne (Ne.symm hj)] at z; exact S.mt j d' z
  · have ne : b ≠ p := fun z => o' (by rw [z]; exact ⟨i, _, hd, rfl, e1⟩)
    rw [upd_ne ne]; exact n
theorem RepR.val {K : PySem.W.Frag} {H G' H' : Hp} {v : V} {d : D} (h : Rep K G' v d) : RepR K H G' H' v (.val d) := ⟨h, fun z => nomatch z⟩
theorem snd_var {X : Cx} (i : Nat) : SndE X (tVar i) (fVar i) := by
  intro M G0 H0 G H σ δ r δ' Q S e k
  unfold fVar at e
  split at e
  · rename_i d' hd
    cases e
    obtain ⟨v, e1, r⟩ := S.env.at' i _ hd
    exact ⟨v, e1, k v G H S (Gr.refl ..) (.val r)⟩
  · rename_i d hd
    cases e
    obtain ⟨p, o, e1, S1, g1, r1⟩ := S.freeze hd
    exact ⟨.ref p, e1, k _ _ _ S1 g1 (.val r1)⟩
  · cases e
theorem de (i : Nat) {X : Cx} {x : Str} {pos : Pos} (hN : X.N[i]? = some x := by rfl) (hv : Vis X.env.scope x := by first | exact Or.inl rfl | exact Or.inr (Or.inl rfl) | exact Or.inr (Or.inr rfl)) (hd : (x == ("__debug__" : Str)) = false := by decide) (hcd : (x == ("__classdict__" : Str)) = false := by decide) : DE X (.Name x pos) (fVar i) := ⟨_, pv i hN hv hd hcd, snd_var i⟩
def fC (d : D) : FE := fun δ => some (.ok (.val d), δ)
theorem snd_C {X : Cx} {v : V} {d : D} (h : ∀ G, Rep X.K G v d) : SndE X (tC v) (fC d) := by
  intro M G0 H0 G H σ δ d' δ' Q S e k
  cases e
  exact k v G H S (Gr.refl ..) (.val (h G))
section
variable {X : Cx} {pos : Pos}
theorem de_int {i j} : DE X (.Constant (.int i) j pos) (fC (.int i)) := ⟨_, pe_int, snd_C fun _ => .int i⟩
theorem de_bl {b j} : DE X (.Constant (.bool b) j pos) (fC (.bl b)) := ⟨_, pe_bl, snd_C fun _ => .bl b⟩
theorem de_non {j} : DE X (.Constant .none j pos) (fC .non) := ⟨_, pe_non, snd_C fun _ => .non⟩
theorem de_str {x j} : DE X (.Constant (.str x) j pos) (fC (.str x)) := ⟨_, pe_str, snd_C fun _ => .str x⟩
theorem de_glob {x : Str} {v : V} {u : Value} {d : D} (hg : Gl X x) (hm : X.mg x = some u) (r : RelV v u) (h : ∀ G, Rep X.K G v d) (hd : (x == ("__debug__" : Str)) = false := by decide) : DE X (.Name x pos) (fC d) := ⟨_, pe_glob hg hm r hd, snd_C h⟩
end
end L4


namespace L4
open PySem L2

/-! ### combinators -/
def lift {α : Type} (o : Option α) (δ : DEnv) : Rs α := match o with | some a => some (.ok a, δ) | none => none
theorem lift_inv {α : Type} {o : Option α} {δ δ' : DEnv} {q : Except XD α} (h : lift o δ = some (q, δ')) : ∃ a, o = some a ∧ q = .ok a ∧ δ' = δ := by
  unfold lift at h
  split at h
  · cases h; exact ⟨_, rfl, rfl, rfl⟩
  · cases h
def fOp (g : D → D → Option Sl) (f1 f2 : FE) : FE := fun δ => (f1 δ).bind fun p δ => (f2 δ).bind fun q δ => lift (g p.fz q.fz) δ
def fUn (g : D → Option Sl) (f1 : FE) : FE := fun δ => (f1 δ).bind fun p δ => lift (g p.fz) δ
def fNil : FL := fun δ => some (.ok [], δ)
def fCons (f : FE) (r : FL) : FL := fun δ => (f δ).bind fun p δ => (r δ).bind fun q δ => some (.ok (p.fz :: q), δ)
def fArgs (g : List D → Option Sl) (r : FL) : FE := fun δ => (r δ).bind fun p δ => lift (g p) δ

def SndO (K : PySem.W.Frag) (r : R2) (g : D → D → Option Sl) : Prop := ∀ (M : Nat → Option Addr) (G0 H0 G H : Hp) (σ : St) (δ : DEnv) (x y : V) (d1 d2 : D) (s : Sl) (Q : VK), StOk K M G0 H0 G H σ δ → Rep K G x d1 → Rep K G y d2 → g d1 d2 = some s →
  (∀ v G' H', StOk K M G0 H0 G' H' σ δ → Gr G H σ δ G' H' δ → RepR K H G' H' v s → Q v H') → r x y H Q
def SndU (K : PySem.W.Frag) (r : V → Hp → VK → Prop) (g : D → Option Sl) : Prop := ∀ (M : Nat → Option Addr) (G0 H0 G H : Hp) (σ : St) (δ : DEnv) (x : V) (d1 : D) (s : Sl) (Q : VK), StOk K M G0 H0 G H σ δ → Rep K G x d1 → g d1 = some s →
  (∀ v G' H', StOk K M G0 H0 G' H' σ δ → Gr G H σ δ G' H' δ → RepR K H G' H' v s → Q v H') → r x H Q
def SndN (K : PySem.W.Frag) (r : List V → Hp → VK → Prop) (g : List D → Option Sl) : Prop := ∀ (M : Nat → Option Addr) (G0 H0 G H : Hp) (σ : St) (δ : DEnv) (xs : List V) (ds : List D) (s : Sl) (Q : VK), StOk K M G0 H0 G H σ δ → RepL K G xs ds → g ds = some s →
  (∀ v G' H', StOk K M G0 H0 G' H' σ δ → Gr G H σ δ G' H' δ → RepR K H G' H' v s → Q v H') → r xs H Q

theorem RepR.back {K : PySem.W.Frag} {G G1 : Hp} {σ : St} {δ δ1 : DEnv} {H H1 G' H' : Hp} {v : V} {s : Sl} (g : Gr G H σ δ G1 H1 δ1) (r : RepR K H1 G' H' v s) : RepR K H G' H' v s := ⟨r.1, fun o => let ⟨a, p, e1, e2⟩ := r.2 o; ⟨a, p, e1, g.free e2⟩⟩

section
variable {X : Cx} {ta tb : TE} {f1 f2 : FE} {t : TA} {fl : FL}
theorem snd_op {r : R2} {g : D → D → Option Sl} (ho : SndO X.K r g) (ha : SndE X ta f1) (hb : SndE X tb f2) : SndE X (tOp r ta tb) (fOp g f1 f2) := by
  intro M G0 H0 G H σ δ q δ' Q S e k
  rcases Rs.inv e with ⟨s1, δ1, e1, e⟩ | ⟨x, e1, rfl⟩
  · refine ha.toV M G0 H0 G H σ δ s1 δ1 _ S e1 fun x G1 H1 S1 g1 r1 => ?_
    rcases Rs.inv e with ⟨s2, δ2, e2, e⟩ | ⟨x, e2, rfl⟩
    · refine hb.toV M G0 H0 G1 H1 σ δ1 s2 δ2 _ S1 e2 fun y G2 H2 S2 g2 r2 => ?_
      obtain ⟨s3, e3, rfl, rfl⟩ := lift_inv e
      refine ho M G0 H0 G2 H2 σ _ x y _ _ s3 Q S2 (Rep.mono g2.gg r1) r2 e3 fun v G3 H3 S3 g3 r3 => ?_
      exact k v G3 H3 S3 (g1.trans (g2.trans g3)) (r3.back (g1.trans g2))
    · exact hb M G0 H0 G1 H1 σ δ1 _ _ _ S1 e2 (PostX.after g1 k)
  · exact ha M G0 H0 G H σ δ _ _ _ S e1 k
theorem snd_un {r : V → Hp → VK → Prop} {g : D → Option Sl} (ho : SndU X.K r g) (ha : SndE X ta f1) : SndE X (tUn r ta) (fUn g f1) := by
  intro M G0 H0 G H σ δ q δ' Q S e k
  rcases Rs.inv e with ⟨s1, δ1, e1, e⟩ | ⟨x, e1, rfl⟩
  · refine ha.toV M G0 H0 G H σ δ s1 δ1 _ S e1 fun x G1 H1 S1 g1 r1 => ?_
    obtain ⟨s3, e3, rfl, rfl⟩ := lift_inv e
    refine ho M G0 H0 G1 H1 σ _ x _ s3 Q S1 r1 e3 fun v G3 H3 S3 g3 r3 => ?_
    exact k v G3 H3 S3 (g1.trans g3) (r3.back g1)
  · exact ha M G0 H0 G H σ δ _ _ _ S e1 k
theorem snd_nil : SndL X tNil fNil := by
  intro M G0 H0 G H σ δ q δ' Q S e k
  cases e
  exact k [] G H S (Gr.refl ..) .nil
theorem snd_cons (ha : SndE X ta f1) (hr : SndL X t fl) : SndL X (tCons ta t) (fCons f1 fl) := by
  intro M G0 H0 G H σ δ q δ' Q S e k
  rcases Rs.inv e with ⟨s1, δ1, e1, e⟩ | ⟨x, e1, rfl⟩
  · refine ha.toV M G0 H0 G H σ δ s1 δ1 _ S e1 fun x G1 H1 S1 g1 r1 => ?_
    rcases Rs.inv e with ⟨s2, δ2, e2, e⟩ | ⟨x, e2, rfl⟩
    · cases e
      refine hr M G0 H0 G1 H1 σ δ1 (.ok s2) _ _ S1 e2 fun vs G2 H2 S2 g2 r2 => ?_
      exact k _ G2 H2 S2 (g1.trans g2) (.cons (Rep.mono g2.gg r1) r2)
    · exact hr M G0 H0 G1 H1 σ δ1 _ _ _ S1 e2 (PostX.after g1 k)
  · exact ha M G0 H0 G H σ δ _ _ _ S e1 k
theorem snd_cb {r : List V → Hp → VK → Prop} {g : List D → Option Sl} (ho : SndN X.K r g) (ha : SndL X t fl) : SndE X (tCB r t) (fArgs g fl) := by
  intro M G0 H0 G H σ δ q δ' Q S e k
  rcases Rs.inv e with ⟨s1, δ1, e1, e⟩ | ⟨x, e1, rfl⟩
  · refine ha M G0 H0 G H σ δ (.ok s1) δ1 _ S e1 fun x G1 H1 S1 g1 r1 => ?_
    obtain ⟨s3, e3, rfl, rfl⟩ := lift_inv e
    refine ho M G0 H0 G1 H1 σ _ x _ s3 Q S1 r1 e3 fun v G3 H3 S3 g3 r3 => ?_
    exact k v G3 H3 S3 (g1.trans g3) (r3.back g1)
  · exact ha M G0 H0 G H σ δ _ _ _ S e1 k

/-! ### displays -/
def gTupD (ds : List D) : Option Sl := if ds.length ≤ sizeLine then some (.val (.tup ds)) else none
def gLstD (ds : List D) : Option Sl := if ds.length ≤ sizeLine then some (.own (.lst ds)) else none
theorem StOk.newTup {K : PySem.W.Frag} {M : Nat → Option Addr} {G0 H0 G H : Hp} {σ : St} {δ : DEnv} (S : StOk K M G0 H0 G H σ δ) {p : Addr} {vs : List V} {ds : List D} (hp : H p = none) (r : RepL K G vs ds) :
    StOk K M G0 H0 (upd G p (.tup vs)) (upd H p (.tup vs)) σ δ ∧ Gr G H σ δ (upd G p (.tup vs)) (upd H p (.tup vs)) δ ∧ RepR K H (upd G p (.tup vs)) (upd H p (.tup vs)) (.ref p) (.val (.tup ds)) := by
  obtain ⟨S1, g1, hg⟩ := S.new (o := .tup vs) hp
  obtain ⟨S2, hs⟩ := S1.showAt upd_same hg (S.noOw hp) (Same.free S.h0 hp)
  refine ⟨S2, ⟨g1.hs, g1.hd, hs, fun b hb n o => ?_, fun _ z => z⟩, .val (.tup (SqT.of upd_same) (RepL.mono hs r))⟩
  rw [upd_ne (fun z => hb (by rw [z]; exact hp))]
  exact n
theorem StOk.newOwn {K : PySem.W.Frag} {M : Nat → Option Addr} {G0 H0 G H : Hp} {σ : St} {δ : DEnv} (S : StOk K M G0 H0 G H σ δ) {p : Addr} {o : HO} {d : D} (hp : H p = none) (r : OwnAt K G (upd H p o) p d) :
    StOk K M G0 H0 G (upd H p o) σ δ ∧ Gr G H σ δ G (upd H p o) δ ∧ RepR K H G (upd H p o) (.ref p) (.own d) := by
  obtain ⟨S1, g1, hg⟩ := S.new (o := o) hp
  exact ⟨S1, g1, ⟨p, rfl, hg, r⟩, fun _ => ⟨⟨d, rfl⟩, p, rfl, hp⟩⟩
theorem StOk.newLst {K : PySem.W.Frag} {M : Nat → Option Addr} {G0 H0 G H : Hp} {σ : St} {δ : DEnv} (S : StOk K M G0 H0 G H σ δ) {p : Addr} {vs : List V} {ds : List D} (hp : H p = none) (r : RepL K G vs ds) :
    StOk K M G0 H0 G (upd H p (.lst vs)) σ δ ∧ Gr G H σ δ G (upd H p (.lst vs)) δ ∧ RepR K H G (upd H p (.lst vs)) (.ref p) (.own (.lst ds)) := S.newOwn hp ⟨vs, upd_same, r⟩
theorem snd_tup (ha : SndL X t fl) : SndE X (tTup t) (fArgs gTupD fl) := by
  intro M G0 H0 G H σ δ q δ' Q S e k
  rcases Rs.inv e with ⟨s1, δ1, e1, e⟩ | ⟨x, e1, rfl⟩
  · refine ha M G0 H0 G H σ δ (.ok s1) δ1 _ S e1 fun vs G1 H1 S1 g1 r1 => ?_
    obtain ⟨s3, e3, rfl, rfl⟩ := lift_inv e
    unfold gTupD at e3
    split at e3
    · rename_i hl
      cases e3
      refine ⟨by rw [r1.len]; exact hl, fun p hp => ?_⟩
      obtain ⟨S2, g2, r2⟩ := S1.newTup hp r1
      exact k _ _ _ S2 (g1.trans g2) (r2.back g1)
    · cases e3
  · exact ha M G0 H0 G H σ δ _ _ _ S e1 k
theorem snd_lst (ha : SndL X t fl) : SndE X (tLst t) (fArgs gLstD fl) := by
  intro M G0 H0 G H σ δ q δ' Q S e k
  rcases Rs.inv e with ⟨s1, δ1, e1, e⟩ | ⟨x, e1, rfl⟩
  · refine ha M G0 H0 G H σ δ (.ok s1) δ1 _ S e1 fun vs G1 H1 S1 g1 r1 => ?_
    obtain ⟨s3, e3, rfl, rfl⟩ := lift_inv e
    unfold gLstD at e3
    split at e3
    · rename_i hl
      cases e3
      refine ⟨by rw [r1.len]; exact hl, fun p hp => ?_⟩
      obtain ⟨S2, g2, r2⟩ := S1.newLst hp r1
      exact k _ _ _ S2 (g1.trans g2) (r2.back g1)
    · cases e3
  · exact ha M G0 H0 G H σ δ _ _ _ S e1 k
end

/-! ### tests -/
section
variable {X : Cx} {ta tb : TE} {f1 f2 : FE} {tA tB' : TT} {c1 c2 : FT}
def blOf (d : D) : Option Bool := match d with | .bl k => some k | _ => none
theorem blOf_inv {d : D} {k : Bool} (h : blOf d = some k) : d = .bl k := by
  unfold blOf at h
  split at h
  · cases h; rfl
  · cases h
def fTb (f : FE) : FT := fun δ => (f δ).bind fun p δ => lift (blOf p.fz) δ
def truD : D → Option Bool
  | .non => some false
  | .bl k => some k
  | .int i => some (decide (i ≠ 0))
  | .str x => if x.length ≤ sizeLine then some (decide (x.length ≠ 0)) else none
  | .tup ds => some (!ds.isEmpty)
  | .lst ds => some (!ds.isEmpty)
  | _ => none
def fTr (f : FE) : FT := fun δ => (f δ).bind fun p δ => lift (truD p.fz) δ
def fAndT (a b : FT) : FT := fun δ => (a δ).bind fun p δ => if p then b δ else some (.ok false, δ)
def fOrT (a b : FT) : FT := fun δ => (a δ).bind fun p δ => if p then some (.ok true, δ) else b δ
def fNotT (a : FT) : FT := fun δ => (a δ).bind fun p δ => some (.ok (!p), δ)
section
variable {K : PySem.W.Frag} {G : Hp} {v : V}
theorem rep_bl {k : Bool} (h : Rep K G v (.bl k)) : v = .bl k := by cases h; rfl
theorem rep_int {k : Int} (h : Rep K G v (.int k)) : v = .int k := by cases h; rfl
theorem rep_str {k : Str} (h : Rep K G v (.str k)) : v = .str k := by cases h; rfl
theorem rep_non (h : Rep K G v .non) : v = .non := by cases h; rfl
theorem rep_tup {ds : List D} (h : Rep K G v (.tup ds)) : ∃ a vs, v = .ref a ∧ SqT K G a vs ∧ RepL K G vs ds := by cases h with | tup h r => exact ⟨_, _, rfl, h, r⟩
theorem rep_lst {ds : List D} (h : Rep K G v (.lst ds)) : ∃ a vs, v = .ref a ∧ LsK K G a vs ∧ RepL K G vs ds := by cases h with | lst h r => exact ⟨_, _, rfl, h, r⟩
end
theorem snd_test (ha : SndE X ta f1) : SndT X (tTest ta) (fTb f1) := by
  intro M G0 H0 G H σ δ q δ' Q S e k
  rcases Rs.inv e with ⟨s1, δ1, e1, e⟩ | ⟨x, e1, rfl⟩
  · refine ha.toV M G0 H0 G H σ δ s1 δ1 _ S e1 fun x G1 H1 S1 g1 r1 => ?_
    obtain ⟨b, e3, rfl, rfl⟩ := lift_inv e
    rw [blOf_inv e3] at r1
    exact ⟨_, rep_bl r1, k G1 H1 S1 g1⟩
  · exact ha M G0 H0 G H σ δ _ _ _ S e1 k
theorem snd_andT (ha : SndT X tA c1) (hb : SndT X tB' c2) : SndT X (tAnd tA tB') (fAndT c1 c2) := by
  intro M G0 H0 G H σ δ q δ' Q S e k
  rcases Rs.inv e with ⟨b, δ1, e1, e⟩ | ⟨x, e1, rfl⟩
  · refine ha M G0 H0 G H σ δ (.ok b) δ1 _ S e1 fun G1 H1 S1 g1 => ?_
    cases b with
    | true =>
      rw [if_pos rfl]
      have e' : c2 δ1 = some (q, δ') := by simpa using e
      cases q with
      | ok b' => exact hb M G0 H0 G1 H1 σ δ1 (.ok b') δ' _ S1 e' fun G2 H2 S2 g2 => k G2 H2 S2 (g1.trans g2)
      | error x => exact hb M G0 H0 G1 H1 σ δ1 _ _ _ S1 e' (PostX.after g1 k)
    | false =>
      rw [if_neg Bool.false_ne_true]
      simp only [Bool.false_eq_true, if_false, Option.some.injEq, Prod.mk.injEq] at e
      obtain ⟨rfl, rfl⟩ := e
      exact k G1 H1 S1 g1
  · exact ha M G0 H0 G H σ δ _ _ _ S e1 k
theorem snd_orT (ha : SndT X tA c1) (hb : SndT X tB' c2) : SndT X (tOr tA tB') (fOrT c1 c2) := by
  intro M G0 H0 G H σ δ q δ' Q S e k
  rcases Rs.inv e with ⟨b, δ1, e1, e⟩ | ⟨x, e1, rfl⟩
  · refine ha M G0 H0 G H σ δ (.ok b) δ1 _ S e1 fun G1 H1 S1 g1 => ?_
    cases b with
    | false =>
      rw [if_neg Bool.false_ne_true]
      have e' : c2 δ1 = some (q, δ') := by simpa using e
      cases q with
      | ok b' => exact hb M G0 H0 G1 H1 σ δ1 (.ok b') δ' _ S1 e' fun G2 H2 S2 g2 => k G2 H2 S2 (g1.trans g2)
      | error x => exact hb M G0 H0 G1 H1 σ δ1 _ _ _ S1 e' (PostX.after g1 k)
    | true =>
      rw [if_pos rfl]
      simp only [if_true, Option.some.injEq, Prod.mk.injEq] at e
      obtain ⟨rfl, rfl⟩ := e
      exact k G1 H1 S1 g1
  · exact ha M G0 H0 G H σ δ _ _ _ S e1 k
theorem snd_notT (ha : SndT X tA c1) : SndT X (tNot tA) (fNotT c1) := by
  intro M G0 H0 G H σ δ q δ' Q S e k
  rcases Rs.inv e with ⟨b, δ1, e1, e⟩ | ⟨x, e1, rfl⟩
  · cases e
    exact ha M G0 H0 G H σ δ (.ok b) _ _ S e1 fun G1 H1 S1 g1 => k G1 H1 S1 g1
  · exact ha M G0 H0 G H σ δ _ _ _ S e1 k
def fAndV (a b : FE) : FE := fun δ => (a δ).bind fun p δ => match blOf p.fz with | some true => b δ | some false => some (.ok (.val (.bl false)), δ) | none => none
def fOrV (a b : FE) : FE := fun δ => (a δ).bind fun p δ => match blOf p.fz with | some false => b δ | some true => some (.ok (.val (.bl true)), δ) | none => none
def fNotV (a : FE) : FE := fun δ => (a δ).bind fun p δ => lift ((blOf p.fz).map fun k => .val (.bl (!k))) δ
def fIfE (c : FT) (a b : FE) : FE := fun δ => (c δ).bind fun p δ => if p then a δ else b δ
theorem SndE.later (hb : SndE X tb f2) {M : Nat → Option Addr} {G0 H0 G H G1 H1 : Hp} {σ : St} {δ δ1 δ' : DEnv} {q : Except XD Sl} {Q : VK} (g1 : Gr G H σ δ G1 H1 δ1) (S1 : StOk X.K M G0 H0 G1 H1 σ δ1) (e : f2 δ1 = some (q, δ')) (k : PostE X M G0 H0 G H σ δ δ' Q q) : tb σ H1 Q := by
  cases q with
  | ok s => exact hb M G0 H0 G1 H1 σ δ1 (.ok s) δ' _ S1 e fun v G2 H2 S2 g2 r2 => k v G2 H2 S2 (g1.trans g2) (r2.back g1)
  | error x => exact hb M G0 H0 G1 H1 σ δ1 _ _ _ S1 e (PostX.after g1 k)
theorem snd_andV (ha : SndE X ta f1) (hb : SndE X tb f2) : SndE X (tAndV ta tb) (fAndV f1 f2) := by
  intro M G0 H0 G H σ δ q δ' Q S e k
  rcases Rs.inv e with ⟨s1, δ1, e1, e⟩ | ⟨x, e1, rfl⟩
  · refine ha.toV M G0 H0 G H σ δ s1 δ1 _ S e1 fun x G1 H1 S1 g1 r1 => ?_
    split at e
    · rename_i hb'
      rw [blOf_inv hb'] at r1
      refine ⟨_, rep_bl r1, ?_⟩
      rw [if_pos rfl]
      exact hb.later g1 S1 e k
    · rename_i hb'
      rw [blOf_inv hb'] at r1
      cases e
      refine ⟨_, rep_bl r1, ?_⟩
      rw [if_neg Bool.false_ne_true]
      exact k _ G1 H1 S1 g1 (.val (.bl false))
    · cases e
  · exact ha M G0 H0 G H σ δ _ _ _ S e1 k
theorem snd_notV (ha : SndE X ta f1) : SndE X (tNotV ta) (fNotV f1) := by
  intro M G0 H0 G H σ δ q δ' Q S e k
  rcases Rs.inv e with ⟨s1, δ1, e1, e⟩ | ⟨x, e1, rfl⟩
  · refine ha.toV M G0 H0 G H σ δ s1 δ1 _ S e1 fun x G1 H1 S1 g1 r1 => ?_
    obtain ⟨s3, e3, rfl, rfl⟩ := lift_inv e
    obtain ⟨b, e4, rfl⟩ := Option.map_eq_some_iff.mp e3
    rw [blOf_inv e4] at r1
    exact ⟨_, rep_bl r1, k _ G1 H1 S1 g1 (.val (.bl _))⟩
  · exact ha M G0 H0 G H σ δ _ _ _ S e1 k
end

/-! ### statements -/
inductive Out where
  | next (δ : DEnv) | ret (s : Sl) (δ : DEnv) | brk (δ : DEnv) | cont (δ : DEnv) | ex (x : XD) (δ : DEnv)
abbrev FS := DEnv → Option Out
def RepN (K : PySem.W.Frag) (H0 G H : Hp) (σ : St) (δ : DEnv) (v : V) (s : Sl) : Prop := RepS K G H v s ∧ (s.isO = true → (∃ d, s = .own d) ∧ ∃ p, v = .ref p ∧ H0 p = none ∧ ¬ Ow σ δ p)
def PostS (X : Cx) (M : Nat → Option Addr) (G0 H0 : Hp) (E : Ends) : Out → Prop
  | .next δ => ∀ σ G H, StOk X.K M G0 H0 G H σ δ → E.nx σ H
  | .brk δ => ∀ σ G H, StOk X.K M G0 H0 G H σ δ → E.bk σ H
  | .cont δ => ∀ σ G H, StOk X.K M G0 H0 G H σ δ → E.ct σ H
  | .ret s δ => ∀ v σ G H, StOk X.K M G0 H0 G H σ δ → RepN X.K H0 G H σ δ v s → E.rt v H
  | .ex x δ => ∀ C dx σ G H, StOk X.K M G0 H0 G H σ δ → XRep X C dx G H x → EX X σ C dx H
def SndS (X : Cx) (t : TS) (f : FS) : Prop := ∀ (M : Nat → Option Addr) (G0 H0 G H : Hp) (σ : St) (δ : DEnv) (o : Out) (E : Ends), StOk X.K M G0 H0 G H σ δ → f δ = some o → PostS X M G0 H0 E o → t E σ H
def DS (X : Cx) (st : Stmt) (f : FS) : Prop := ∃ t, PS X st t ∧ SndS X t f
def DB (X : Cx) (st : List Stmt) (f : FS) : Prop := ∃ t, PSs X st t ∧ SndS X t f
def thenS {α : Type} (r : Rs α) (k : α → DEnv → Option Out) : Option Out := match r with
  | some (.ok a, δ) => k a δ
  | some (.error x, δ) => some (.ex x δ)
  | none => none
theorem thenS_inv {α : Type} {r : Rs α} {k : α → DEnv → Option Out} {o : Out} (h : thenS r k = some o) : (∃ a δ, r = some (.ok a, δ) ∧ k a δ = some o) ∨ ∃ x δ, r = some (.error x, δ) ∧ o = .ex x δ := by
  unfold thenS at h
  split at h
  · exact .inl ⟨_, _, rfl, h⟩
  · cases h; exact .inr ⟨_, _, rfl, rfl⟩
  · cases h
section
variable {X : Cx} {t u : TS} {f1 f2 : FS} {te : TE} {fe : FE} {tc : TT} {fc : FT}
theorem PostS.toX {M : Nat → Option Addr} {G0 H0 G H : Hp} {E : Ends} {σ : St} {δ δ' : DEnv} {x : XD} (k : PostS X M G0 H0 E (.ex x δ')) : PostX X M G0 H0 G H σ δ δ' x := fun C dx G' H' S _ r => k C dx σ G' H' S r
def fNext : FS := fun δ => some (.next δ)
def fSeq (a b : FS) : FS := fun δ => (a δ).bind fun o => match o with | .next δ' => b δ' | o => some o
def fIf (c : FT) (a b : FS) : FS := fun δ => thenS (c δ) fun p δ => if p then a δ else b δ
def fAsg (i : Nat) (f : FE) : FS := fun δ => thenS (f δ) fun p δ => some (.next (δ.set i (some p)))
def fDrop (f : FE) : FS := fun δ => thenS (f δ) fun _ δ => some (.next δ)
def fRet (f : FE) : FS := fun δ => thenS (f δ) fun p δ => some (.ret p δ)
def fRetN : FS := fun δ => some (.ret (.val .non) δ)
def fRetV (i : Nat) : FS := fun δ => match δ[i]? with | some (some (.val d)) => some (.ret (.val d) δ) | some (some (.own d)) => some (.ret (.own d) (δ.set i none)) | _ => none
def fBrk : FS := fun δ => some (.brk δ)
theorem snd_next : SndS X tNext fNext := by
  intro M G0 H0 G H σ δ o E S e k
  cases e
  exact k σ G H S
theorem snd_seq (h1 : SndS X t f1) (h2 : SndS X u f2) : SndS X (tSeq t u) (fSeq f1 f2) := by
  intro M G0 H0 G H σ δ o E S e k
  obtain ⟨o1, e1, e⟩ := Option.bind_eq_some_iff.mp e
  refine h1 M G0 H0 G H σ δ o1 _ S e1 ?_
  cases o1 with
  | next δ1 => exact fun σ1 G1 H1 S1 => h2 M G0 H0 G1 H1 σ1 δ1 o E S1 e k
  | ret s δ1 => cases e; exact k
  | brk δ1 => cases e; exact k
  | cont δ1 => cases e; exact k
  | ex x δ1 => cases e; exact k
theorem snd_if (hc : SndT X tc fc) (h1 : SndS X t f1) (h2 : SndS X u f2) : SndS X (tIfS tc t u) (fIf fc f1 f2) := by
  intro M G0 H0 G H σ δ o E S e k
  rcases thenS_inv e with ⟨b, δ1, e1, e⟩ | ⟨x, δ1, e1, rfl⟩
  · refine hc M G0 H0 G H σ δ (.ok b) δ1 _ S e1 fun G1 H1 S1 g1 => ?_
    cases b with
    | true => rw [if_pos rfl]; exact h1 M G0 H0 G1 H1 σ δ1 o E S1 (by simpa using e) k
    | false => rw [if_neg Bool.false_ne_true]; exact h2 M G0 H0 G1 H1 σ δ1 o E S1 (by simpa using e) k
  · exact hc M G0 H0 G H σ δ _ _ _ S e1 k.toX
theorem StOk.set {K : PySem.W.Frag} {M : Nat → Option Addr} {G0 H0 G H : Hp} {σ : St} {δ : DEnv} (S : StOk K M G0 H0 G H σ δ) (i : Nat) {v : V} {s : Sl} (r : RepS K G H v s) (nw : s.isO = true → (∃ d, s = .own d) ∧ ∃ p, v = .ref p ∧ H0 p = none ∧ ¬ Ow σ δ p) :
    StOk K M G0 H0 G H (σ.set i (some v)) (δ.set i (some s)) := by
  have ow : ∀ p, Ow (σ.set i (some v)) (δ.set i (some s)) p → (Ow σ δ p) ∨ (v = .ref p ∧ s.isO = true) := fun p ⟨j, s', z1, os, z2⟩ => by
    by_cases hj : j = i
    · subst hj
      have hl : j < δ.length := by have := (List.getElem?_eq_some_iff.mp z1).1; simpa using this
      have hl' : j < σ.length := by have := S.env.len; omega
      rw [List.getElem?_set_self hl] at z1
      rw [List.getElem?_set_self hl'] at z2
      cases z1; cases z2
      exact .inr ⟨rfl, os⟩
    · rw [List.getElem?_set_ne (Ne.symm hj)] at z1 z2
      exact .inl ⟨j, s', z1, os, z2⟩
  refine ⟨S.gh, ⟨by simpa using S.env.len, fun j s' e => ?_, fun j j' p a b z1 z2 oa ob z3 z4 => ?_⟩, S.h0, S.g0, S.fr, fun p z => ?_, fun j d e => ?_⟩
  · by_cases hj : j = i
    · subst hj
      have hl : j < δ.length := by have := (List.getElem?_eq_some_iff.mp e).1; simpa using this
      have hl' : j < σ.length := by have := S.env.len; omega
      rw [List.getElem?_set_self hl] at e
      cases e
      exact ⟨v, List.getElem?_set_self hl', r⟩
    · rw [List.getElem?_set_ne (Ne.symm hj)] at e
      obtain ⟨v', e1, r'⟩ := S.env.at' j s' e
      exact ⟨v', by rw [List.getElem?_set_ne (Ne.symm hj)]; exact e1, r'⟩
  · by_cases hj : j = i
    · by_cases hj' : j' = i
      · rw [hj, hj']
      · exfalso
        subst hj
        have hl : j < δ.length := by have := (List.getElem?_eq_some_iff.mp z1).1; simpa using this
        have hl' : j < σ.length := by have := S.env.len; omega
        rw [List.getElem?_set_self hl] at z1
        rw [List.getElem?_set_self hl'] at z3
        rw [List.getElem?_set_ne (Ne.symm hj')] at z2 z4
        cases z1; cases z3
        obtain ⟨_, q, e1, _, e3⟩ := nw oa
        cases e1
        exact e3 ⟨j', b, z2, ob, z4⟩
    · by_cases hj' : j' = i
      · exfalso
        subst hj'
        have hl : j' < δ.length := by have := (List.getElem?_eq_some_iff.mp z2).1; simpa using this
        have hl' : j' < σ.length := by have := S.env.len; omega
        rw [List.getElem?_set_self hl] at z2
        rw [List.getElem?_set_self hl'] at z4
        rw [List.getElem?_set_ne (Ne.symm hj)] at z1 z3
        cases z2; cases z4
        obtain ⟨_, q, e1, _, e3⟩ := nw ob
        cases e1
        exact e3 ⟨j, a, z1, oa, z3⟩
      · rw [List.getElem?_set_ne (Ne.symm hj)] at z1 z3
        rw [List.getElem?_set_ne (Ne.symm hj')] at z2 z4
        exact S.env.sep j j' p a b z1 z2 oa ob z3 z4
  · rcases ow p z with z | ⟨e1, e2⟩
    · exact S.own0 p z
    · obtain ⟨_, q, e3, e4, _⟩ := nw e2
      rw [e1] at e3; cases e3
      exact e4
  · by_cases hj : j = i
    · subst hj
      have hl : j < δ.length := by have := (List.getElem?_eq_some_iff.mp e).1; simpa using this
      rw [List.getElem?_set_self hl] at e
      cases e
      obtain ⟨⟨d', z⟩, _⟩ := nw rfl
      cases z
    · rw [List.getElem?_set_ne (Ne.symm hj)] at e
      obtain ⟨p, z1, z2⟩ := S.mt j d e
      exact ⟨p, z1, by rw [List.getElem?_set_ne (Ne.symm hj)]; exact z2⟩
theorem RepR.toN {K : PySem.W.Frag} {M : Nat → Option Addr} {G0 H0 G H G' H' : Hp} {σ : St} {δ δ' : DEnv} {v : V} {s : Sl} (S : StOk K M G0 H0 G H σ δ) (g : Gr G H σ δ G' H' δ') (r : RepR K H G' H' v s) : RepN K H0 G' H' σ δ' v s :=
  ⟨r.1, fun o => let ⟨a, p, e1, e2⟩ := r.2 o; ⟨a, p, e1, Same.free S.h0 e2, fun z => S.noOw e2 (g.shr _ z)⟩⟩
theorem snd_asg {i : Nat} (he : SndE X te fe) : SndS X (tAsg te (gName i)) (fAsg i fe) := by
  intro M G0 H0 G H σ δ o E S e k
  rcases thenS_inv e with ⟨s, δ1, e1, e⟩ | ⟨x, δ1, e1, rfl⟩
  · cases e
    refine he M G0 H0 G H σ δ (.ok s) δ1 _ S e1 fun v G1 H1 S1 g1 r => ?_
    have r' := r.toN S g1
    exact k _ G1 H1 (S1.set i r'.1 r'.2)
  · exact he M G0 H0 G H σ δ _ _ _ S e1 k.toX
theorem snd_drop (he : SndE X te fe) : SndS X (tDrop te) (fDrop fe) := by
  intro M G0 H0 G H σ δ o E S e k
  rcases thenS_inv e with ⟨s, δ1, e1, e⟩ | ⟨x, δ1, e1, rfl⟩
  · cases e
    exact he M G0 H0 G H σ δ (.ok s) δ1 _ S e1 fun v G1 H1 S1 g1 r => k σ G1 H1 S1
  · exact he M G0 H0 G H σ δ _ _ _ S e1 k.toX
theorem snd_ret (he : SndE X te fe) : SndS X (tRet te) (fRet fe) := by
  intro M G0 H0 G H σ δ o E S e k
  rcases thenS_inv e with ⟨s, δ1, e1, e⟩ | ⟨x, δ1, e1, rfl⟩
  · cases e
    exact he M G0 H0 G H σ δ (.ok s) δ1 _ S e1 fun v G1 H1 S1 g1 r => k v σ G1 H1 S1 (r.toN S g1)
  · exact he M G0 H0 G H σ δ _ _ _ S e1 k.toX
theorem StOk.empty {K : PySem.W.Frag} {M : Nat → Option Addr} {G0 H0 G H : Hp} {σ : St} {δ : DEnv} (S : StOk K M G0 H0 G H σ δ) (i : Nat) : StOk K M G0 H0 G H σ (δ.set i none) := by
  have up : ∀ (j : Nat) (s : Sl), (δ.set i none)[j]? = some (some s) → δ[j]? = some (some s) := fun j s e => by
    by_cases hj : j = i
    · subst hj
      have hl : j < δ.length := by have := (List.getElem?_eq_some_iff.mp e).1; simpa using this
      rw [List.getElem?_set_self hl] at e; cases e
    · rwa [List.getElem?_set_ne (Ne.symm hj)] at e
  exact ⟨S.gh, ⟨by simpa using S.env.len, fun j s e => S.env.at' j s (up j s e), fun j j' p a b z1 z2 => S.env.sep j j' p a b (up j a z1) (up j' b z2)⟩, S.h0, S.g0, S.fr, fun p ⟨j, s, z1, z2⟩ => S.own0 p ⟨j, s, up j s z1, z2⟩, fun j d e => S.mt j d (up j _ e)⟩
theorem snd_retV (i : Nat) : SndS X (tRet (tVar i)) (fRetV i) := by
  intro M G0 H0 G H σ δ o E S e k
  unfold fRetV at e
  split at e
  · rename_i d hs
    cases e
    obtain ⟨v, e1, r⟩ := S.env.at' i _ hs
    exact ⟨v, e1, k v σ G H S ⟨r, fun z => nomatch z⟩⟩
  · rename_i d hs
    cases e
    obtain ⟨v, e1, r⟩ := S.env.at' i _ hs
    refine ⟨v, e1, k v σ G H (S.empty i) ⟨r, fun _ => ⟨⟨d, rfl⟩, ?_⟩⟩⟩
    obtain ⟨p, rfl, _⟩ := r
    refine ⟨p, rfl, S.own0 p ⟨i, _, hs, rfl, e1⟩, fun z => ?_⟩
    obtain ⟨j, s, hj, z1, os, z2⟩ := ow_drop (o := none) (fun s e => by cases e) (List.getElem?_eq_some_iff.mp hs).1 z
    exact hj (S.env.sep j i p s _ z1 hs os rfl z2 e1)
  · cases e
/-! ### lists of one's own that are changed -/
def Sl.now : Sl → D → Sl
  | .lnt _, d => .lnt d
  | _, d => .own d
theorem StOk.change {K : PySem.W.Frag} {M : Nat → Option Addr} {G0 H0 G H H' : Hp} {σ : St} {δ : DEnv} (S : StOk K M G0 H0 G H σ δ) {i : Nat} {p : Addr} {s : Sl} {d' : D} (hi : δ[i]? = some (some s)) (os : s.isO = true) (hp : σ[i]? = some (some (.ref p)))
    (hb : ∀ b, b ≠ p → H' b = H b) (r : OwnAt K G H' p d') : StOk K M G0 H0 G H' σ (δ.set i (some (s.now d'))) ∧ Gr G H σ δ G H' (δ.set i (some (s.now d'))) := by
  obtain ⟨v, e1, r0⟩ := S.env.at' i _ hi
  obtain ⟨p', e2, e4, r0⟩ := r0.own os
  rw [hp] at e1; cases e1; cases e2
  have hl : i < δ.length := (List.getElem?_eq_some_iff.mp hi).1
  have on : (s.now d').isO = true := by cases s <;> rfl
  have ow : ∀ q, Ow σ (δ.set i (some (s.now d'))) q → Ow σ δ q := fun q ⟨j, es, z1, oz, z2⟩ => by
    by_cases hj : j = i
    · subst hj; exact ⟨j, s, hi, os, z2⟩
    · rw [List.getElem?_set_ne (Ne.symm hj)] at z1; exact ⟨j, es, z1, oz, z2⟩
  have same' : ∀ (H1 : Hp), H1 p = none → Same H1 H → Same H1 H' := fun H1 n h b o q => by
    rw [hb b (ne_of_none q n)]; exact h b o q
  have own0 : H0 p = none := S.own0 p ⟨i, s, hi, os, hp⟩
  have rep : RepS K G H' (.ref p) (s.now d') := by cases s <;> exact ⟨p, rfl, e4, r⟩
  refine ⟨⟨same' G e4 S.gh, ⟨by simpa using S.env.len, fun j s' e => ?_, fun j j' q a b z1 z2 oa ob z3 z4 => ?_⟩, same' H0 own0 S.h0, S.g0, S.fr, fun q z => S.own0 q (ow q z), fun j d e => ?_⟩, fun b o e n => ?_, fun b n => ?_, Same.refl _, fun _ _ n _ => n, ow⟩
  · by_cases hj : j = i
    · subst hj
      rw [List.getElem?_set_self hl] at e
      cases e
      exact ⟨.ref p, hp, rep⟩
    · rw [List.getElem?_set_ne (Ne.symm hj)] at e
      obtain ⟨v, z1, r'⟩ := S.env.at' j s' e
      refine ⟨v, z1, ?_⟩
      have key : ∀ d, s'.isO = true → (∃ q, v = .ref q ∧ G q = none ∧ OwnAt K G H q d) → ∃ q, v = .ref q ∧ G q = none ∧ OwnAt K G H' q d := fun d os' ⟨q, z2, z3, rr⟩ => by
        subst z2
        have ne : q ≠ p := fun z => hj (by subst z; exact S.env.sep j i q s' s e hi os' os z1 hp)
        exact ⟨q, rfl, z3, rr.keep (hb q ne) (Same.refl _)⟩
      cases s' with
      | val d => exact r'
      | own d => exact key d rfl r'
      | lnt d => exact key d rfl r'
  · have fix : ∀ (m : Nat) (c : Sl), (δ.set i (some (s.now d')))[m]? = some (some c) → c.isO = true → ∃ c', δ[m]? = some (some c') ∧ c'.isO = true := fun m c z oz => by
      by_cases hm : m = i
      · subst hm; exact ⟨s, hi, os⟩
      · rw [List.getElem?_set_ne (Ne.symm hm)] at z; exact ⟨c, z, oz⟩
    obtain ⟨a', z1, oa⟩ := fix j a z1 oa
    obtain ⟨b', z2, ob⟩ := fix j' b z2 ob
    exact S.env.sep j j' q a' b' z1 z2 oa ob z3 z4
  · by_cases hj : j = i
    · subst hj
      rw [List.getElem?_set_self hl] at e
      cases s with
      | val d => cases os
      | own d0 => cases e
      | lnt d0 => exact S.mt j d0 hi
    · rw [List.getElem?_set_ne (Ne.symm hj)] at e; exact S.mt j d e
  · rw [hb b (fun z => n (by rw [z]; exact ⟨i, s, hi, os, hp⟩))]; exact e
  · by_cases hz : b = p
    · subst hz; obtain ⟨o, q⟩ := r.some; rw [q]; simp
    · rw [hb b hz]; exact n
def isL : D → Bool
  | .lst _ => true
  | _ => false
def mutD (i : Nat) (g : List D → List D → Option (List D × D)) (es : List D) (δ : DEnv) : Rs Sl := match δ[i]? with
  | some (some s) => if s.isO = true then (match s.fz with
    | .lst ds => (match g ds es with | some q => some (.ok (.val q.2), δ.set i (some (s.now (.lst q.1)))) | none => none)
    | _ => none) else none
  | _ => none
def fMut (i : Nat) (g : List D → List D → Option (List D × D)) (r : FL) : FE := fun δ => match δ[i]? with
  | some (some s) => if isL s.fz = true then (r δ).bind (mutD i g) else none
  | _ => none
def SndM (K : PySem.W.Frag) (r : V → List V → Hp → VK → Prop) (g : List D → List D → Option (List D × D)) : Prop := ∀ (G H : Hp) (p : Addr) (vs xs : List V) (ds es ds' : List D) (d : D) (Q : VK), Same G H → H p = some (.lst vs) → RepL K G vs ds → RepL K G xs es → g ds es = some (ds', d) →
  (∀ v vs', RepL K G vs' ds' → Rep K G v d → Q v (upd H p (.lst vs'))) → r (.ref p) xs H Q
theorem tyL {K : PySem.W.Frag} {G H : Hp} {v : V} {s : Sl} (gh : Same G H) (r : RepS K G H v s) (h : isL s.fz = true) : tyV K "list" v H := by
  have key : ∀ d, isL d = true → (∃ p, v = .ref p ∧ G p = none ∧ OwnAt K G H p d) → tyV K "list" v H := fun d hd ⟨p, e, _, o⟩ => by
    subst e
    cases d with
    | lst ds => obtain ⟨vs, o, _⟩ := o; exact .inl ⟨rfl, vs, SqL.of o⟩
    | _ => cases hd
  cases s with
  | val d =>
    cases d with
    | lst ds => obtain ⟨a, vs, rfl, q, _⟩ := rep_lst r; exact .inl ⟨rfl, vs, (same_ls gh q).sq⟩
    | _ => cases h
  | own d => exact key d h r
  | lnt d => exact key d h r
theorem mutD_snd {i : Nat} {r : V → List V → Hp → VK → Prop} {g : List D → List D → Option (List D × D)} (hr : SndM X.K r g) {M : Nat → Option Addr} {G0 H0 G H : Hp} {σ : St} {δ δ' : DEnv} {es : List D} {xs : List V} {q : Except XD Sl} {v : V} {Q : VK} (S : StOk X.K M G0 H0 G H σ δ) (hv : σ[i]? = some (some v)) (rx : RepL X.K G xs es)
    (e : mutD i g es δ = some (q, δ')) (k : ∀ s w G' H', q = .ok s → StOk X.K M G0 H0 G' H' σ δ' → Gr G H σ δ G' H' δ' → RepR X.K H G' H' w s → Q w H') : r v xs H Q := by
  unfold mutD at e
  split at e
  · rename_i s hi
    split at e
    · rename_i os
      split at e
      · rename_i ds hds
        split at e
        · rename_i q' hq
          obtain ⟨ds', d⟩ := q'
          cases e
          obtain ⟨w, y1, r2⟩ := S.env.at' i _ hi
          rw [hv] at y1; cases y1
          obtain ⟨p, rfl, y3, o⟩ := r2.own os
          rw [hds] at o
          obtain ⟨vs, y2, y4⟩ := o
          refine hr G H p vs xs ds es ds' d _ S.gh y2 y4 rx hq fun w vs' r3 r4 => ?_
          obtain ⟨S2, g2⟩ := S.change (H' := upd H p (.lst vs')) hi os hv (fun b hb => upd_ne hb) (d' := .lst ds') ⟨vs', upd_same, r3⟩
          exact k _ w G _ rfl S2 g2 (.val r4)
        · cases e
      · cases e
    · cases e
  · cases e
theorem snd_mut {i : Nat} {ta : TA} {fa : FL} {r : V → List V → Hp → VK → Prop} {g : List D → List D → Option (List D × D)} (hr : SndM X.K r g) (ha : SndL X ta fa) : SndE X (tBM X.K "list" r (tVar i) ta) (fMut i g fa) := by
  intro M G0 H0 G H σ δ q δ' Q S e k
  unfold fMut at e
  split at e
  · rename_i s0 hi0
    split at e
    · rename_i hl
      obtain ⟨v, z1, r0⟩ := S.env.at' i _ hi0
      refine ⟨v, z1, tyL S.gh r0 hl, ?_⟩
      rcases Rs.inv e with ⟨es, δ1, e1, e⟩ | ⟨x, e1, rfl⟩
      · refine ha M G0 H0 G H σ δ (.ok es) δ1 _ S e1 fun xs G1 H1 S1 g1 r1 => ?_
        refine mutD_snd hr S1 z1 r1 e fun s w G2 H2 hq S2 g2 r2 => ?_
        subst hq
        exact k w G2 H2 S2 (g1.trans g2) (r2.back g1)
      · exact ha M G0 H0 G H σ δ _ _ _ S e1 k
    · cases e
  · cases e
def fMut0 (i : Nat) (g : List D → List D → Option (List D × D)) : FE := fMut i g fNil
def gAppend (ds es : List D) : Option (List D × D) := match es with | [d] => if ds.length < sizeLine then some (ds ++ [d], .non) else none | _ => none
theorem m_append {K : PySem.W.Frag} : SndM K rAppend gAppend := by
  intro G H p vs xs ds es ds' d Q S hp r1 r2 e k
  unfold gAppend at e
  split at e
  · split at e
    · rename_i hl
      cases e
      cases r2 with
      | cons h t =>
        cases t
        exact ⟨p, vs, _, rfl, rfl, hp, by rw [r1.len]; exact hl, k _ _ (r1.app (.cons h .nil)) .non⟩
    · cases e
  · cases e
theorem RepL.dropLast {K : PySem.W.Frag} {G : Hp} {vs : List V} {ds : List D} (r : RepL K G vs ds) : RepL K G vs.dropLast ds.dropLast := by
  rw [List.dropLast_eq_take, List.dropLast_eq_take, r.len]
  exact RepL.take _ r
/-! ### loops -/
def forD (i : Nat) (F : FS) : List D → DEnv → Option Out
  | [], δ => some (.next δ)
  | d :: ds, δ => (F (δ.set i (some (.val d)))).bind fun o => match o with
    | .next δ' => forD i F ds δ'
    | .cont δ' => forD i F ds δ'
    | .brk δ' => some (.next δ')
    | .ret s δ' => some (.ret s δ')
    | .ex x δ' => some (.ex x δ')
def fFor (src : FL) (i : Nat) (F : FS) : FS := fun δ => thenS (src δ) fun ds δ => forD i F ds δ
theorem forD_turn {M : Nat → Option Addr} {G0 H0 : Hp} {E : Ends} {i : Nat} {tb : TS} {F : FS} (hb : SndS X tb F) {d : D} {ds : List D} {v : V} {G H : Hp} {σ : St} {δ : DEnv} {o : Out} {P : St → Hp → Prop} (S : StOk X.K M G0 H0 G H σ δ) (r : Rep X.K G v d) (e : forD i F (d :: ds) δ = some o) (k : PostS X M G0 H0 E o)
    (h : ∀ σ' G' H' δ', StOk X.K M G0 H0 G' H' σ' δ' → forD i F ds δ' = some o → P σ' H') : tb { E with nx := P, ct := P, bk := E.nx } (σ.set i (some v)) H := by
  obtain ⟨o1, e1, e⟩ := Option.bind_eq_some_iff.mp e
  refine hb M G0 H0 G H _ _ o1 _ (S.set i (s := .val d) r fun z => nomatch z) e1 ?_
  cases o1 with
  | next δ1 => exact fun σ' G' H' S' => h σ' G' H' δ1 S' e
  | cont δ1 => exact fun σ' G' H' S' => h σ' G' H' δ1 S' e
  | brk δ1 => cases e; exact k
  | ret s δ1 => cases e; exact k
  | ex x δ1 => cases e; exact k
theorem StOk.rebase {K : PySem.W.Frag} {M : Nat → Option Addr} {G0 H0 G H : Hp} {σ : St} {δ : DEnv} (S : StOk K M G0 H0 G H σ δ) : StOk K M G H0 G H σ δ := ⟨S.gh, S.env, S.h0, Same.refl _, fun _ _ n => n, S.own0, S.mt⟩
theorem StOk.unbase {K : PySem.W.Frag} {M : Nat → Option Addr} {G0 H0 G1 H1 G H : Hp} {σ σ1 : St} {δ δ1 : DEnv} (S : StOk K M G0 H0 G1 H1 σ1 δ1) (S' : StOk K M G1 H0 G H σ δ) : StOk K M G0 H0 G H σ δ := ⟨S'.gh, S'.env, S'.h0, S.g0.trans S'.g0, fun b h n => S'.fr b h (S.fr b h n), S'.own0, S'.mt⟩
theorem PostS.rebase {M : Nat → Option Addr} {G0 H0 G1 H1 : Hp} {σ : St} {δ : DEnv} {E : Ends} {o : Out} (S : StOk X.K M G0 H0 G1 H1 σ δ) (k : PostS X M G0 H0 E o) : PostS X M G1 H0 E o := by
  cases o with
  | next δ1 => exact fun σ' G H S' => k σ' G H (S.unbase S')
  | brk δ1 => exact fun σ' G H S' => k σ' G H (S.unbase S')
  | cont δ1 => exact fun σ' G H S' => k σ' G H (S.unbase S')
  | ret s δ1 => exact fun v σ' G H S' r => k v σ' G H (S.unbase S') r
  | ex x δ1 => exact fun C dx σ' G H S' r => k C dx σ' G H (S.unbase S') r
/-! range -/
def rngD (lo : Int) (n : Nat) : List D := (List.range n).map fun (k : Nat) => D.int (lo + (k : Int))
def rng1D (ds : List D) : Option (List D) := match ds with
  | [.int j] => if -(2 ^ 62) ≤ j ∧ j < 2 ^ 62 then some (rngD 0 j.toNat) else none
  | _ => none
def fRng1 (r : FL) : FL := fun δ => (r δ).bind fun p δ => lift (rng1D p) δ
/-! while, by at most n turns -/
end
end L4


namespace L4
open PySem L2
section
variable {K : PySem.W.Frag}
/-! ### operations at the data, against the layer's readings -/
theorem SndO.or {r r' : R2} {g g' : D → D → Option Sl} (h : SndO K r g) (h' : SndO K r' g') : SndO K (fun x y H Q => r x y H Q ∨ r' x y H Q) (fun a b => match g a b with | some s => some s | none => g' a b) := by
  intro M G0 H0 G H σ δ x y d1 d2 s Q S r1 r2 e k
  dsimp only at e
  split at e
  · rename_i s' hs
    cases e
    exact .inl (h M G0 H0 G H σ δ x y d1 d2 s Q S r1 r2 hs k)
  · exact .inr (h' M G0 H0 G H σ δ x y d1 d2 s Q S r1 r2 e k)
def iiD (c : Int → Int → Bool) (g : Int → Int → D) (a b : D) : Option Sl := match a, b with
  | .int i, .int j => if c i j = true then some (.val (g i j)) else none
  | _, _ => none
theorem o_int {C : Int → Int → Prop} {gv : Int → Int → V} {c : Int → Int → Bool} {g : Int → Int → D} (hc : ∀ i j, c i j = true → C i j) (hg : ∀ G i j, Rep K G (gv i j) (g i j)) : SndO K (rI C gv) (iiD c g) := by
  intro M G0 H0 G H σ δ x y d1 d2 s Q S r1 r2 e k
  unfold iiD at e
  split at e
  · rename_i i j
    split at e
    · rename_i h
      cases e
      cases rep_int r1
      cases rep_int r2
      exact ⟨i, j, rfl, rfl, hc i j h, k _ G H S (Gr.refl ..) (.val (hg G i j))⟩
    · cases e
  · cases e
def iiD0 (g : Int → Int → D) (a b : D) : Option Sl := match a, b with
  | .int i, .int j => some (.val (g i j))
  | _, _ => none
theorem o_int0 {gv : Int → Int → V} {g : Int → Int → D} (hg : ∀ G i j, Rep K G (gv i j) (g i j)) : SndO K (rI0 gv) (iiD0 g) := by
  intro M G0 H0 G H σ δ x y d1 d2 s Q S r1 r2 e k
  unfold iiD0 at e
  split at e
  · rename_i i j
    cases e
    cases rep_int r1
    cases rep_int r2
    exact ⟨i, j, rfl, rfl, k _ G H S (Gr.refl ..) (.val (hg G i j))⟩
  · cases e
def ssD (c : Str → Str → Bool) (g : Str → Str → D) (a b : D) : Option Sl := match a, b with
  | .str i, .str j => if c i j = true then some (.val (g i j)) else none
  | _, _ => none
theorem o_addS : SndO K (fun x y H Q => ∃ i j, x = .str i ∧ y = .str j ∧ i.length + j.length ≤ sizeLine ∧ Q (.str (i ++ j)) H) (ssD (fun i j => decide (i.length + j.length ≤ sizeLine)) fun i j => .str (i ++ j)) := by
  intro M G0 H0 G H σ δ x y d1 d2 s Q S r1 r2 e k
  unfold ssD at e
  split at e
  · rename_i i j
    split at e
    · rename_i h
      cases e
      cases rep_str r1
      cases rep_str r2
      exact ⟨i, j, rfl, rfl, of_decide_eq_true h, k _ G H S (Gr.refl ..) (.val (.str _))⟩
    · cases e
  · cases e
def rCatS (K : PySem.W.Frag) : R2 := fun x y H Q => ∃ l b xs zs, x = .ref l ∧ y = .ref b ∧ LsK K H l xs ∧ LsK K H b zs ∧ xs.length + zs.length ≤ sizeLine ∧ ∀ p, H p = none → Q (.ref p) (upd H p (.lst (xs ++ zs)))
def catD (a b : D) : Option Sl := match a, b with
  | .lst i, .lst j => if i.length + j.length ≤ sizeLine then some (.own (.lst (i ++ j))) else none
  | _, _ => none
theorem o_cat : SndO K (rCatS K) catD := by
  intro M G0 H0 G H σ δ x y d1 d2 s Q S r1 r2 e k
  unfold catD at e
  split at e
  · rename_i i j
    split at e
    · rename_i h
      cases e
      obtain ⟨l, xs, rfl, q1, l1⟩ := rep_lst r1
      obtain ⟨b, zs, rfl, q2, l2⟩ := rep_lst r2
      refine ⟨l, b, xs, zs, rfl, rfl, same_ls S.gh q1, same_ls S.gh q2, by rw [l1.len, l2.len]; exact h, fun p hp => ?_⟩
      obtain ⟨S2, g2, r⟩ := S.newLst hp (l1.app l2)
      exact k _ _ _ S2 g2 r
    · cases e
  · cases e
def isND (neg : Bool) (a b : D) : Option Sl := match b with
  | .non => some (.val (.bl (match a with | .non => !neg | _ => neg)))
  | _ => none
theorem rep_isN {G : Hp} {x : V} {d : D} (r : Rep K G x d) : decide (x = V.non) = (match d with | .non => true | _ => false) := by
  cases r <;> rfl
theorem o_notN : SndO K (fun x y H Q => y = .non ∧ Q (.bl (!decide (x = .non))) H) (isND true) := by
  intro M G0 H0 G H σ δ x y d1 d2 s Q S r1 r2 e k
  unfold isND at e
  split at e
  · cases e
    cases rep_non r2
    refine ⟨rfl, k _ G H S (Gr.refl ..) ?_⟩
    rw [rep_isN r1]
    cases d1 <;> exact .val (.bl _)
  · cases e
/-! ### items -/
def ixD (a b : D) : Option Sl := match a, b with
  | .lst ds, .int i => (atI ds i).map .val
  | .tup ds, .int i => (atI ds i).map .val
  | .str z, .int i => if z.length ≤ sizeLine then (atI z.cps.toList i).map fun c => .val (.str ⟨#[c]⟩) else none
  | _, _ => none
theorem RepL.atI {G : Hp} {vs : List V} {ds : List D} {i : Int} {d : D} (r : RepL K G vs ds) (h : L2.atI ds i = some d) : ∃ v, L2.atI vs i = some v ∧ Rep K G v d := by
  unfold L2.atI at h ⊢
  rw [r.len]
  obtain ⟨j, e1, e2⟩ := Option.bind_eq_some_iff.mp h
  obtain ⟨v, e3, e4⟩ := r.at e2
  exact ⟨v, by rw [e1]; exact e3, e4⟩
theorem o_ix : SndO K (rIx K) ixD := by
  intro M G0 H0 G H σ δ x y d1 d2 s Q S r1 r2 e k
  unfold ixD at e
  split at e
  · rename_i ds i
    obtain ⟨d, e1, e2⟩ := Option.map_eq_some_iff.mp e
    subst e2
    obtain ⟨l, xs, rfl, q1, l1⟩ := rep_lst r1
    cases rep_int r2
    obtain ⟨v, e3, r3⟩ := l1.atI e1
    exact .inl ⟨l, xs, i, v, rfl, rfl, (same_ls S.gh q1).sq, e3, k _ G H S (Gr.refl ..) (.val r3)⟩
  · rename_i ds i
    obtain ⟨d, e1, e2⟩ := Option.map_eq_some_iff.mp e
    subst e2
    obtain ⟨l, xs, rfl, q1, l1⟩ := rep_tup r1
    cases rep_int r2
    obtain ⟨v, e3, r3⟩ := l1.atI e1
    exact .inr (.inl ⟨l, xs, i, v, rfl, rfl, same_sqT S.gh q1, e3, k _ G H S (Gr.refl ..) (.val r3)⟩)
  · rename_i z i
    split at e
    · rename_i hz
      obtain ⟨c, e1, e2⟩ := Option.map_eq_some_iff.mp e
      subst e2
      cases rep_str r1
      cases rep_int r2
      exact .inr (.inr ⟨z, i, c, rfl, rfl, hz, e1, k _ G H S (Gr.refl ..) (.val (.str _))⟩)
    · cases e
  · cases e
/-! ### slices: a[lo:hi] -/
abbrev FO := DEnv → Rs (Option Int)
def SndP (X : Cx) (t : TO) (f : FO) : Prop := ∀ (M : Nat → Option Addr) (G0 H0 G H : Hp) (σ : St) (δ : DEnv) (r : Except XD (Option Int)) (δ' : DEnv) (Q : Option Int → Hp → Prop), StOk X.K M G0 H0 G H σ δ → f δ = some (r, δ') → PostT X M G0 H0 G H σ δ δ' Q r → t σ H Q
def fNoP : FO := fun δ => some (.ok none, δ)
def intOf (d : D) : Option (Option Int) := match d with | .int i => some (some i) | _ => none
def fPart (f : FE) : FO := fun δ => (f δ).bind fun p δ => lift (intOf p.fz) δ
theorem snd_noP {X : Cx} : SndP X tNoPart fNoP := by
  intro M G0 H0 G H σ δ b δ' Q S e k
  cases e
  exact k G H S (Gr.refl ..)
theorem snd_part {X : Cx} {te : TE} {fe : FE} (h : SndE X te fe) : SndP X (tPart te) (fPart fe) := by
  intro M G0 H0 G H σ δ q δ' Q S e k
  rcases Rs.inv e with ⟨s1, δ1, e1, e⟩ | ⟨x, e1, rfl⟩
  · refine h.toV M G0 H0 G H σ δ s1 δ1 _ S e1 fun v G1 H1 S1 g1 r1 => ?_
    obtain ⟨i, e3, rfl, rfl⟩ := lift_inv e
    unfold intOf at e3
    split at e3
    · rename_i i' hi
      cases e3
      rw [hi] at r1
      exact ⟨i', rep_int r1, k G1 H1 S1 g1⟩
    · cases e3
  · exact h M G0 H0 G H σ δ _ _ _ S e1 k
def SndSl (K : PySem.W.Frag) (r : V → Option Int → Option Int → Hp → VK → Prop) (g : D → Option Int → Option Int → Option Sl) : Prop := ∀ (M : Nat → Option Addr) (G0 H0 G H : Hp) (σ : St) (δ : DEnv) (x : V) (d : D) (lo hi : Option Int) (s : Sl) (Q : VK), StOk K M G0 H0 G H σ δ → Rep K G x d → g d lo hi = some s →
  (∀ v G' H', StOk K M G0 H0 G' H' σ δ → Gr G H σ δ G' H' δ → RepR K H G' H' v s → Q v H') → r x lo hi H Q
def fSl (g : D → Option Int → Option Int → Option Sl) (f : FE) (l h : FO) : FE := fun δ => (f δ).bind fun p δ => (l δ).bind fun q δ => (h δ).bind fun r δ => lift (g p.fz q r) δ
theorem snd_sl {X : Cx} {r : V → Option Int → Option Int → Hp → VK → Prop} {g : D → Option Int → Option Int → Option Sl} {te : TE} {fe : FE} {tl th : TO} {fl fh : FO} (hr : SndSl X.K r g) (he : SndE X te fe) (hl : SndP X tl fl) (hh : SndP X th fh) : SndE X (tSl r te tl th) (fSl g fe fl fh) := by
  intro M G0 H0 G H σ δ q δ' Q S e k
  rcases Rs.inv e with ⟨s1, δ1, e1, e⟩ | ⟨x, e1, rfl⟩
  · refine he.toV M G0 H0 G H σ δ s1 δ1 _ S e1 fun x G1 H1 S1 g1 r1 => ?_
    rcases Rs.inv e with ⟨lo, δ2, e2, e⟩ | ⟨x, e2, rfl⟩
    · refine hl M G0 H0 G1 H1 σ δ1 (.ok lo) δ2 _ S1 e2 fun G2 H2 S2 g2 => ?_
      rcases Rs.inv e with ⟨hi, δ3, e3, e⟩ | ⟨x, e3, rfl⟩
      · refine hh M G0 H0 G2 H2 σ δ2 (.ok hi) _ _ S2 e3 fun G3 H3 S3 g3 => ?_
        obtain ⟨s4, e4, rfl, rfl⟩ := lift_inv e
        refine hr M G0 H0 G3 H3 σ _ x _ lo hi s4 Q S3 (Rep.mono (g2.gg.trans g3.gg) r1) e4 fun v G4 H4 S4 g4 r4 => ?_
        exact k v G4 H4 S4 (g1.trans (g2.trans (g3.trans g4))) (r4.back (g1.trans (g2.trans g3)))
      · exact hh M G0 H0 G2 H2 σ δ2 _ _ _ S2 e3 (PostX.after (g1.trans g2) k)
    · exact hl M G0 H0 G1 H1 σ δ1 _ _ _ S1 e2 (PostX.after g1 k)
  · exact he M G0 H0 G H σ δ _ _ _ S e1 k
def cutD {α : Type} (xs : List α) (lo hi : Option Int) : List α := (xs.drop (HT.sIx xs.length 0 lo)).take (HT.sIx xs.length xs.length hi - HT.sIx xs.length 0 lo)
theorem RepL.cut {G : Hp} {vs : List V} {ds : List D} (lo hi : Option Int) (r : RepL K G vs ds) : RepL K G (cutV vs lo hi) (cutD ds lo hi) := by
  unfold cutV cutD
  rw [r.len]
  exact RepL.take _ (RepL.drop _ r)
/-! ### built-ins -/
def g1 (g : D → Option Sl) (ds : List D) : Option Sl := match ds with | [d] => g d | _ => none
def g2 (g : D → D → Option Sl) (ds : List D) : Option Sl := match ds with | [a, b] => g a b | _ => none
theorem repL1 {G : Hp} {xs : List V} {d : D} (r : RepL K G xs [d]) : ∃ x, xs = [x] ∧ Rep K G x d := by
  cases r with
  | cons h t => cases t; exact ⟨_, rfl, h⟩
theorem repL2 {G : Hp} {xs : List V} {d e : D} (r : RepL K G xs [d, e]) : ∃ x y, xs = [x, y] ∧ Rep K G x d ∧ Rep K G y e := by
  cases r with
  | cons h t =>
    obtain ⟨y, rfl, r⟩ := repL1 t
    exact ⟨_, _, rfl, h, r⟩
def lenD (d : D) : Option Sl := match d with
  | .str z => if z.length ≤ sizeLine then some (.val (.int z.length)) else none
  | .lst ds => some (.val (.int ds.length))
  | .tup ds => some (.val (.int ds.length))
  | _ => none
theorem c_len : SndN K (fun xs H Q => ∃ x n, xs = [x] ∧ LenV K x H n ∧ Q (.int n) H) (g1 lenD) := by
  intro M G0 H0 G H σ δ xs ds s Q S r e k
  unfold g1 at e
  split at e
  · rename_i d
    obtain ⟨x, rfl, rr⟩ := repL1 r
    unfold lenD at e
    split at e
    · rename_i z
      split at e
      · rename_i hz
        cases e
        cases rep_str rr
        exact ⟨_, z.length, rfl, ⟨hz, rfl⟩, k _ G H S (Gr.refl ..) (.val (.int _))⟩
      · cases e
    · rename_i es
      cases e
      obtain ⟨l, vs, rfl, q1, l1⟩ := rep_lst rr
      exact ⟨_, vs.length, rfl, .inl ⟨vs, (same_ls S.gh q1).sq, rfl⟩, k _ G H S (Gr.refl ..) (.val (by rw [l1.len]; exact .int _))⟩
    · rename_i es
      cases e
      obtain ⟨l, vs, rfl, q1, l1⟩ := rep_tup rr
      exact ⟨_, vs.length, rfl, .inr ⟨vs, same_sqT S.gh q1, rfl⟩, k _ G H S (Gr.refl ..) (.val (by rw [l1.len]; exact .int _))⟩
    · cases e
  · cases e
theorem c_ii {gv : Int → Int → V} {g : Int → Int → D} (hg : ∀ G i j, Rep K G (gv i j) (g i j)) : SndN K (fun xs H Q => ∃ i j, xs = [.int i, .int j] ∧ Q (gv i j) H) (g2 (iiD0 g)) := by
  intro M G0 H0 G H σ δ xs ds s Q S r e k
  unfold g2 at e
  split at e
  · obtain ⟨x, y, rfl, r1, r2⟩ := repL2 r
    unfold iiD0 at e
    split at e
    · rename_i i j
      cases e
      cases rep_int r1
      cases rep_int r2
      exact ⟨i, j, rfl, k _ G H S (Gr.refl ..) (.val (hg _ _ _))⟩
    · cases e
  · cases e
def intD (d : D) : Option Sl := match d with | .int i => some (.val (.int i)) | .bl k => some (.val (.int (if k then 1 else 0))) | _ => none
def listD (d : D) : Option Sl := match d with | .lst ds => some (.own (.lst ds)) | .tup ds => some (.own (.lst ds)) | _ => none
theorem c_list : SndN K (fun xs H Q => ∃ p ys, xs = [.ref p] ∧ (SqL K H p ys ∨ SqT K H p ys) ∧ ∀ l, H l = none → Q (.ref l) (upd H l (.lst ys))) (g1 listD) := by
  intro M G0 H0 G H σ δ xs ds s Q S r e k
  unfold g1 at e
  split at e
  · rename_i d
    obtain ⟨x, rfl, rr⟩ := repL1 r
    unfold listD at e
    split at e
    · cases e
      obtain ⟨l, vs, rfl, q1, l1⟩ := rep_lst rr
      refine ⟨l, vs, rfl, .inl (same_ls S.gh q1).sq, fun p hp => ?_⟩
      obtain ⟨S2, g2, r⟩ := S.newLst hp l1
      exact k _ _ _ S2 g2 r
    · cases e
      obtain ⟨l, vs, rfl, q1, l1⟩ := rep_tup rr
      refine ⟨l, vs, rfl, .inr (same_sqT S.gh q1), fun p hp => ?_⟩
      obtain ⟨S2, g2, r⟩ := S.newLst hp l1
      exact k _ _ _ S2 g2 r
    · cases e
  · cases e
/-! ### a op b op' c -/
theorem snd_truth {X : Cx} {ta : TE} {f1 : FE} (ha : SndE X ta f1) : SndT X (fun σ H Q => ta σ H fun x H' => ∃ k, TruV X.K x H' k ∧ Q k H') (fTr f1) := by
  intro M G0 H0 G H σ δ q δ' Q S e k
  rcases Rs.inv e with ⟨s1, δ1, e1, e⟩ | ⟨x, e1, rfl⟩
  · obtain ⟨b, e2, rfl, rfl⟩ := lift_inv e
    refine ha.toV M G0 H0 G H σ δ s1 _ _ S e1 fun x G1 H1 S1 g1 r1 => ?_
    refine ⟨_, ?_, k G1 H1 S1 g1⟩
    cases hd : s1.fz with
    | non => rw [hd] at e2 r1; cases e2; cases rep_non r1; rfl
    | bl c => rw [hd] at e2 r1; cases e2; cases rep_bl r1; rfl
    | int i => 
      rw [hd] at e2 r1; cases e2; cases rep_int r1
      show decide (i ≠ 0) = (i != 0)
      by_cases h : i = 0 <;> simp [h]
    | str z =>
      rw [hd] at e2 r1; 
      change (if z.length ≤ sizeLine then some (decide (z.length ≠ 0)) else none) = some b at e2
      split at e2
      · rename_i hz
        cases e2
        cases rep_str r1
        refine ⟨hz, ?_⟩
        by_cases h : z.length = 0
        · simp [h]
        · have h2 : ((z.length : Nat) : Int) ≠ 0 := by omega
          rw [decide_eq_true h]
          exact (bne_iff_ne.mpr h2).symm
      · cases e2
    | tup ds => 
      rw [hd] at e2 r1; cases e2
      obtain ⟨a, vs, rfl, q, l⟩ := rep_tup r1
      exact .inr (.inl ⟨vs, same_sqT S1.gh q, by cases l <;> rfl⟩)
    | lst ds => 
      rw [hd] at e2 r1; cases e2
      obtain ⟨a, vs, rfl, q, l⟩ := rep_lst r1
      exact .inl ⟨vs, (same_ls S1.gh q).sq, by cases l <;> rfl⟩
    | ty n => rw [hd] at e2; cases e2
    | dct ks vs => rw [hd] at e2; cases e2
    | exc c => rw [hd] at e2; cases e2
  · exact ha M G0 H0 G H σ δ _ _ _ S e1 k
end
end L4


namespace L4
open PySem L2
/-! ### the operations' values -/
def addD : D → D → Option Sl := fun a b => match iiD0 (fun i j => .int (i + j)) a b with
  | some s => some s
  | none => (fun a b => match ssD (fun i j => decide (i.length + j.length ≤ sizeLine)) (fun i j => .str (i ++ j)) a b with | some s => some s | none => catD a b) a b
def subD : D → D → Option Sl := iiD0 fun i j => .int (i - j)
def cMul (i j : Int) : Bool := (decide (-(2 ^ 64) < i) && decide (i < 2 ^ 64)) || (decide (-(2 ^ 64) < j) && decide (j < 2 ^ 64))
def mulD : D → D → Option Sl := iiD cMul fun i j => .int (i * j)
def cDiv (_ j : Int) : Bool := decide (0 < j) && decide (j < 1073741824)
def fdivD : D → D → Option Sl := iiD cDiv fun i j => .int (i / j)
def modD : D → D → Option Sl := iiD (fun _ j => decide (0 < j)) fun i j => .int (i % j)
def cPow (i j : Int) : Bool := decide (0 ≤ j) && decide (j ≤ 1000000) && decide (i.natAbs < 2 ^ 64)
def powD : D → D → Option Sl := iiD cPow fun i j => .int (i ^ j.toNat)
def negD : D → Option Sl := fun d => match d with | .int i => some (.val (.int (-i))) | _ => none
def ltD : D → D → Option Sl := iiD0 fun i j => .bl (decide (i < j))
def leD : D → D → Option Sl := iiD0 fun i j => .bl (decide (i ≤ j))
def gtD : D → D → Option Sl := iiD0 fun i j => .bl (decide (j < i))
def geD : D → D → Option Sl := iiD0 fun i j => .bl (decide (j ≤ i))
def maxD : D → D → Option Sl := iiD0 fun i j => .int (if j > i then j else i)
def minD : D → D → Option Sl := iiD0 fun i j => .int (if j < i then j else i)
mutual
def eqD : D → D → Bool
  | .non, .non => true
  | .bl a, .bl b => a == b
  | .int a, .int b => a == b
  | .bl a, .int b => (if a = true then (1 : Int) else 0) == b
  | .int a, .bl b => a == (if b = true then (1 : Int) else 0)
  | .str a, .str b => a == b
  | .tup a, .tup b => eqDs a b
  | .lst a, .lst b => eqDs a b
  | _, _ => false
def eqDs : List D → List D → Bool
  | [], [] => true
  | a :: as, b :: bs => eqD a b && eqDs as bs
  | _, _ => false
end
mutual
def depD : D → Nat
  | .tup a => depDs a + 1
  | .lst a => depDs a + 1
  | _ => 0
def depDs : List D → Nat
  | [] => 0
  | a :: as => max (depD a) (depDs as)
end
def strOkD (x : Str) : Bool := x.cps.all (· < 0x110000)
mutual
def plainD : D → Bool
  | .ty _ => false
  | .dct _ _ => false
  | .exc _ => false
  | .str x => strOkD x
  | .tup ds => plainDs ds
  | .lst ds => plainDs ds
  | _ => true
def plainDs : List D → Bool
  | [] => true
  | d :: ds => plainD d && plainDs ds
end
def eqOp (neg : Bool) (a b : D) : Option Sl := if (decide (depD a ≤ 100) && plainD a && plainD b) = true then some (.val (.bl (if neg then !eqD a b else eqD a b))) else none
def inOp (neg : Bool) (a b : D) : Option Sl := match b with
  | .lst ds => if (decide (depD a ≤ 100) && plainD a && plainDs ds) = true then some (.val (.bl (if neg then !ds.any (fun y => eqD y a) else ds.any (fun y => eqD y a)))) else none
  | .tup ds => if (decide (depD a ≤ 100) && plainD a && plainDs ds) = true then some (.val (.bl (if neg then !ds.any (fun y => eqD y a) else ds.any (fun y => eqD y a)))) else none
  | .str y => match a with
    | .str x => some (.val (.bl (if neg then !(!(Builtin.Str.occurrences y x 0 y.length 1).isEmpty) else !(Builtin.Str.occurrences y x 0 y.length 1).isEmpty)))
    | _ => none
  | _ => none
def isiT : D → String → Option Bool
  | .int _, T => if T = "int" then some true else if T = "bool" ∨ T = "str" ∨ T = "list" ∨ T = "tuple" then some false else none
  | .bl _, T => if T = "int" ∨ T = "bool" then some true else if T = "str" ∨ T = "list" ∨ T = "tuple" then some false else none
  | .str _, T => if T = "str" then some true else if T = "int" ∨ T = "bool" ∨ T = "list" ∨ T = "tuple" then some false else none
  | .tup _, T => if T = "tuple" then some true else if T = "int" ∨ T = "bool" ∨ T = "str" ∨ T = "list" then some false else none
  | .lst _, T => if T = "list" then some true else if T = "int" ∨ T = "bool" ∨ T = "str" ∨ T = "tuple" then some false else none
  | .non, T => if T = "int" ∨ T = "bool" ∨ T = "str" ∨ T = "list" ∨ T = "tuple" then some false else none
  | _, _ => none
def isiD (a b : D) : Option Sl := match b with | .ty T => (isiT a T).map fun k => .val (.bl k) | _ => none
def argS (ms : List Nat) (i : Nat) (d : D) : Sl := if ms.contains i then .lnt d else .val d
def argSs (ms : List Nat) : Nat → List D → List Sl
  | _, [] => []
  | i, d :: ds => argS ms i d :: argSs ms (i + 1) ds
def startD (n : Nat) (ms : List Nat) (ds : List D) : DEnv := (argSs ms 0 ds).map some ++ List.replicate (n - ds.length) none
def outsD (δ : DEnv) : List Nat → Option (List D)
  | [] => some []
  | i :: ms => match δ[i]? with
    | some (some (.lnt d)) => (outsD δ ms).map (d :: ·)
    | _ => none
abbrev Fn := List D → Option (Except XD Sl × List D)
def runD (n m : Nat) (ms : List Nat) (f : FS) : Fn := fun ds => if ds.length = m then (match f (startD n ms ds) with
  | some (.ret s δ) => (outsD δ ms).map fun o => (.ok s, o)
  | some (.next δ) => (outsD δ ms).map fun o => (.ok (.val .non), o)
  | some (.ex x δ) => (outsD δ ms).map fun o => (.error x, o)
  | _ => none) else none
end L4


namespace L4
open PySem L2
/-! ### looking at one's own things without giving them away -/
mutual
def noLst : D → Bool
  | .lst _ => false
  | .dct _ _ => false
  | .exc _ => false
  | .tup ds => noLsts ds
  | _ => true
def noLsts : List D → Bool
  | [] => true
  | d :: ds => noLst d && noLsts ds
end
def Sl.flat : Sl → Bool
  | .val d => noLst d
  | .own (.lst ds) => noLsts ds
  | .own (.dct _ ds) => noLsts ds
  | _ => false
def frzS : Option Sl → Option Sl
  | some s => some (.val s.fz)
  | none => none
def frzE (δ : DEnv) : DEnv := δ.map frzS
def fPure (f : FE) : FE := fun δ => match f (frzE δ) with
  | some (.ok s, _) => if s.flat = true then some (.ok s, δ) else f δ
  | some (.error x, _) => if noLsts (x.fs.map (·.2)) = true then some (.error x, δ) else none
  | none => none
def fPureT (c : FT) : FT := fun δ => match c (frzE δ) with
  | some (.ok s, _) => some (.ok s, δ)
  | some (.error x, _) => if noLsts (x.fs.map (·.2)) = true then some (.error x, δ) else none
  | none => none
section
variable {K : PySem.W.Frag} {M : Nat → Option Addr}
theorem frz_at {δ : DEnv} {i : Nat} {s : Sl} (h : (frzE δ)[i]? = some (some s)) : ∃ s', δ[i]? = some (some s') ∧ s = .val s'.fz := by
  unfold frzE at h
  rw [List.getElem?_map] at h
  cases q : δ[i]? with
  | none => rw [q] at h; cases h
  | some o =>
    rw [q] at h
    cases o with
    | none => cases h
    | some s' => cases h; exact ⟨s', rfl, rfl⟩
theorem noOw_frz {σ : St} {δ : DEnv} {p : Addr} : ¬ Ow σ (frzE δ) p := fun ⟨i, s, z, os, _⟩ => by
  obtain ⟨s', _, rfl⟩ := frz_at z
  cases os
def isHO : HO → Prop
  | .lst _ => True
  | .dT _ => True
  | .dK _ => True
  | _ => False
theorem OwnAt.isHO {G H : Hp} {p : Addr} {d : D} (h : OwnAt K G H p d) : ∃ o, H p = Option.some o ∧ L4.isHO o := by
  cases d with
  | lst ds => obtain ⟨vs, h, _⟩ := h; exact ⟨_, h, trivial⟩
  | dct ks ds =>
    obtain ⟨vs, h, _⟩ := h
    rcases h with ⟨kvs, h, _⟩ | ⟨kvs, h, _⟩
    · exact ⟨_, h, trivial⟩
    · exact ⟨_, h, trivial⟩
  | _ => exact h.elim
open Classical in
theorem StOk.frz {G0 H0 G H : Hp} {σ : St} {δ : DEnv} (S : StOk K M G0 H0 G H σ δ) : ∃ G1, StOk K M G0 H0 G1 H σ (frzE δ) ∧ Same G G1 ∧ ∀ b o, G1 b = some o → G b = some o ∨ isHO o := by
  have hOw : ∀ p, Ow σ δ p → ∃ o, H p = some o ∧ G p = none ∧ isHO o := fun p ⟨i, s, z1, os, z2⟩ => by
    obtain ⟨v, z3, r⟩ := S.env.at' i _ z1
    obtain ⟨q, e1, e2, r⟩ := r.own os
    rw [z2] at z3; cases z3; cases e1
    obtain ⟨o, e3, e4⟩ := r.isHO
    exact ⟨o, e3, e2, e4⟩
  have hs : Same G (fun b => if Ow σ δ b then H b else G b) := fun b o q => by
    have : ¬ Ow σ δ b := fun z => by obtain ⟨_, _, e, _⟩ := hOw b z; rw [q] at e; cases e
    show (if Ow σ δ b then H b else G b) = some o
    rw [if_neg this]; exact q
  refine ⟨fun b => if Ow σ δ b then H b else G b, ⟨fun b o q => ?_, ⟨by simpa [frzE] using S.env.len, fun i s e => ?_, fun i j p a b z1 _ oa _ z3 _ => (noOw_frz ⟨i, a, z1, oa, z3⟩).elim⟩, S.h0, S.g0.trans hs, fun b h n => ?_, fun p z => (noOw_frz z).elim, fun i d e => ?_⟩, hs, fun b o q => ?_⟩
  · split at q
    · exact q
    · exact S.gh b o q
  · obtain ⟨s', q, rfl⟩ := frz_at e
    obtain ⟨v, e1, r⟩ := S.env.at' i s' q
    refine ⟨v, e1, ?_⟩
    by_cases os : s'.isO = true
    · obtain ⟨p, rfl, e3, r⟩ := r.own os
      obtain ⟨o, ho⟩ := r.some
      have r2 := r.shown e3 ho
      have : Same (upd G p o) (fun b => if Ow σ δ b then H b else G b) := fun b u z => by
        show (if Ow σ δ b then H b else G b) = some u
        by_cases hb : b = p
        · subst hb
          rw [upd_same] at z; cases z
          rw [if_pos ⟨i, s', q, os, e1⟩]; exact ho
        · rw [upd_ne hb] at z
          exact hs b u z
      exact Rep.mono this r2
    · cases s' with
      | val d => exact Rep.mono hs r
      | own d => exact absurd rfl os
      | lnt d => exact absurd rfl os
  · have : ¬ Ow σ δ b := fun z => h (S.own0 b z)
    show (if Ow σ δ b then H b else G b) = none
    rw [if_neg this]; exact S.fr b h n
  · obtain ⟨s', _, z⟩ := frz_at e
    cases z
  · dsimp only at q
    split at q
    · rename_i z
      obtain ⟨o', e, _, e4⟩ := hOw b z
      rw [e] at q; cases q
      exact .inr e4
    · exact .inl q
mutual
theorem Rep.narrow {G G' : Hp} (h : ∀ a vs, SqT K G a vs → SqT K G' a vs) : ∀ {v : V} {d : D}, Rep K G v d → noLst d = true → Rep K G' v d
  | _, _, .non, _ => .non
  | _, _, .bl b, _ => .bl b
  | _, _, .int i, _ => .int i
  | _, _, .str x, _ => .str x
  | _, _, .ty n, _ => .ty n
  | _, _, .tup q r, n => .tup (h _ _ q) (RepL.narrow h r n)
  | _, _, .lst _ _, n => nomatch n
  | _, _, .dct _ _, n => nomatch n
  | _, _, .exc _ _, n => nomatch n
theorem RepL.narrow {G G' : Hp} (h : ∀ a vs, SqT K G a vs → SqT K G' a vs) : ∀ {vs : List V} {ds : List D}, RepL K G vs ds → noLsts ds = true → RepL K G' vs ds
  | _, _, .nil, _ => .nil
  | _, _, .cons q r, n => by
    have n' : (noLst _ && noLsts _) = true := n
    rw [Bool.and_eq_true] at n'
    exact .cons (Rep.narrow h q n'.1) (RepL.narrow h r n'.2)
end
theorem StOk.back {G0 H0 G H G1 G2 H2 : Hp} {σ : St} {δ δ2 : DEnv} (S : StOk K M G0 H0 G H σ δ) (n1 : ∀ b o, G1 b = some o → G b = some o ∨ isHO o)
    (S2 : StOk K M G0 H0 G2 H2 σ δ2) (g : Gr G1 H σ (frzE δ) G2 H2 δ2) :
    ∃ G3, StOk K M G0 H0 G3 H2 σ δ ∧ Gr G H σ δ G3 H2 δ ∧ (∀ a vs, SqT K G2 a vs → SqT K G3 a vs) ∧ ∀ b, H b = none → G3 b = G2 b := by
  have hh : Same H H2 := fun b o e => g.hs b o e noOw_frz
  have hs : Same G (fun b => match H b with | none => G2 b | some _ => G b) := fun b o q => by
    show (match H b with | none => G2 b | some _ => G b) = some o
    rw [S.gh b o q]; exact q
  refine ⟨fun b => match H b with | none => G2 b | some _ => G b, ⟨fun b o q => ?_, ⟨S.env.len, fun i s e => ?_, S.env.sep⟩, S.h0.trans hh, S.g0.trans hs, fun b h n => ?_, S.own0, S.mt⟩, Gr.of hh hs (fun b h n _ => ?_) fun _ z => z, fun a vs q => ?_, fun b hb => by show (match H b with | none => G2 b | some _ => G b) = G2 b; rw [hb]⟩
  · cases hb : H b with
    | none => rw [hb] at q; exact S2.gh b o q
    | some u => rw [hb] at q; exact hh b o (S.gh b o q)
  · obtain ⟨v, e1, r⟩ := S.env.at' i s e
    refine ⟨v, e1, ?_⟩
    have key : ∀ d, (∃ p, v = .ref p ∧ G p = none ∧ OwnAt K G H p d) → ∃ p, v = .ref p ∧ (match H p with | none => G2 p | some _ => G p) = none ∧ OwnAt K (fun b => match H b with | none => G2 b | some _ => G b) H2 p d := fun d ⟨p, e2, e4, rr⟩ => by
      obtain ⟨o, e3⟩ := rr.some
      exact ⟨p, e2, by rw [e3]; exact e4, rr.keep (by rw [hh _ _ e3, e3]) hs⟩
    cases s with
    | val d => exact Rep.mono hs r
    | own d => exact key d r
    | lnt d => exact key d r
  · show (match H b with | none => G2 b | some _ => G b) = none
    have hb := same_ne S.h0 h
    cases q : H b with
    | none => exact absurd q hb
    | some u => exact S.fr b h n
  · show (match H b with | none => G2 b | some _ => G b) = none
    cases q : H b with
    | none => exact absurd q h
    | some u => exact n
  · have at_ : ∀ o, G2 a = some o → ¬ isHO o → (match H a with | none => G2 a | some _ => G a) = some o := fun o e no => by
      cases hb : H a with
      | none => exact e
      | some u =>
        show G a = some o
        cases e1 : G1 a with
        | none => 
          have := g.fr a (by rw [hb]; simp) e1 noOw_frz
          rw [e] at this; cases this
        | some o1 =>
          have e2 := g.gg a o1 e1
          rw [e] at e2; cases e2
          rcases n1 a o e1 with q | q
          · exact q
          · exact absurd q no
    rcases q with (q | ⟨o, q⟩) | q
    · exact .inl (.inl (at_ _ q fun z => z))
    · exact .inl (.inr ⟨o, at_ _ q fun z => z⟩)
    · exact .inr q
end
section
variable {X : Cx}
theorem XRep.narrow {C : Value} {dx : Option Addr} {G G' H : Hp} {x : XD} (r : XRep X C dx G H x) : XRep X C dx G' H x := r
theorem snd_pure {te : TE} {fe : FE} (h : SndE X te fe) : SndE X te (fPure fe) := by
  intro M G0 H0 G H σ δ q δ' Q S e k
  unfold fPure at e
  obtain ⟨G1, S1, hs, n1⟩ := S.frz
  split at e
  · rename_i s δ1 e1
    split at e
    · rename_i hf
      cases e
      refine h M G0 H0 G1 H σ (frzE δ) (.ok s) δ1 Q S1 e1 fun v G2 H2 S2 g2 r2 => ?_
      obtain ⟨G3, S3, g3, hq, h3⟩ := S.back n1 S2 g2
      refine k v G3 H2 S3 g3 ⟨?_, r2.2⟩
      obtain ⟨r, nw⟩ := r2
      cases s with
      | val d => exact Rep.narrow hq r hf
      | lnt d => cases hf
      | own d =>
        obtain ⟨p, rfl, y2, r⟩ := r
        obtain ⟨_, q, y3, y4⟩ := nw rfl
        cases y3
        refine ⟨p, rfl, by rw [h3 p y4]; exact y2, ?_⟩
        cases d with
        | lst ds => obtain ⟨vs, y1, r⟩ := r; exact ⟨vs, y1, RepL.narrow hq r hf⟩
        | dct ks ds => obtain ⟨vs, y1, r⟩ := r; exact ⟨vs, y1, RepL.narrow hq r hf⟩
        | _ => exact r.elim
    · exact h M G0 H0 G H σ δ _ δ' Q S e k
  · rename_i x δ1 e1
    split at e
    · rename_i hf
      cases e
      refine h M G0 H0 G1 H σ (frzE δ) (.error x) δ1 Q S1 e1 fun C dx G2 H2 S2 g2 r2 => ?_
      obtain ⟨G3, S3, g3, hq, h3⟩ := S.back n1 S2 g2
      exact k C dx G3 H2 S3 g3 r2.narrow
    · cases e
  · cases e
end
end L4


namespace L4
open PySem L2
section
variable {X : Cx} {a b c e : Expr} {es : List Expr} {f1 f2 f3 : FE} {fl : FL} {pos : Pos} {c1 c2 : FT} {rest : List Expr}
def QR (X : Cx) (op : CmpOp) (g : D → D → Option Sl) : Prop := ∃ r, OpR X (compareOp op) r ∧ SndO X.K r g
def BR (X : Cx) (op : Operator) (g : D → D → Option Sl) : Prop := ∃ r, OpR X (binaryOp op) r ∧ SndO X.K r g
theorem de_bin {op : Operator} {g : D → D → Option Sl} (h : BR X op g) (ha : DE X a f1) (hb : DE X b f2) : DE X (.BinOp a op b pos) (fOp g f1 f2) :=
  let ⟨_, h1, h2⟩ := h; let ⟨_, a1, a2⟩ := ha; let ⟨_, b1, b2⟩ := hb; ⟨_, pe_op h1 a1 b1, snd_op h2 a2 b2⟩
theorem de_cmp {op : CmpOp} {g : D → D → Option Sl} (h : QR X op g) (ha : DE X a f1) (hb : DE X b f2) (hm : behindInMarks op b = false) : DE X (.Compare a [op] [b] pos) (fOp g f1 f2) :=
  let ⟨_, h1, h2⟩ := h; let ⟨_, a1, a2⟩ := ha; let ⟨_, b1, b2⟩ := hb; ⟨_, pe_cmpR h1 a1 b1 hm, snd_op h2 a2 b2⟩
theorem dt_cmp {op : CmpOp} {g : D → D → Option Sl} (h : QR X op g) (ha : DE X a f1) (hb : DE X b f2) (hm : behindInMarks op b = false) : DT X (.Compare a [op] [b] pos) (fTb (fOp g f1 f2)) :=
  let ⟨_, h1, h2⟩ := h; let ⟨_, a1, a2⟩ := ha; let ⟨_, b1, b2⟩ := hb; ⟨_, pt_cmpR h1 a1 b1 hm, snd_test (snd_op h2 a2 b2)⟩
theorem q_lt : QR X .Lt ltD := ⟨_, op_lt, o_int0 fun _ _ _ => .bl _⟩
theorem q_gt : QR X .Gt gtD := ⟨_, op_gt, o_int0 fun _ _ _ => .bl _⟩
theorem q_ge : QR X .GtE geD := ⟨_, op_ge, o_int0 fun _ _ _ => .bl _⟩
theorem q_notN : QR X .IsNot (isND true) := ⟨_, op_notN, o_notN⟩
theorem de_sub (ha : DE X a f1) (hb : DE X b f2) : DE X (.BinOp a .Sub b pos) (fOp subD f1 f2) := de_bin ⟨_, op_sub, o_int0 fun _ _ _ => .int _⟩ ha hb
theorem de_mul (ha : DE X a f1) (hb : DE X b f2) : DE X (.BinOp a .Mult b pos) (fOp mulD f1 f2) := de_bin ⟨_, op_mul, o_int (fun i j h => by
  unfold cMul at h
  rw [Bool.or_eq_true, Bool.and_eq_true, Bool.and_eq_true] at h
  exact h.imp (fun z => ⟨of_decide_eq_true z.1, of_decide_eq_true z.2⟩) fun z => ⟨of_decide_eq_true z.1, of_decide_eq_true z.2⟩) fun _ _ _ => .int _⟩ ha hb
theorem de_fdiv (ha : DE X a f1) (hb : DE X b f2) : DE X (.BinOp a .FloorDiv b pos) (fOp fdivD f1 f2) := de_bin ⟨_, op_fdiv, o_int (fun i j h => by
  unfold cDiv at h
  rw [Bool.and_eq_true] at h
  exact ⟨of_decide_eq_true h.1, of_decide_eq_true h.2⟩) fun _ _ _ => .int _⟩ ha hb
theorem de_mod (ha : DE X a f1) (hb : DE X b f2) : DE X (.BinOp a .Mod b pos) (fOp modD f1 f2) := de_bin ⟨_, op_mod, o_int (fun i j h => of_decide_eq_true h) fun _ _ _ => .int _⟩ ha hb
theorem de_pow (ha : DE X a f1) (hb : DE X b f2) : DE X (.BinOp a .Pow b pos) (fOp powD f1 f2) := de_bin ⟨_, op_pow, o_int (fun i j h => by
  unfold cPow at h
  rw [Bool.and_eq_true, Bool.and_eq_true] at h
  exact ⟨of_decide_eq_true h.1.1, of_decide_eq_true h.1.2, of_decide_eq_true h.2⟩) fun _ _ _ => .int _⟩ ha hb
theorem Inv.lstR {pins : List (Addr × Obj)} {σ : St} {H : Hp} {s : Shared} {l : Addr} {xs : List V} (I : Inv X pins σ H s) (hH : LsK X.K H l xs) : xs.length ≤ sizeLine ∧ ∃ (its : List Value) (n : Nat), Vals xs its ∧ xs.length = its.length ∧ s.heap.get? l = some { cls := .type "list", data := .seq its.toArray n } := by
  rcases hH with hH | ⟨its, n, h1, h2, h3⟩
  · obtain ⟨z, its, n, r, e⟩ := hH.ok I.hok
    exact ⟨z, its, n, r, r.length, e⟩
  · refine ⟨by rw [h3.length, Array.length_toList]; exact h2, its.toList, n, h3, h3.length, ?_⟩
    have := I.kIn l _ h1
    simpa using this
theorem op_catS : OpR X (binaryOp .Add) (rCatS X.K) := by
  intro pins s σ H x y v u Q I rx ry h
  obtain ⟨l, b, xs, zs, rfl, rfl, hH, hB, hz, q⟩ := h
  cases rx
  cases ry
  obtain ⟨z, its, n, r, hl, e⟩ := Inv.lstR I hH
  obtain ⟨z2, its2, n2, r2, hl2, e2⟩ := Inv.lstR I hB
  refine PySem.P.add_list e e2 ?_ (by rw [List.size_toArray, List.size_toArray]; omega)
  have ea : its.toArray ++ its2.toArray = (its ++ its2).toArray := by simp
  rw [ea]
  exact ⟨.ref _, _, I.lnew (t' := s.toks) (r.append r2) (by rw [List.length_append]; omega), rfl, q _ I.fresh⟩
theorem de_add (ha : DE X a f1) (hb : DE X b f2) : DE X (.BinOp a .Add b pos) (fOp addD f1 f2) := de_bin ⟨_, op_add.or (op_add_str.or op_catS), (o_int0 fun _ _ _ => .int _).or (o_addS.or o_cat)⟩ ha hb
theorem u_neg {K : PySem.W.Frag} : SndU K (rU fun i => .int (-i)) negD := by
  intro M G0 H0 G H σ δ x d s Q S r e k
  unfold negD at e
  split at e
  · rename_i i
    cases e
    cases rep_int r
    exact ⟨i, rfl, k _ G H S (Gr.refl ..) (.val (.int _))⟩
  · cases e
theorem de_neg (ha : DE X a f1) : DE X (.UnaryOp .USub a pos) (fUn negD f1) := let ⟨_, a1, a2⟩ := ha; ⟨_, pe_un un_neg a1, snd_un u_neg a2⟩
theorem de_not (ha : DE X a f1) : DE X (.UnaryOp .Not a pos) (fNotV f1) := let ⟨_, a1, a2⟩ := ha; ⟨_, pe_not a1, snd_notV a2⟩
theorem de_one {op} (ha : DE X a f1) : DE X (.BoolOp op [a] pos) f1 := let ⟨_, a1, a2⟩ := ha; ⟨_, pe_one a1, a2⟩
theorem de_and (ha : DE X a f1) (hb : DE X (.BoolOp .And (b :: rest) pos) f2) : DE X (.BoolOp .And (a :: b :: rest) pos) (fAndV f1 f2) := let ⟨_, a1, a2⟩ := ha; let ⟨_, b1, b2⟩ := hb; ⟨_, pe_and a1 b1, snd_andV a2 b2⟩
theorem da_nil : DA X [] fNil := ⟨_, pa_nil, snd_nil⟩
theorem da_cons (ha : DE X e f1) (hr : DA X es fl) (hs : starEach (e :: es) X.env = (false, eval e X.env) :: starEach es X.env := by rfl) : DA X (e :: es) (fCons f1 fl) := let ⟨_, a1, a2⟩ := ha; let ⟨_, b1, b2⟩ := hr; ⟨_, pa_cons a1 b1 hs, snd_cons a2 b2⟩
theorem de_tup {x1} (h : DA X es fl) : DE X (.Tuple es x1 pos) (fArgs gTupD fl) := let ⟨_, a1, a2⟩ := h; ⟨_, pe_tup a1, snd_tup a2⟩
theorem de_lst (h : DA X es fl) : DE X (.List es pos) (fArgs gLstD fl) := let ⟨_, a1, a2⟩ := h; ⟨_, pe_lst a1, snd_lst a2⟩
theorem de_ix (ha : DE X a f1) (hb : DE X b f2) (hs : PlainIx b) : DE X (.Subscript a b pos) (fOp ixD f1 f2) := let ⟨_, a1, a2⟩ := ha; let ⟨_, b1, b2⟩ := hb; ⟨_, pe_ix ix_seq a1 b1 hs, snd_op o_ix a2 b2⟩
theorem de_pure (h : DE X e f1) : DE X e (fPure f1) := let ⟨_, a1, a2⟩ := h; ⟨_, a1, snd_pure a2⟩
/-! tests -/
def DW (X : Cx) (e : Expr) (f : FT) : Prop := ∃ t, PW X e t ∧ SndT X t f
theorem dw (h : DW X e c1) : DT X e c1 := let ⟨_, a1, a2⟩ := h; ⟨_, a1.pt, a2⟩
theorem dw_and1 (h : DT X a c1) : DW X (.BoolOp .And [a] pos) c1 := let ⟨_, a1, a2⟩ := h; ⟨_, pw_and1 a1, a2⟩
theorem dw_or1 (h : DT X a c1) : DW X (.BoolOp .Or [a] pos) c1 := let ⟨_, a1, a2⟩ := h; ⟨_, pw_or1 a1, a2⟩
theorem dw_and (ha : DT X a c1) (hb : DW X (.BoolOp .And (b :: rest) pos) c2) : DW X (.BoolOp .And (a :: b :: rest) pos) (fAndT c1 c2) := let ⟨_, a1, a2⟩ := ha; let ⟨_, b1, b2⟩ := hb; ⟨_, pw_and a1 b1, snd_andT a2 b2⟩
theorem dw_or (ha : DT X a c1) (hb : DW X (.BoolOp .Or (b :: rest) pos) c2) : DW X (.BoolOp .Or (a :: b :: rest) pos) (fOrT c1 c2) := let ⟨_, a1, a2⟩ := ha; let ⟨_, b1, b2⟩ := hb; ⟨_, pw_or a1 b1, snd_orT a2 b2⟩
theorem dt_not (h : DT X a c1) : DT X (.UnaryOp .Not a pos) (fNotT c1) := let ⟨_, a1, a2⟩ := h; ⟨_, pt_not a1, snd_notT a2⟩
theorem dt_truth (h : DE X a f1) (he : ∀ whole, isTrue a X.env whole = (do let v ← whole; standAt a.pos; holding [v] (truthy v))) : DT X a (fTr f1) := let ⟨_, a1, a2⟩ := h; ⟨_, pt_truth a1 he, snd_truth a2⟩
/-! built-ins -/
section
variable {x : Str} {p : Pos}
theorem de_blt {id : String} {r : List V → Hp → VK → Prop} {g : List D → Option Sl} (hc : CallR X (.builtin id) r) (hn : SndN X.K r g) (hg : Gl X x) (hm : X.mg x = none) (hv : bootBuiltins x = some (.builtin id)) (ha : DA X (e :: es) fl) (hnm : x ≠ "__name__" := by decide) (hdb : (x == ("__debug__" : Str)) = false := by decide)
    (he : starEach (e :: es) X.env = (false, eval e X.env) :: starEach es X.env := by rfl) (hpl : (backTo pos (starEach es X.env)).any (·.1) = false := by rfl) : DE X (.Call (.Name x p) (e :: es) [] pos) (fArgs g fl) :=
  let ⟨_, a1, a2⟩ := ha; ⟨_, pe_callB hc hg hm hv a1 hnm hdb he hpl, snd_cb hn a2⟩
theorem de_tyc {T : String} {r : List V → Hp → VK → Prop} {g : List D → Option Sl} (hc : CallR X (.type T) r) (hn : SndN X.K r g) (hg : Gl X x) (hm : X.mg x = none) (hv : bootBuiltins x = some (.type T)) (ha : DA X (e :: es) fl) (hnm : x ≠ "__name__" := by decide) (hdb : (x == ("__debug__" : Str)) = false := by decide)
    (he : starEach (e :: es) X.env = (false, eval e X.env) :: starEach es X.env := by rfl) (hpl : (backTo pos (starEach es X.env)).any (·.1) = false := by rfl) : DE X (.Call (.Name x p) (e :: es) [] pos) (fArgs g fl) :=
  let ⟨_, a1, a2⟩ := ha; ⟨_, pe_callTy hc hg hm hv a1 hnm hdb he hpl, snd_cb hn a2⟩
end
end
/-! ### deep data against the library's own -/
mutual
def toPy : D → PyData
  | .non => .none
  | .bl b => .bool b
  | .int i => .int i
  | .str x => .str x
  | .ty _ => .none
  | .dct _ _ => .none
  | .exc _ => .none
  | .tup ds => .tuple (toPys ds)
  | .lst ds => .list (toPys ds)
def toPys : List D → List PyData
  | [] => []
  | d :: ds => toPy d :: toPys ds
end
mutual
theorem toPy_ok : ∀ d : D, plainD d = true → (toPy d).canLay0 = true
  | .non, _ => by unfold toPy; rfl
  | .bl _, _ => by unfold toPy; rfl
  | .int _, _ => by unfold toPy; rfl
  | .str x, h => by unfold plainD at h; unfold toPy; exact h
  | .ty _, h => by unfold plainD at h; cases h
  | .dct _ _, h => by unfold plainD at h; cases h
  | .exc _, h => by unfold plainD at h; cases h
  | .tup ds, h => by unfold plainD at h; unfold toPy; exact toPys_ok ds h
  | .lst ds, h => by unfold plainD at h; unfold toPy; exact toPys_ok ds h
theorem toPys_ok : ∀ ds : List D, plainDs ds = true → PyData.canLayAll0 (toPys ds) = true
  | [], _ => by unfold toPys; rfl
  | d :: ds, h => by
    unfold plainDs at h
    rw [Bool.and_eq_true] at h
    unfold toPys PyData.canLayAll0
    rw [toPy_ok d h.1, toPys_ok ds h.2]
    rfl
end
mutual
theorem toPy_depth : ∀ d : D, (toPy d).depth = depD d
  | .non => by unfold toPy PyData.depth depD; rfl
  | .bl _ => by unfold toPy PyData.depth depD; rfl
  | .int _ => by unfold toPy PyData.depth depD; rfl
  | .str x => by unfold toPy PyData.depth depD; rfl
  | .ty _ => by unfold toPy PyData.depth depD; rfl
  | .dct _ _ => by unfold toPy PyData.depth depD; rfl
  | .exc _ => by unfold toPy PyData.depth depD; rfl
  | .tup ds => by unfold toPy PyData.depth depD; rw [toPys_depth ds]
  | .lst ds => by unfold toPy PyData.depth depD; rw [toPys_depth ds]
theorem toPys_depth : ∀ ds : List D, PyData.depthAll (toPys ds) = depDs ds
  | [] => by unfold toPys depDs; rfl
  | d :: ds => by
    unfold toPys PyData.depthAll depDs
    rw [toPy_depth d, toPys_depth ds]
end
mutual
theorem toPy_eqv : ∀ a b : D, plainD a = true → plainD b = true → PyData.eqv (toPy a) (toPy b) = eqD a b
  | a, .ty _, _, h => by unfold plainD at h; cases h
  | .ty _, _, h, _ => by unfold plainD at h; cases h
  | a, .dct _ _, _, h => by unfold plainD at h; cases h
  | .dct _ _, _, h, _ => by unfold plainD at h; cases h
  | a, .exc _, _, h => by unfold plainD at h; cases h
  | .exc _, _, h, _ => by unfold plainD at h; cases h
  | .tup as, .tup bs, h1, h2 => by unfold plainD at h1 h2; unfold toPy PyData.eqv eqD; exact toPys_eqv as bs h1 h2
  | .lst as, .lst bs, h1, h2 => by unfold plainD at h1 h2; unfold toPy PyData.eqv eqD; exact toPys_eqv as bs h1 h2
  | .non, .non, _, _ => by unfold toPy PyData.eqv eqD; rfl
  | .non, .bl _, _, _ => by unfold toPy PyData.eqv eqD; rfl
  | .non, .int _, _, _ => by unfold toPy PyData.eqv eqD; rfl
  | .non, .str _, _, _ => by unfold toPy PyData.eqv eqD; rfl
  | .non, .tup _, _, _ => by unfold toPy PyData.eqv eqD; rfl
  | .non, .lst _, _, _ => by unfold toPy PyData.eqv eqD; rfl
  | .bl _, .non, _, _ => by unfold toPy PyData.eqv eqD; rfl
  | .bl _, .bl _, _, _ => by unfold toPy PyData.eqv eqD; rfl
  | .bl _, .int _, _, _ => by unfold toPy PyData.eqv eqD; rfl
  | .bl _, .str _, _, _ => by unfold toPy PyData.eqv eqD; rfl
  | .bl _, .tup _, _, _ => by unfold toPy PyData.eqv eqD; rfl
  | .bl _, .lst _, _, _ => by unfold toPy PyData.eqv eqD; rfl
  | .int _, .non, _, _ => by unfold toPy PyData.eqv eqD; rfl
  | .int _, .bl _, _, _ => by unfold toPy PyData.eqv eqD; rfl
  | .int _, .int _, _, _ => by unfold toPy PyData.eqv eqD; rfl
  | .int _, .str _, _, _ => by unfold toPy PyData.eqv eqD; rfl
  | .int _, .tup _, _, _ => by unfold toPy PyData.eqv eqD; rfl
  | .int _, .lst _, _, _ => by unfold toPy PyData.eqv eqD; rfl
  | .str _, .non, _, _ => by unfold toPy PyData.eqv eqD; rfl
  | .str _, .bl _, _, _ => by unfold toPy PyData.eqv eqD; rfl
  | .str _, .int _, _, _ => by unfold toPy PyData.eqv eqD; rfl
  | .str _, .str _, _, _ => by unfold toPy PyData.eqv eqD; rfl
  | .str _, .tup _, _, _ => by unfold toPy PyData.eqv eqD; rfl
  | .str _, .lst _, _, _ => by unfold toPy PyData.eqv eqD; rfl
  | .tup _, .non, _, _ => by unfold toPy PyData.eqv eqD; rfl
  | .tup _, .bl _, _, _ => by unfold toPy PyData.eqv eqD; rfl
  | .tup _, .int _, _, _ => by unfold toPy PyData.eqv eqD; rfl
  | .tup _, .str _, _, _ => by unfold toPy PyData.eqv eqD; rfl
  | .tup _, .lst _, _, _ => by unfold toPy PyData.eqv eqD; rfl
  | .lst _, .non, _, _ => by unfold toPy PyData.eqv eqD; rfl
  | .lst _, .bl _, _, _ => by unfold toPy PyData.eqv eqD; rfl
  | .lst _, .int _, _, _ => by unfold toPy PyData.eqv eqD; rfl
  | .lst _, .str _, _, _ => by unfold toPy PyData.eqv eqD; rfl
  | .lst _, .tup _, _, _ => by unfold toPy PyData.eqv eqD; rfl
theorem toPys_eqv : ∀ as bs : List D, plainDs as = true → plainDs bs = true → PyData.eqvAll (toPys as) (toPys bs) = eqDs as bs
  | [], [], _, _ => by unfold toPys eqDs; rfl
  | a :: as, b :: bs, h1, h2 => by
    unfold plainDs at h1 h2
    rw [Bool.and_eq_true] at h1 h2
    unfold toPys PyData.eqvAll eqDs
    rw [toPy_eqv a b h1.1 h2.1, toPys_eqv as bs h1.2 h2.2]
  | [], _ :: _, _, _ => by unfold toPys eqDs; rfl
  | _ :: _, [], _, _ => by unfold toPys eqDs; rfl
end
section
variable {X : Cx} {pins : List (Addr × Obj)} {σ : St} {H G : Hp} {s : Shared}
mutual
theorem reads_of (I : Inv X pins σ H s) (hs : Same G H) : ∀ {x : V} {d : D} {u : Value}, Rep X.K G x d → plainD d = true → RelV x u → ∃ as, Reads s.heap u (toPy d) as
  | _, _, _, .non, _, r => by cases r; unfold toPy; exact ⟨_, .none⟩
  | _, _, _, .bl b, _, r => by cases r; unfold toPy; exact ⟨_, .bool b⟩
  | _, _, _, .int i, _, r => by obtain ⟨t, rfl⟩ := r; unfold toPy; exact ⟨_, .int i t⟩
  | _, _, _, .str x, _, r => by obtain ⟨t, rfl⟩ := r; unfold toPy; exact ⟨_, .str x t⟩
  | _, _, _, .ty _, h, _ => by unfold plainD at h; cases h
  | _, _, _, .dct _ _, h, _ => by unfold plainD at h; cases h
  | _, _, _, .exc _ _, h, _ => by unfold plainD at h; cases h
  | _, _, _, .tup q l, h, r => by
    cases r
    unfold plainD at h
    obtain ⟨its, r', ⟨o, ho, hc, n, hd⟩, _⟩ := I.tuple (same_sqT hs q)
    obtain ⟨as, ra⟩ := readsAll_of I hs l h r'
    unfold toPy
    exact ⟨as, .tuple ho hc hd (by simpa using ra)⟩
  | _, _, _, .lst q l, h, r => by
    cases r
    unfold plainD at h
    obtain ⟨_, its, n, r', _, e⟩ := Inv.lstR I (same_ls hs q)
    obtain ⟨as, ra⟩ := readsAll_of I hs l h r'
    unfold toPy
    exact ⟨_, .list e rfl rfl (by simpa using ra)⟩
theorem readsAll_of (I : Inv X pins σ H s) (hs : Same G H) : ∀ {xs : List V} {ds : List D} {us : List Value}, RepL X.K G xs ds → plainDs ds = true → Vals xs us → ∃ as, ReadsAll s.heap us (toPys ds) as
  | _, _, _, .nil, _, .nil => by unfold toPys; exact ⟨_, .nil⟩
  | _, _, _, .cons q l, h, .cons r rs => by
    unfold plainDs at h
    rw [Bool.and_eq_true] at h
    obtain ⟨as, ra⟩ := reads_of I hs q h.1 r
    obtain ⟨bs, rb⟩ := readsAll_of I hs l h.2 rs
    unfold toPys
    exact ⟨_, .cons ra rb⟩
end
end
section
variable {X : Cx}
def rEqD (K : PySem.W.Frag) (neg : Bool) : R2 := fun x y H Q => ∃ G a b, Same G H ∧ Rep K G x a ∧ Rep K G y b ∧ depD a ≤ 100 ∧ plainD a = true ∧ plainD b = true ∧ Q (.bl (if neg then !eqD a b else eqD a b)) H
theorem op_eqD (hu : X.A.units + 150 < cLine) : OpR X (compareOp .Eq) (rEqD X.K false) := by
  intro pins s σ H x y v u Q I rx ry h
  obtain ⟨G, a, b, hs, ra, rb, hd, pa, pb, q⟩ := h
  obtain ⟨as, r1⟩ := reads_of I hs ra pa rx
  obtain ⟨bs, r2⟩ := reads_of I hs rb pb ry
  refine SeqAt.compareEq_reads r1 r2 (toPy_ok a pa) (toPy_ok b pb) ?_ ⟨.bl _, H, I, rfl, ?_⟩
  · rw [toPy_depth]
    have := Nat.min_le_left (depD a) (toPy b).depth
    omega
  · rw [toPy_eqv a b pa pb]; exact q
theorem op_neD (hu : X.A.units + 150 < cLine) : OpR X (compareOp .NotEq) (rEqD X.K true) := by
  intro pins s σ H x y v u Q I rx ry h
  obtain ⟨G, a, b, hs, ra, rb, hd, pa, pb, q⟩ := h
  obtain ⟨as, r1⟩ := reads_of I hs ra pa rx
  obtain ⟨bs, r2⟩ := reads_of I hs rb pb ry
  refine SeqAt.compareNe_reads r1 r2 (toPy_ok a pa) (toPy_ok b pb) ?_ ⟨.bl _, H, I, rfl, ?_⟩
  · rw [toPy_depth]
    have := Nat.min_le_left (depD a) (toPy b).depth
    omega
  · rw [toPy_eqv a b pa pb]; exact q
theorem o_eqD {K : PySem.W.Frag} (neg : Bool) : SndO K (rEqD K neg) (eqOp neg) := by
  intro M G0 H0 G H σ δ x y d1 d2 s Q S r1 r2 e k
  unfold eqOp at e
  split at e
  · rename_i h
    cases e
    rw [Bool.and_eq_true, Bool.and_eq_true] at h
    exact ⟨G, d1, d2, S.gh, r1, r2, of_decide_eq_true h.1.1, h.1.2, h.2, k _ G H S (Gr.refl ..) (.val (.bl _))⟩
  · cases e
theorem q_eq (hu : X.A.units + 150 < cLine) : QR X .Eq (eqOp false) := ⟨_, op_eqD hu, o_eqD false⟩
theorem q_ne (hu : X.A.units + 150 < cLine) : QR X .NotEq (eqOp true) := ⟨_, op_neD hu, o_eqD true⟩
theorem hu_of2 {A : Around} {k : Nat} (hr : Room k A) : A.units + 150 < cLine := by have := hr.un; omega
def rInD (K : PySem.W.Frag) (neg : Bool) : R2 := fun x y H Q => ∃ G a ds, Same G H ∧ Rep K G x a ∧ (Rep K G y (.lst ds) ∨ Rep K G y (.tup ds)) ∧ depD a ≤ 100 ∧ plainD a = true ∧ plainDs ds = true ∧ Q (.bl (if neg then !ds.any (fun z => eqD z a) else ds.any (fun z => eqD z a))) H
theorem any_eqv {a : D} (pa : plainD a = true) : ∀ ds : List D, plainDs ds = true → ((toPys ds).any fun y => PyData.eqv y (toPy a)) = ds.any fun z => eqD z a
  | [], _ => by unfold toPys; rfl
  | d :: ds, h => by
    unfold plainDs at h
    rw [Bool.and_eq_true] at h
    unfold toPys
    rw [List.any_cons, List.any_cons, toPy_eqv d a h.1 pa, any_eqv pa ds h.2]
theorem op_inD (hu : X.A.units + 150 < cLine) : OpR X (compareOp .In) (rInD X.K false) := by
  intro pins s σ H x y v u Q I rx ry h
  obtain ⟨G, a, ds, hs, ra, rb, hd, pa, pb, q⟩ := h
  obtain ⟨as, r1⟩ := reads_of I hs ra pa rx
  have hu' : X.A.units + 1 + min (PyData.depthAll (toPys ds)) (toPy a).depth < cLine := by
    rw [toPy_depth]
    have := Nat.min_le_right (PyData.depthAll (toPys ds)) (depD a)
    omega
  rcases rb with rb | rb
  · obtain ⟨bs, r2⟩ := reads_of (d := .lst ds) I hs rb (by unfold plainD; exact pb) ry
    unfold toPy at r2
    exact SeqAt.in_list_reads r2 r1 (toPys_ok ds pb) (toPy_ok a pa) hu' ⟨.bl _, H, I, rfl, by rw [any_eqv pa ds pb]; exact q⟩
  · obtain ⟨bs, r2⟩ := reads_of (d := .tup ds) I hs rb (by unfold plainD; exact pb) ry
    unfold toPy at r2
    exact SeqAt.in_tuple_reads r2 r1 (toPys_ok ds pb) (toPy_ok a pa) hu' ⟨.bl _, H, I, rfl, by rw [any_eqv pa ds pb]; exact q⟩
theorem o_inD {K : PySem.W.Frag} (neg : Bool) : SndO K (fun x y H Q => rInD K neg x y H Q ∨ ∃ i j, x = .str i ∧ y = .str j ∧ Q (.bl (if neg then !(!(Builtin.Str.occurrences j i 0 j.length 1).isEmpty) else !(Builtin.Str.occurrences j i 0 j.length 1).isEmpty)) H) (inOp neg) := by
  intro M G0 H0 G H σ δ x y d1 d2 s Q S r1 r2 e k
  unfold inOp at e
  split at e
  · split at e
    · rename_i h
      cases e
      rw [Bool.and_eq_true, Bool.and_eq_true] at h
      exact .inl ⟨G, d1, _, S.gh, r1, .inl r2, of_decide_eq_true h.1.1, h.1.2, h.2, k _ G H S (Gr.refl ..) (.val (.bl _))⟩
    · cases e
  · split at e
    · rename_i h
      cases e
      rw [Bool.and_eq_true, Bool.and_eq_true] at h
      exact .inl ⟨G, d1, _, S.gh, r1, .inr r2, of_decide_eq_true h.1.1, h.1.2, h.2, k _ G H S (Gr.refl ..) (.val (.bl _))⟩
    · cases e
  · split at e
    · cases e
      cases rep_str r1
      cases rep_str r2
      exact .inr ⟨_, _, rfl, rfl, k _ G H S (Gr.refl ..) (.val (.bl _))⟩
    · cases e
  · cases e
theorem q_in (hu : X.A.units + 150 < cLine) : QR X .In (inOp false) := ⟨_, (op_inD hu).or op_in_str, o_inD false⟩
end
end L4


namespace L4
open PySem PySem.Spec PyProof.Rows L2
theorem bo_len : bootBuiltins "len" = some (.builtin "len") := by decide +kernel
theorem bo_isinstance : bootBuiltins "isinstance" = some (.builtin "isinstance") := by decide +kernel
theorem bo_max : bootBuiltins "max" = some (.builtin "max") := by decide +kernel
theorem bo_min : bootBuiltins "min" = some (.builtin "min") := by decide +kernel
theorem bo_int : bootBuiltins "int" = some (.type "int") := by decide +kernel
theorem bo_str : bootBuiltins "str" = some (.type "str") := by decide +kernel
theorem bo_list : bootBuiltins "list" = some (.type "list") := by decide +kernel
theorem bo_bool : bootBuiltins "bool" = some (.type "bool") := by decide +kernel
theorem bo_tuple : bootBuiltins "tuple" = some (.type "tuple") := by decide +kernel
section
variable {X : Cx} {a b c e : Expr} {es : List Expr} {f1 f2 f3 : FE} {fl : FL} {pos p : Pos} {c1 c2 : FT} {x : Str}
/-! ### isinstance against a built-in type -/
def rIsi (K : PySem.W.Frag) : List V → Hp → VK → Prop := fun xs H Q => ∃ G d T v k, xs = [v, .ty T] ∧ Same G H ∧ Rep K G v d ∧ isiT d T = some k ∧ Q (.bl k) H
theorem call_isi : CallR X (.builtin "isinstance") (rIsi X.K) := by
  intro pins s σ H xs us Q I r h
  obtain ⟨G, d, T, v, k, rfl, hs, rd, hk, q⟩ := h
  obtain ⟨u, w', rfl, ru, rw'⟩ := vals2 r
  cases rw'
  have hq : ∀ b, b = k → EP X pins σ Q (.bool b) s := fun b e => ⟨.bl k, H, I, by rw [e]; rfl, q⟩
  have hq' : ∀ b, b = k → EP X pins σ Q (.bool b) { s with toks := s.toks + 1 } := fun b e => ⟨.bl k, H, I.tok _, by rw [e]; rfl, q⟩
  cases d with
  | non =>
    cases rep_non rd
    cases ru
    simp only [isiT] at hk
    split at hk
    · rename_i e; cases hk
      rcases e with rfl | rfl | rfl | rfl | rfl
      · exact IsiPair.NoneType_int (hq' _ rfl)
      · exact IsiPair.NoneType_bool (hq' _ rfl)
      · exact IsiPair.NoneType_str (hq' _ rfl)
      · exact IsiPair.NoneType_list (hq' _ rfl)
      · exact IsiPair.NoneType_tuple (hq' _ rfl)
    · cases hk
  | ty n => cases hk
  | dct _ _ => cases hk
  | exc _ => cases hk
  | int i =>
    cases rep_int rd
    obtain ⟨t, rfl⟩ := ru
    simp only [isiT] at hk
    split at hk
    · rename_i e; subst e; cases hk; exact IsiPair.int_int (hq _ rfl)
    · split at hk
      · rename_i e; cases hk
        rcases e with rfl | rfl | rfl | rfl
        · exact IsiPair.int_bool (hq' _ rfl)
        · exact IsiPair.int_str (hq' _ rfl)
        · exact IsiPair.int_list (hq' _ rfl)
        · exact IsiPair.int_tuple (hq' _ rfl)
      · cases hk
  | bl i =>
    cases rep_bl rd
    cases ru
    simp only [isiT] at hk
    split at hk
    · rename_i e; cases hk
      rcases e with rfl | rfl
      · exact IsiPair.bool_int (hq _ rfl)
      · exact IsiPair.bool_bool (hq _ rfl)
    · split at hk
      · rename_i e; cases hk
        rcases e with rfl | rfl | rfl
        · exact IsiPair.bool_str (hq' _ rfl)
        · exact IsiPair.bool_list (hq' _ rfl)
        · exact IsiPair.bool_tuple (hq' _ rfl)
      · cases hk
  | str i =>
    cases rep_str rd
    obtain ⟨t, rfl⟩ := ru
    simp only [isiT] at hk
    split at hk
    · rename_i e; subst e; cases hk; exact IsiPair.str_str (hq _ rfl)
    · split at hk
      · rename_i e; cases hk
        rcases e with rfl | rfl | rfl | rfl
        · exact IsiPair.str_int (hq' _ rfl)
        · exact IsiPair.str_bool (hq' _ rfl)
        · exact IsiPair.str_list (hq' _ rfl)
        · exact IsiPair.str_tuple (hq' _ rfl)
      · cases hk
  | tup ds =>
    obtain ⟨l, vs, rfl, hq0, _⟩ := rep_tup rd
    cases ru
    obtain ⟨its, _, ⟨o, ho, hc, n, hd⟩, _⟩ := I.tuple (same_sqT hs hq0)
    simp only [isiT] at hk
    split at hk
    · rename_i e; subst e; cases hk; exact IsiPair.tuple_tuple ho hc (hq _ rfl)
    · split at hk
      · rename_i e; cases hk
        rcases e with rfl | rfl | rfl | rfl
        · exact IsiPair.tuple_int ho hc (hq' _ rfl)
        · exact IsiPair.tuple_bool ho hc (hq' _ rfl)
        · exact IsiPair.tuple_str ho hc (hq' _ rfl)
        · exact IsiPair.tuple_list ho hc (hq' _ rfl)
      · cases hk
  | lst ds =>
    obtain ⟨l, vs, rfl, hq0, _⟩ := rep_lst rd
    cases ru
    obtain ⟨_, its, n, _, _, ho⟩ := Inv.lstR I (same_ls hs hq0)
    simp only [isiT] at hk
    split at hk
    · rename_i e; subst e; cases hk; exact IsiPair.list_list ho rfl (hq _ rfl)
    · split at hk
      · rename_i e; cases hk
        rcases e with rfl | rfl | rfl | rfl
        · exact IsiPair.list_int ho rfl (hq' _ rfl)
        · exact IsiPair.list_bool ho rfl (hq' _ rfl)
        · exact IsiPair.list_str ho rfl (hq' _ rfl)
        · exact IsiPair.list_tuple ho rfl (hq' _ rfl)
      · cases hk
theorem c_isi {K : PySem.W.Frag} : SndN K (rIsi K) (g2 isiD) := by
  intro M G0 H0 G H σ δ xs ds s Q S r e k
  unfold g2 at e
  split at e
  · obtain ⟨v, y, rfl, r1, r2⟩ := repL2 r
    unfold isiD at e
    split at e
    · rename_i T
      obtain ⟨b, e1, e2⟩ := Option.map_eq_some_iff.mp e
      subst e2
      have ey : y = .ty T := by cases r2; rfl
      subst ey
      exact ⟨G, _, T, v, b, rfl, S.gh, r1, e1, k _ G H S (Gr.refl ..) (.val (.bl _))⟩
    · cases e
  · cases e
section
variable (he : starEach (e :: es) X.env = (false, eval e X.env) :: starEach es X.env := by rfl) (hpl : (backTo pos (starEach es X.env)).any (·.1) = false := by rfl)
include he hpl
end
theorem de_len (hg : Gl X "len") (hm : X.mg "len" = none) (ha : DA X (e :: es) fl) (he : starEach (e :: es) X.env = (false, eval e X.env) :: starEach es X.env := by rfl) (hpl : (backTo pos (starEach es X.env)).any (·.1) = false := by rfl) :
    DE X (.Call (.Name "len" p) (e :: es) [] pos) (fArgs (g1 lenD) fl) := de_blt call_len c_len hg hm bo_len ha (by decide) (by decide) he hpl
theorem de_isi (hg : Gl X "isinstance") (hm : X.mg "isinstance" = none) (ha : DA X (e :: es) fl) (he : starEach (e :: es) X.env = (false, eval e X.env) :: starEach es X.env := by rfl) (hpl : (backTo pos (starEach es X.env)).any (·.1) = false := by rfl) :
    DE X (.Call (.Name "isinstance" p) (e :: es) [] pos) (fArgs (g2 isiD) fl) := de_blt call_isi c_isi hg hm bo_isinstance ha (by decide) (by decide) he hpl
theorem de_max (hc : X.calm = true) (hg : Gl X "max") (hm : X.mg "max" = none) (ha : DA X (e :: es) fl) (he : starEach (e :: es) X.env = (false, eval e X.env) :: starEach es X.env := by rfl) (hpl : (backTo pos (starEach es X.env)).any (·.1) = false := by rfl) :
    DE X (.Call (.Name "max" p) (e :: es) [] pos) (fArgs (g2 maxD) fl) := de_blt (call_max2 hc) (c_ii fun _ _ _ => .int _) hg hm bo_max ha (by decide) (by decide) he hpl
theorem de_min (hc : X.calm = true) (hg : Gl X "min") (hm : X.mg "min" = none) (ha : DA X (e :: es) fl) (he : starEach (e :: es) X.env = (false, eval e X.env) :: starEach es X.env := by rfl) (hpl : (backTo pos (starEach es X.env)).any (·.1) = false := by rfl) :
    DE X (.Call (.Name "min" p) (e :: es) [] pos) (fArgs (g2 minD) fl) := de_blt (call_min2 hc) (c_ii fun _ _ _ => .int _) hg hm bo_min ha (by decide) (by decide) he hpl
theorem de_list_ (hg : Gl X "list") (hm : X.mg "list" = none) (ha : DA X (e :: es) fl) (he : starEach (e :: es) X.env = (false, eval e X.env) :: starEach es X.env := by rfl) (hpl : (backTo pos (starEach es X.env)).any (·.1) = false := by rfl) :
    DE X (.Call (.Name "list" p) (e :: es) [] pos) (fArgs (g1 listD) fl) := de_tyc call_list_of c_list hg hm bo_list ha (by decide) (by decide) he hpl
theorem de_ty {T : String} (hg : Gl X x) (hm : X.mg x = none) (hv : bootBuiltins x = some (.type T)) (hn : x ≠ "__name__" := by decide) (hd : (x == ("__debug__" : Str)) = false := by decide) : DE X (.Name x pos) (fC (.ty T)) :=
  ⟨_, pe_bltn hg hm hv (v := .ty T) rfl hn hd, snd_C fun _ => .ty T⟩
/-! ### slices -/
def DP (X : Cx) (e : Option Expr) (f : FO) : Prop := ∃ t, PO X e t ∧ SndP X t f
theorem dp_none : DP X none fNoP := ⟨_, po_none, snd_noP⟩
theorem dp_some (h : DE X e f1) : DP X (some e) (fPart f1) := let ⟨_, a1, a2⟩ := h; ⟨_, po_some a1, snd_part a2⟩
end
/-! ### statements -/
section
variable {X : Cx} {e o : Expr} {es : List Expr} {fe : FE} {fl : FL} {pos p : Pos} {ft : FT} {st : Stmt} {rest : List Stmt} {F1 F2 : FS}
theorem db_nil : DB X [] fNext := ⟨_, pss_nil, snd_next⟩
theorem db_cons (h1 : DS X st F1) (h2 : DB X rest F2) : DB X (st :: rest) (fSeq F1 F2) := let ⟨_, a1, a2⟩ := h1; let ⟨_, b1, b2⟩ := h2; ⟨_, pss_cons a1 b1, snd_seq a2 b2⟩
theorem db_one (h1 : DS X st F1) : DB X [st] F1 := let ⟨_, a1, a2⟩ := h1; ⟨_, pss_one a1, a2⟩
theorem ds_ret (h : DE X e fe) : DS X (.Return (some e) pos) (fRet fe) := let ⟨_, a1, a2⟩ := h; ⟨_, ps_ret a1, snd_ret a2⟩
theorem ds_retV (i : Nat) {x : Str} (hN : X.N[i]? = some x := by rfl) (hv : Vis X.env.scope x := by first | exact Or.inl rfl | exact Or.inr (Or.inl rfl) | exact Or.inr (Or.inr rfl)) (hd : (x == ("__debug__" : Str)) = false := by decide) (hcd : (x == ("__classdict__" : Str)) = false := by decide) :
    DS X (.Return (some (.Name x p)) pos) (fRetV i) := ⟨_, ps_ret (pv i hN hv hd hcd), snd_retV i⟩
theorem ds_if {c : Expr} {a b : List Stmt} (hc : DT X c ft) (h1 : DB X a F1) (h2 : DB X b F2) : DS X (.If c a b pos) (fIf ft F1 F2) := let ⟨_, y1, y2⟩ := hc; let ⟨_, a1, a2⟩ := h1; let ⟨_, b1, b2⟩ := h2; ⟨_, ps_if y1 a1 b1, snd_if y2 a2 b2⟩
theorem ds_expr (h : DE X e fe) (hs : swapsWith e none pos.line X.env = pure false := by rfl) : DS X (.Expr e pos) (fDrop fe) := let ⟨_, a1, a2⟩ := h; ⟨_, ps_expr a1 hs, snd_drop a2⟩
theorem ds_set {i : Nat} {x : Str} {pos' : Pos} (hN : X.N.Nodup) (hi : X.N[i]? = some x) (hx : Loc X.env.scope x) (h : DE X e fe) (hs : swapsWith e (some (.Name x pos')) pos.line X.env = pure false := by rfl) (hf : X.fn x = true ∨ X.env.scope.names.lookup x = some .local := by first | exact .inl rfl | exact .inr rfl | assumption) :
    DS X (.Assign [.Name x pos'] e pos) (fAsg i fe) := let ⟨_, a1, a2⟩ := h; ⟨_, ps_set hN hi hx a1 hs hf, snd_asg a2⟩
theorem de_append (i : Nat) {x : Str} {apos cpos np : Pos} (h : DA X (e :: es) fl) (hN : X.N[i]? = some x := by rfl) (hv : Vis X.env.scope x := by first | exact Or.inl rfl | exact Or.inr (Or.inl rfl) | exact Or.inr (Or.inr rfl)) (hd : (x == ("__debug__" : Str)) = false := by decide) (hcd : (x == ("__classdict__" : Str)) = false := by decide)
    (hbase : attributeBase (.Name x np) "append" X.env (eval (.Name x np) X.env) = eval (.Name x np) X.env := by rfl)
    (hfew : ((backTo cpos (starEach (e :: es) X.env)).all (fun x => !x.1) && (backToKw cpos (keywordEach [] X.env)).all (fun x => x.1.isSome)
      && decide ((e :: es).length + ([] : List Keyword).length + (if ([] : List Keyword).isEmpty then 0 else 1) < 30)) = true := by rfl)
    (hline : (apos.endLine == cpos.line) = true := by rfl) (hs : starEach (e :: es) X.env = (false, eval e X.env) :: starEach es X.env := by rfl) (hplain : (backTo cpos (starEach es X.env)).any (·.1) = false := by rfl) :
    DE X (.Call (.Attribute (.Name x np) "append" apos) (e :: es) [] cpos) (fMut i gAppend fl) :=
  let ⟨_, a1, a2⟩ := h; ⟨_, pe_bm PySem.F.plainAttrs_list PySem.F.slot_list_append PySem.F.type_list_append mt_append (pv i hN hv hd hcd) a1 hbase hfew hline hs hplain, snd_mut m_append a2⟩
end
end L4


namespace L4
open PySem PySem.Spec PyProof.Rows L2
section
variable {X : Cx} {pins : List (Addr × Obj)} {σ : L2.St} {H : Hp} {s : Shared}
theorem Inv.passed {h' : Heap} {ch : List Addr} (I : Inv X pins σ H s) (hch : ∀ b ∈ ch, X.s₀.heap.get? b = none ∧ H b = none ∧ b ≠ X.env.locals ∧ (∀ x c, X.env.cells.lookup x = some c → c ≠ b) ∧ ∀ p ∈ X.pn ++ pins, p.1 ≠ b)
    (keep : ∀ b o, b ∉ frs X.stack → b ∉ ch → s.heap.get? b = some o → h'.get? b = some o) (slot : ∀ b o, b ∈ frs X.stack → s.heap.get? b = some o → ∃ sl, h'.get? b = some { o with slots := sl }) (hex : X.ex = []) :
    Inv X pins σ H { s with heap := h' } := by
  have any : ∀ b o, b ∉ ch → s.heap.get? b = some o → ∃ sl, h'.get? b = some { o with slots := sl } := fun b o hc e => by
    by_cases hb : b ∈ frs X.stack
    · exact slot b o hb e
    · exact ⟨o.slots, keep b o hb hc e⟩
  have neC : ∀ b o, X.s₀.heap.get? b = some o → b ∉ ch := fun b o e hb => by rw [(hch b hb).1] at e; cases e
  have fsub : ∀ b, b ≠ X.env.locals → b ∉ X.fs → b ∉ frs X.stack := fun b h1 h2 z => (List.mem_cons.mp (I.stkSub b z)).elim h1 h2
  have neL : ∀ b o, X.s₀.heap.get? b = some o → b ≠ X.env.locals := fun b o e => Nat.ne_of_lt (Nat.lt_of_lt_of_le (Heap.lt_size e) I.ok.above)
  have cellK : ∀ x c v, X.env.cells.lookup x = some c → s.heap.IsCell c v → h'.IsCell c v := fun x c v e ⟨o, ho, hd⟩ => by
    obtain ⟨sl, q⟩ := any c o (fun z => (hch c z).2.2.2.1 x c e rfl) ho
    exact ⟨_, q, hd⟩
  have inEx : ∀ b : Addr, b ∉ X.ex := fun b => by rw [hex]; simp
  refine ⟨I.ok, I.os, I.bare, ⟨fun b o e n hb hx => ?_, fun b o e n hb hx => ?_, I.base.free, fun b o e hx => ?_, I.base.tups, I.base.frzs, I.base.tbls⟩, ?_, fun x c e => ?_, I.free, I.freeC, fun p hp => ?_, fun a o e => ?_, I.len⟩
  · exact keep b o (fsub b (neL b o e) hb) (neC b o e) (I.base.keep b o e n hb hx)
  · obtain ⟨sl, e1⟩ := I.base.slot b o e n hb hx
    obtain ⟨sl', e2⟩ := any b _ (neC b o e) e1
    exact ⟨sl', e2⟩
  · obtain ⟨o', e1⟩ := I.base.there b o e hx
    obtain ⟨sl, e2⟩ := any b o' (neC b o e) e1
    exact ⟨_, e2⟩
  · obtain ⟨m, hn, hl⟩ := I.loc
    refine ⟨m, ?_, fun i x v e1 e2 e3 => ?_⟩
    · obtain ⟨o, es, ep, ho, r⟩ := hn
      obtain ⟨sl, q⟩ := any _ o (fun z => (hch _ z).2.2.1 rfl) ho
      exact ⟨_, es, ep, q, r⟩
    · obtain ⟨u, r, l⟩ := hl i x v e1 e2 e3
      refine ⟨u, r, ?_⟩
      rcases l with l | ⟨k, c, e, z⟩
      · exact .inl l
      · exact .inr ⟨k, c, e, cellK x c _ e z⟩
  · obtain ⟨v, z⟩ := I.cell x c e
    exact ⟨v, cellK x c v e z⟩
  · obtain ⟨e, n, ne, nf, d⟩ := I.pin p hp
    exact ⟨keep p.1 p.2 (fsub _ ne nf) (fun z => (hch p.1 z).2.2.2.2 p hp rfl) e, n, ne, nf, d⟩
  · refine (I.hok a o e).stay (fun b u hb q => keep b u ?_ ?_ q) (fun _ q => q) fun _ _ q => q
    · intro z
      have n := I.stkFree b z
      rcases hb with rfl | hb
      · rw [e] at n; cases n
      · rw [hb] at n; cases n
    · intro z
      have n := (hch b z).2.1
      rcases hb with rfl | hb
      · rw [e] at n; cases n
      · rw [hb] at n; cases n
theorem frames_hide {h base B : Heap} : ∀ {l : List Env}, h.FunFrames base l → (∀ b ∈ frs l, B.get? b = none) → h.FunFrames B l
  | [], _, _ => trivial
  | env :: l, hl, hb => by
    obtain ⟨hk, ⟨L, o, hf, hn, ho, hd⟩, hr⟩ := hl
    have hin : ∀ b ∈ frs l, b ∈ frs (env :: l) := fun b hb => by unfold frs at hb ⊢; rw [List.filterMap_cons, hf]; exact List.mem_cons_of_mem _ hb
    exact ⟨hk, ⟨L, o, hf, hb L (by unfold frs; rw [List.filterMap_cons, hf]; exact List.mem_cons_self), ho, hd⟩, frames_hide hr fun b h => hb b (hin b h)⟩
theorem rec_ne {b : Addr} {o : Obj} {vs : Array Value} (I : Inv X pins σ H s) (e : s.heap.get? b = some o) (d : o.data = .fields vs) : b ≠ X.env.locals ∧ (∀ x c, X.env.cells.lookup x = some c → c ≠ b) ∧ b ∉ frs X.stack := by
  refine ⟨fun z => ?_, fun x c hc z => ?_, fun z => ?_⟩
  · obtain ⟨m, ⟨o', es, ep, ho, hd, _⟩, _⟩ := I.loc
    subst z; rw [e] at ho; cases ho; rw [d] at hd; cases hd
  · obtain ⟨v, o', ho, hd⟩ := I.cell x c hc
    subst z; rw [e] at ho; cases ho; rw [d] at hd; cases hd
  · obtain ⟨_, o', ho, hnf⟩ := I.stack.mem z
    rw [e] at ho; cases ho; exact hnf vs d
theorem note_first {M : Model} {A : Around} {E : Value → Shared → Prop} {base : Heap} {env : Env} {outer : List Env} {L e : Addr} {oe : Obj} {vs : Array Value} {Q : Unit → Shared → Prop}
    (fr : A.frames = some (env :: outer)) (ff : s.heap.FunFrames base (env :: outer)) (hf : env.frame = some L) (ge : s.heap.get? e = some oe) (sub : base.StaysIn s.heap) (new : base.get? e = none) (dat : oe.data = .fields vs) (h1 : vs[1]? = some .none)
    (q : ∀ h', Heap.Left base (env :: outer) e oe.cls s.heap h' → Q () { s with heap := h' }) : wpAny M A (noteFrame (.ref e) env) (fun _ s' => wpAny M A (setFlight (.ref e) none) Q E s') E s := by
  have lt := (Array.getElem?_eq_some_iff.mp h1).1
  unfold noteFrame
  rw [hf]
  wp_walk using wpAny_newEntry fr ff hf ge sub new dat lt, wpAny_field ge dat h1
  exact q
theorem note_next {M : Model} {A : Around} {E : Value → Shared → Prop} {base : Heap} {env : Env} {outer : List Env} {L e T : Addr} {oe oT : Obj} {vs ts : Array Value} {Q : Unit → Shared → Prop}
    (fr : A.frames = some (env :: outer)) (ff : s.heap.FunFrames base (env :: outer)) (hf : env.frame = some L) (ge : s.heap.get? e = some oe) (sub : base.StaysIn s.heap) (new : base.get? e = none) (dat : oe.data = .fields vs) (h1 : vs[1]? = some (.ref T))
    (newT : base.get? T = none) (two : T ≠ e) (gT : s.heap.get? T = some oT) (datT : oT.data = .fields ts) (h3 : ts[3]? = some .none)
    (q : ∀ h', Heap.Left base (env :: outer) e oe.cls s.heap h' → Q () { s with heap := h' }) : wpAny M A (noteFrame (.ref e) env) (fun _ s' => wpAny M A (setFlight (.ref e) none) Q E s') E s := by
  have lt := (Array.getElem?_eq_some_iff.mp h1).1
  have lt3 := (Array.getElem?_eq_some_iff.mp h3).1
  let t : Shared := { s with heap := s.heap.update T (Obj.mapFields (·.setIfInBounds 3 Value.none)) }
  have rest : ∀ b, b ≠ T → t.heap.get? b = s.heap.get? b := fun b n => Heap.get?_update_other _ _ (Ne.symm n)
  have other : ∀ {b : Addr} {o : Obj}, s.heap.get? b = some o → (∀ vs, o.data ≠ .fields vs) → t.heap.get? b = some o := fun {b o} g no => (rest b fun z => by subst z; exact no ts (Option.some.inj (gT.symm.trans g) ▸ datT)).trans g
  have ff' : t.heap.FunFrames base (env :: outer) := ff.of_keeps fun b o g no => ⟨o, other g no, rfl⟩
  have ge' : t.heap.get? e = some oe := (rest e (Ne.symm two)).trans ge
  have sub' : base.StaysIn t.heap := fun b o g => (rest b fun z => by subst z; exact absurd (newT.symm.trans g) nofun).trans (sub b o g)
  unfold noteFrame
  rw [hf]
  wp_walk using wpAny_newEntry (s := t) fr ff' hf ge' sub' new dat lt, wpAny_field ge dat h1, wpAny_field gT datT h3, wpAny_setField gT datT lt3
  exact fun h' ⟨x1, x2, x3, x4⟩ => q h' ⟨x1, x2, x3, fun b o g no => x4 b o (other g no) no⟩
theorem air_note {A : Around} {e : Addr} {C : Value} (I : Inv X pins σ H s) (a : Air (New X pins) H s.heap e C) (fr : A.frames = some (X.env :: X.outer)) (hs : X.stack = X.env :: X.outer) (hf : X.env.frame = some X.env.locals) (hex : X.ex = []) {Q : Unit → Shared → Prop} {E : Value → Shared → Prop}
    (k : ∀ h', Inv X pins σ H { s with heap := h' } → Air (New X pins) H h' e C → Q () { s with heap := h' }) : wpAny (model X.prog X.w) A (noteFrame (.ref e) X.env) (fun _ s' => wpAny (model X.prog X.w) A (setFlight (.ref e) none) Q E s') E s := by
  obtain ⟨oe, vs, he, hC, hd, h1⟩ := a.ex
  obtain ⟨neE1, neE2, neE3⟩ := rec_ne I he hd
  -- what may change: e and its newest entry
  have core : ∀ (ch : List Addr), e ∈ ch → (∀ b ∈ ch, New X pins b ∧ H b = none ∧ ∃ o vs, s.heap.get? b = some o ∧ o.data = .fields vs) →
      ∀ h', Heap.Left (PySem.W.hideAll s.heap (frs X.stack ++ ch)) (X.env :: X.outer) e oe.cls s.heap h' → Q () { s with heap := h' } := fun ch hec hch h' ⟨x1, _, x3, x4⟩ => by
    have I' : Inv X pins σ H { s with heap := h' } := by
      refine Inv.passed (ch := ch) I (fun b hb => ?_) (fun b o hb hc q => x1 b o (PySem.W.hideAll_get _ q fun z => (List.mem_append.mp z).elim hb hc)) (fun b o hb q => ?_) hex
      · obtain ⟨n, f, o, ws, q, d⟩ := hch b hb
        obtain ⟨y1, y2, _⟩ := rec_ne I q d
        exact ⟨n.1 (by rw [hex]; simp), f, y1, y2, n.2⟩
      · obtain ⟨_, o', ho, hnf⟩ := I.stack.mem hb
        rw [q] at ho; cases ho
        exact x4 b o q hnf
    refine k h' I' ⟨a.n, a.f, ?_⟩
    obtain ⟨oe', vs', T, oT, ts, y1, y2, y3, y4, y5, y6, y7, y8, y9⟩ := x3
    refine ⟨oe', vs', y1, y2.trans hC, y3, .inr ⟨T, oT, ts, y4, ?_, ?_, y6, y7, y8, y9⟩⟩
    · cases q : s.heap.get? T with
      | some o =>
        by_cases hT : T ∈ frs X.stack ++ ch
        · rcases List.mem_append.mp hT with z | z
          · obtain ⟨_, o', ho, hnf⟩ := I'.stack.mem z
            have ho' : h'.get? T = some o' := ho
            rw [y7] at ho'; cases ho'
            exact absurd y8 (hnf ts)
          · exact (hch T z).1
        · rw [PySem.W.hideAll_get _ q hT] at y5; cases y5
      | none =>
        refine ⟨fun _ => ?_, fun p hp z => ?_⟩
        · cases q' : X.s₀.heap.get? T with
          | none => rfl
          | some o =>
            obtain ⟨o', z⟩ := I.base.there T o q' (by rw [hex]; simp)
            rw [q] at z; cases z
        · have := (I.pin p hp).1
          rw [z, q] at this; cases this
    · cases q : H T with
      | none => rfl
      | some o =>
        obtain ⟨ob, z⟩ : ∃ ob, s.heap.get? T = some ob := by
          have hlt := I.hok.lt q
          cases z : s.heap.get? T with
          | some ob => exact ⟨ob, rfl⟩
          | none =>
            -- a tracked thing is there
            obtain ⟨ob, z'⟩ : ∃ ob, ({ s with heap := h' } : Shared).heap.get? T = some ob := ⟨oT, y7⟩
            exact absurd z (by
              have hok := I.hok T o q
              intro z
              cases o with
              | lst xs => obtain ⟨_, its, n, _, e⟩ := hok; rw [z] at e; cases e
              | tup xs => obtain ⟨_, its, _, ob, e, _⟩ := hok; rw [z] at e; cases e
              | dK kvs => obtain ⟨_, _, _, _, ob, _, _, e, _⟩ := hok; rw [z] at e; cases e
              | dT kvs => obtain ⟨_, _, _, _, ob, _, _, e, _⟩ := hok; rw [z] at e; cases e
              | set S n => obtain ⟨ob, _, _, _, e, _⟩ := hok; rw [z] at e; cases e
              | ins C dx fs => obtain ⟨_, _, _, e, _⟩ := hok; rw [z] at e; cases e
              | own y => obtain ⟨ob, e⟩ := hok; rw [z] at e; cases e
              | xd fs => obtain ⟨mA, ⟨od, _, _, e, _⟩, _⟩ := hok; rw [z] at e; cases e
              | rng lo hi => obtain ⟨_, _, _, e⟩ := hok; rw [z] at e; cases e
              | frz ob u => obtain ⟨e, _⟩ := hok; rw [z] at e; cases e
              | tbl ps => have e : s.heap.get? T = some { cls := .none, data := .fields ps } := hok; rw [z] at e; cases e
              | met f y => have e : s.heap.get? T = some (PySem.W.methodObj (.ref f) (.ref y)) := hok; rw [z] at e; cases e
              | ext φ => obtain ⟨_, ⟨ob, e⟩, _⟩ := hok; rw [z] at e; cases e)
        have hT : T ∉ frs X.stack ++ ch := fun hT => by
          rcases List.mem_append.mp hT with z | z
          · rw [I.stkFree T z] at q; cases q
          · rw [(hch T z).2.1] at q; cases q
        rw [PySem.W.hideAll_get _ z hT] at y5; cases y5
  have fl : ∀ ch : List Addr, s.heap.FunFrames (PySem.W.hideAll s.heap (frs X.stack ++ ch)) (X.env :: X.outer) := fun ch => by
    rw [← hs]
    exact frames_hide I.stack fun b hb => PySem.W.hideAll_none _ (List.mem_append_left _ hb)
  have st : ∀ ch : List Addr, (PySem.W.hideAll s.heap (frs X.stack ++ ch)).StaysIn s.heap := fun ch b o q => PySem.W.of_hideAll _ q
  rcases h1 with h1 | ⟨T, oT, ts, h1, nT, fT, hTe, hT, hdT, h3⟩
  · refine note_first (base := PySem.W.hideAll s.heap (frs X.stack ++ [e])) fr (fl _) hf he (st _) (PySem.W.hideAll_none _ (by simp)) hd h1 (core [e] (by simp) fun b hb => ?_)
    have : b = e := by simpa using hb
    subst this
    exact ⟨a.n, a.f, oe, vs, he, hd⟩
  · refine note_next (base := PySem.W.hideAll s.heap (frs X.stack ++ [e, T])) fr (fl _) hf he (st _) (PySem.W.hideAll_none _ (by simp)) hd h1 (PySem.W.hideAll_none _ (by simp)) hTe hT hdT h3 (core [e, T] (by simp) fun b hb => ?_)
    have : b = e ∨ b = T := by simpa using hb
    rcases this with rfl | rfl
    · exact ⟨a.n, a.f, oe, vs, he, hd⟩
    · exact ⟨nT, fT, oT, ts, hT, hdT⟩
theorem air_leave {e : Addr} {C : Value} (I : Inv X pins σ H s) (a : Air (New X pins) H s.heap e C) (hs : X.stack = X.env :: X.outer) (hf : X.env.frame = some X.env.locals) (hex : X.ex = []) {Q : Unit → Shared → Prop} {E : Value → Shared → Prop}
    (k : ∀ h', Inv X pins σ H { s with heap := h' } → Air (New X pins) H h' e C → Q () { s with heap := h' }) : wpAny (model X.prog X.w) X.A (leaving X.env (.ref e)) Q E s := by
  unfold leaving
  exact wpAny_bind (air_note I a (by rw [← hs]; exact I.ok.frames) hs hf hex k)
theorem air_flight {A : Around} {e : Addr} {C : Value} (I : Inv X pins σ H s) (a : Air (New X pins) H s.heap e C) (hex : X.ex = []) {Q : Unit → Shared → Prop} {E : Value → Shared → Prop}
    (k : ∀ h', Inv X pins σ H { s with heap := h' } → Air (New X pins) H h' e C → Q () { s with heap := h' }) : wpAny (model X.prog X.w) A (setFlight (.ref e) none) Q E s := by
  obtain ⟨oe, vs, he, hC, hd, h1⟩ := a.ex
  rcases h1 with h1 | ⟨T, oT, ts, h1, nT, fT, hTe, hT, hdT, h3⟩
  · unfold setFlight
    refine wpAny_bind (wpAny_field he hd h1 ?_)
    rw [if_neg (by decide)]
    exact wpAny_pure (k s.heap I a)
  · obtain ⟨y1, y2, y3⟩ := rec_ne I hT hdT
    have away : ∀ b, b ≠ T → (s.heap.update T (Obj.mapFields (·.setIfInBounds 3 Value.none))).get? b = s.heap.get? b := fun b hb => Heap.get?_update_other _ _ (Ne.symm hb)
    refine wpAny_setFlight_none he hd h1 hT hdT (Array.getElem?_eq_some_iff.mp h3).1 (k _ ?_ ⟨a.n, a.f, oe, vs, (away e (Ne.symm hTe)).trans he, hC, hd, .inr ⟨T, _, _, h1, nT, fT, hTe, Heap.get?_update_self _ hT (Obj.isFreed_of_fields (Obj.data_mapFields hdT _)), Obj.data_mapFields hdT _, ?_⟩⟩)
    · refine Inv.passed (ch := [T]) I (fun b hb => ?_) (fun b o _ hc q => ?_) (fun b o hb q => ?_) hex
      · have : b = T := by simpa using hb
        subst this
        exact ⟨nT.1 (by rw [hex]; simp), fT, y1, y2, nT.2⟩
      · exact (away b fun z => hc (by simp [z])).trans q
      · exact ⟨o.slots, (away b fun z => y3 (by rw [← z]; exact hb)).trans q⟩
    · have := (Array.getElem?_eq_some_iff.mp h3).1
      simp [this]
end
end L4


namespace L4
open PySem PySem.Spec PyProof.Rows L2
/-! ### calls of the text's own defs -/
structure ArgOk (K : PySem.W.Frag) (G H : Hp) (ms : List Nat) (vs : List V) (ds : List D) : Prop where
  len : vs.length = ds.length
  val : ∀ i d, i ∉ ms → ds[i]? = some d → ∃ v, vs[i]? = some v ∧ Rep K G v d
  lent : ∀ i, i ∈ ms → ∃ p d, vs[i]? = some (.ref p) ∧ ds[i]? = some d ∧ G p = none ∧ OwnAt K G H p d
  sep : ∀ i j p, i ∈ ms → j ∈ ms → vs[i]? = some (.ref p) → vs[j]? = some (.ref p) → i = j
def Lent (vs : List V) (ms : List Nat) (p : Addr) : Prop := ∃ i, i ∈ ms ∧ vs[i]? = some (V.ref p)
structure GrM (L : Addr → Prop) (G H G' H' : Hp) : Prop where
  gh : Same G' H'
  hs : ∀ b o, H b = some o → ¬ L b → H' b = some o
  hd : ∀ b, H b ≠ none → H' b ≠ none
  gg : Same G G'
  fr : ∀ b, H b ≠ none → G b = none → ¬ L b → G' b = none
structure OutsOk (K : PySem.W.Frag) (G H : Hp) (vs : List V) (ms : List Nat) (outs : List D) : Prop where
  len : outs.length = ms.length
  at' : ∀ (k i : Nat) (d : D), ms[k]? = some i → outs[k]? = some d → ∃ p, vs[i]? = some (.ref p) ∧ G p = none ∧ OwnAt K G H p d
def CXA (P : Program) (w : World) : CXT := fun outer H s E e s' => ∃ a C H', e = .ref a ∧ s'.os = s.os ∧ AllBare s'.gens ∧ Un (frs outer) [] H H' s.heap s'.heap ∧ HOk P w H' s'.heap ∧ Air (fun b => s.heap.get? b = none) H' s'.heap a C ∧ E C none H'
theorem passA {X : Cx} {pins : List (Addr × Obj)} {σ : L2.St} {H : Hp} {s s' : Shared} {e : Value} (I : Inv X pins σ H s) (h : CXA X.prog X.w X.stack H s (EX X σ) e s') : X.xe e s' := by
  obtain ⟨a, C, H', rfl, os, bare, un, hok, air, q⟩ := h
  have hN : ∀ b, s.heap.get? b = none → New X pins b := fun b hb => by
    refine ⟨fun hx => ?_, fun p hp z => ?_⟩
    · cases q' : X.s₀.heap.get? b with
      | none => rfl
      | some o =>
        obtain ⟨o', z⟩ := I.base.there b o q' hx
        rw [hb] at z; cases z
    · have := (I.pin p hp).1
      rw [z, hb] at this; cases this
  refine q pins a s' (I.call' os un hok bare fun b z => absurd z (by simp)) ⟨hN _ air.n, air.f, ?_⟩
  obtain ⟨oe, vs, e1, e2, e3, e4⟩ := air.ex
  refine ⟨oe, vs, e1, e2, e3, ?_⟩
  rcases e4 with e4 | ⟨T, oT, ts, y1, y2, y3⟩
  · exact .inl e4
  · exact .inr ⟨T, oT, ts, y1, hN _ y2, y3⟩
def spM (K : PySem.W.Frag) (ms : List Nat) (F : Fn) : Sp := fun vs H Q E => ∃ (G : Hp) (ds : List D) (q : Except XD Sl) (outs : List D), Same G H ∧ ArgOk K G H ms vs ds ∧ F ds = some (q, outs) ∧
  match q with
  | .ok s => ∀ v G' H', GrM (Lent vs ms) G H G' H' → OutsOk K G' H' vs ms outs → RepR K H G' H' v s → Q v H'
  | .error x => ∀ C G' H', GrM (Lent vs ms) G H G' H' → OutsOk K G' H' vs ms outs → ExN K x.c C → x.fs = [] → E C none H'
def fCall (F : Fn) (r : FL) : FE := fun δ => (r δ).bind fun ds δ => match F ds with | some (q, []) => some (q, δ) | _ => none
theorem StOk.gr0 {K : PySem.W.Frag} {M : Nat → Option Addr} {L : Addr → Prop} {G0 H0 G H G' H' : Hp} {σ : L2.St} {δ : DEnv} (S : StOk K M G0 H0 G H σ δ) (g : GrM L G H G' H') (nl : ∀ p, ¬ L p) : StOk K M G0 H0 G' H' σ δ ∧ Gr G H σ δ G' H' δ := by
  have hh : Same H H' := fun b o e => g.hs b o e (nl b)
  refine ⟨⟨g.gh, ⟨S.env.len, fun i s e => ?_, S.env.sep⟩, S.h0.trans hh, S.g0.trans g.gg, fun b h n => ?_, S.own0, S.mt⟩, Gr.of hh g.gg (fun b h n _ => g.fr b h n (nl b)) fun _ z => z⟩
  · obtain ⟨v, e1, r⟩ := S.env.at' i s e
    refine ⟨v, e1, ?_⟩
    have key : ∀ d, (∃ q, v = .ref q ∧ G q = none ∧ OwnAt K G H q d) → ∃ q, v = .ref q ∧ G' q = none ∧ OwnAt K G' H' q d := fun d ⟨q, e2, e4, rr⟩ => by
      obtain ⟨o, e3⟩ := rr.some
      exact ⟨q, e2, g.fr q (by rw [e3]; simp) e4 (nl q), rr.keep (by rw [hh _ _ e3, e3]) g.gg⟩
    cases s with
    | val d => exact Rep.mono g.gg r
    | own d => exact key d r
    | lnt d => exact key d r
  · exact g.fr b (same_ne S.h0 h) (S.fr b h n) (nl b)
theorem ArgOk.of {K : PySem.W.Frag} {G H : Hp} {vs : List V} {ds : List D} (r : RepL K G vs ds) : ArgOk K G H [] vs ds := ⟨r.len, fun i d _ e => r.at e, fun i z => (by simp at z), fun i j p z => (by simp at z)⟩
section
variable {X : Cx} {t : TA} {fl : FL}
def tCallX (X : Cx) (sp : Sp) (t : TA) : TE := fun σ H Q => t σ H fun vs H1 => sp vs H1 Q (EX X σ)
theorem snd_call {F : Fn} (ha : SndL X t fl) : SndE X (tCallX X (spM X.K [] F) t) (fCall F fl) := by
  intro M G0 H0 G H σ δ q δ' Q S e k
  rcases Rs.inv e with ⟨s1, δ1, e1, e⟩ | ⟨x, e1, rfl⟩
  · refine ha M G0 H0 G H σ δ (.ok s1) δ1 _ S e1 fun vs G1 H1 S1 g1 r1 => ?_
    split at e
    · rename_i q' e3
      cases e
      refine ⟨G1, s1, q, [], S1.gh, .of r1, e3, ?_⟩
      cases q with
      | ok s =>
        intro v G2 H2 g2 _ r2
        obtain ⟨S3, g3⟩ := S1.gr0 g2 fun p ⟨i, z, _⟩ => (by simp at z)
        exact k v G2 H2 S3 (g1.trans g3) (r2.back g1)
      | error x =>
        intro C G2 H2 g2 _ hc hx
        obtain ⟨S3, g3⟩ := S1.gr0 g2 fun p ⟨i, z, _⟩ => (by simp at z)
        exact k C none G2 H2 S3 (g1.trans g3) ⟨hc, hx, rfl⟩
    · cases e
  · exact ha M G0 H0 G H σ δ _ _ _ S e1 k
end
/-! some arguments are lent -/
inductive Ar where
  | v (d : D) | s (i : Nat)
abbrev FA := DEnv → Rs (List Ar)
def RepAs (K : PySem.W.Frag) (G : Hp) (σ : L2.St) : List V → List Ar → Prop := Paired fun v a => match a with | .v d => Rep K G v d | .s i => σ[i]? = some (some v)
section
variable {K : PySem.W.Frag} {M : Nat → Option Addr} {G H : Hp} {σ : L2.St} {δ : DEnv}
theorem RepAs.len {vs : List V} {as : List Ar} (r : RepAs K G σ vs as) : vs.length = as.length := Paired.length r
theorem RepAs.at : ∀ {vs : List V} {as : List Ar} {m : Nat} {a : Ar}, RepAs K G σ vs as → as[m]? = some a → ∃ v, vs[m]? = some v ∧ match a with | .v d => Rep K G v d | .s i => σ[i]? = some (some v)
  | _, _, _, _, .nil, e => by simp at e
  | _, _, 0, _, .cons h _, e => by simp at e; subst e; exact ⟨_, rfl, h⟩
  | _, _, m + 1, a, .cons _ r, e => by
    obtain ⟨v, h1, h2⟩ := RepAs.at (m := m) (a := a) r (by simpa using e)
    exact ⟨v, by simpa using h1, h2⟩
end
section
variable {X : Cx} {t : TA} {fa : FA} {ta : TE} {f1 : FE}
theorem RepAs.mono {K : PySem.W.Frag} {G G' : Hp} {σ : L2.St} (h : Same G G') : ∀ {vs : List V} {as : List Ar}, RepAs K G σ vs as → RepAs K G' σ vs as
  | _, _, .nil => .nil
  | _, _, .cons (b := .v d) q r => .cons (Rep.mono h q) (RepAs.mono h r)
  | _, _, .cons (b := .s i) q r => .cons q (RepAs.mono h r)
end
section
variable {X : Cx} {k : Nat} {f : Addr} {fd : FuncData} {ps : List Str} {sp : Sp} {x : Str} {p pos : Pos} {e : Expr} {es : List Expr} {t : TA}
theorem run_fnX {pins : List (Addr × Obj)} {σ : L2.St} {H : Hp} {s : Shared} {Q : VK} {us : List Value} {vs : List V} (F : FnOk X.prog X.w X.K X.mg X.base (CXA X.prog X.w) k f fd ps sp) (hr : Room k X.A) (hb : Binds X.K fd ps [])
    (I : Inv X pins σ H s) (r : Vals vs us) (h : sp vs H Q (EX X σ)) : wpAny (model X.prog X.w) X.A (call (.ref f) us) (EP X pins σ Q) X.xe s := by
  have hl : (us ++ []).length = ps.length := by rw [List.append_nil, ← r.length]; exact F.len _ _ _ _ h
  have hb' := hb s us I.kIn hl
  rw [List.append_nil] at hb'
  refine wpAny_call (codeAny_mono (F.run X.A X.stack s H ⟨us, []⟩ us vs Q (EX X σ) hr I.env0 hb' r h) fun r s' hq => ?_)
  cases r with
  | error e => exact passA I hq
  | ok fl =>
    cases fl with
    | ret u => exact I.after hq
    | next => exact False.elim hq
    | brk => exact False.elim hq
    | cont => exact False.elim hq
theorem pe_callX (F : FnOk X.prog X.w X.K X.mg X.base (CXA X.prog X.w) k f fd ps sp) (hr : Room k X.A) (hg : Gl X x) (hm : X.mg x = some (.ref f)) (hk : PySem.W.keepIn X.K (.ref f) = true) (hb : Binds X.K fd ps [])
    (ha : PA X (e :: es) t) (hdb : (x == ("__debug__" : Str)) = false := by decide) (he : starEach (e :: es) X.env = (false, eval e X.env) :: starEach es X.env := by rfl) (hpl : (backTo pos (starEach es X.env)).any (·.1) = false := by rfl) :
    PE X (.Call (.Name x p) (e :: es) [] pos) (tCallX X sp t) := by
  intro pins s σ H Q I h
  refine wpAny_Call_Name_kw (ld_glob I hg hm ?_ hdb)
  refine PySem.W.callWith_K (h₀ := X.base) I.ok.mod.kin hk (thn (ha pos pins s σ H _ I h) fun us s1 ⟨vs, H1, I1, r, q⟩ => ⟨I1.kIn, ?_⟩) he hpl
  exact run_fnX F hr hb I1 r q
end
/-! ### defs -/
structure FnD (P : Program) (w : World) (K : PySem.W.Frag) (mg : Str → Option Value) (base : Heap) (x : Str) (k : Nat) (ps : List Str) (ms : List Nat) (F : Fn) : Prop where
  ex : ∃ f fd, mg x = some (.ref f) ∧ PySem.W.keepIn K (.ref f) = true ∧ Binds K fd ps [] ∧ FnOk P w K mg base (CXA P w) k f fd ps (spM K ms F)
section
variable {X : Cx} {e : Expr} {es : List Expr} {fl : FL} {fa : FA} {pos p : Pos} {x : Str} {k : Nat} {ps : List Str} {ms : List Nat} {F : Fn}
theorem de_call (G : FnD X.prog X.w X.K X.mg X.base x k ps [] F) (hr : Room k X.A) (hg : Gl X x) (ha : DA X (e :: es) fl) (hdb : (x == ("__debug__" : Str)) = false := by decide)
    (he : starEach (e :: es) X.env = (false, eval e X.env) :: starEach es X.env := by rfl) (hpl : (backTo pos (starEach es X.env)).any (·.1) = false := by rfl) : DE X (.Call (.Name x p) (e :: es) [] pos) (fCall F fl) :=
  let ⟨_, _, hm, hk, hb, ok⟩ := G.ex; let ⟨_, a1, a2⟩ := ha; ⟨_, pe_callX ok hr hg hm hk hb a1 hdb he hpl, snd_call a2⟩
end
section
variable {P : Program} {w : World} {K : PySem.W.Frag} {mg : Str → Option Value} {base : Heap}
theorem argSs_at (ms : List Nat) : ∀ (ds : List D) (k i : Nat) (s : Sl), (argSs ms k ds)[i]? = some s → ∃ d, ds[i]? = some d ∧ s = argS ms (k + i) d
  | [], k, i, s, e => by simp [argSs] at e
  | d :: ds, k, 0, s, e => by simp [argSs] at e; exact ⟨d, by simp, by rw [← e]; rfl⟩
  | d :: ds, k, i + 1, s, e => by
    obtain ⟨d', h1, h2⟩ := argSs_at ms ds (k + 1) i s (by simpa [argSs] using e)
    exact ⟨d', by simpa using h1, by rw [h2]; congr 1; omega⟩
theorem argSs_len (ms : List Nat) : ∀ (ds : List D) (k : Nat), (argSs ms k ds).length = ds.length
  | [], k => rfl
  | d :: ds, k => by simp [argSs, argSs_len ms ds]
theorem startD_at {n : Nat} {ms : List Nat} {ds : List D} {i : Nat} {s : Sl} (e : (startD n ms ds)[i]? = some (some s)) : ∃ d, ds[i]? = some d ∧ s = argS ms i d := by
  unfold startD at e
  by_cases hi : i < ds.length
  · rw [List.getElem?_append_left (by simpa [argSs_len] using hi), List.getElem?_map] at e
    cases q : (argSs ms 0 ds)[i]? with
    | none => rw [q] at e; cases e
    | some s' =>
      rw [q] at e; cases e
      obtain ⟨d, h1, h2⟩ := argSs_at ms ds 0 i _ q
      exact ⟨d, h1, by rw [h2, Nat.zero_add]⟩
  · rw [List.getElem?_append_right (by simpa [argSs_len] using hi)] at e
    rw [List.getElem?_replicate] at e
    split at e <;> cases e
noncomputable def lessL (L : Addr → Prop) (H : Hp) : Hp := open Classical in fun b => if L b then none else H b
theorem lessL_no {L : Addr → Prop} {H : Hp} {b : Addr} (h : ¬ L b) : lessL L H b = H b := by unfold lessL; rw [if_neg h]
theorem lessL_yes {L : Addr → Prop} {H : Hp} {b : Addr} (h : L b) : lessL L H b = none := by unfold lessL; rw [if_pos h]
def lentM (vs : List V) (ms : List Nat) (i : Nat) : Option Addr := if ms.contains i then (match vs[i]? with | some (.ref p) => some p | _ => none) else none
theorem argS_isO {ms : List Nat} {i : Nat} {d : D} (h : (argS ms i d).isO = true) : i ∈ ms ∧ argS ms i d = .lnt d := by
  unfold argS at h ⊢
  split
  · rename_i hm; exact ⟨by simpa using hm, rfl⟩
  · rename_i hm; rw [if_neg hm] at h; cases h
theorem start_at {N : List Str} {vs : List V} {i : Nat} {v : V} (h : vs[i]? = some v) : (L2.start N vs)[i]? = some (some v) := by
  have hv : i < vs.length := (List.getElem?_eq_some_iff.mp h).1
  unfold L2.start
  rw [List.getElem?_append_left (by simpa using hv), List.getElem?_map, h]
  rfl
theorem start_ok {G H : Hp} {N : List Str} {ms : List Nat} {vs : List V} {ds : List D} (hs : Same G H) (r : ArgOk K G H ms vs ds) :
    StOk K (lentM vs ms) G (lessL (Lent vs ms) H) G H (L2.start N vs) (startD N.length ms ds) := by
  have hl := r.len
  have lent : ∀ i s, (startD N.length ms ds)[i]? = some (some s) → s.isO = true → ∃ p d, i ∈ ms ∧ vs[i]? = some (.ref p) ∧ ds[i]? = some d ∧ s = .lnt d ∧ G p = none ∧ OwnAt K G H p d := fun i s e os => by
    obtain ⟨d, h1, rfl⟩ := startD_at e
    obtain ⟨hm, h2⟩ := argS_isO os
    obtain ⟨p, d', h3, h4, h5, h6⟩ := r.lent i hm
    rw [h1] at h4; cases h4
    exact ⟨p, d, hm, h3, h1, h2, h5, h6⟩
  refine ⟨hs, ⟨by simp [L2.start, startD, argSs_len, hl], fun i s e => ?_, fun i j p a b z1 z2 oa ob z3 z4 => ?_⟩, fun b o e => ?_, Same.refl _, fun _ _ n => n, fun p ⟨i, s, z1, os, z2⟩ => ?_, fun i d e => ?_⟩
  · by_cases os : s.isO = true
    · obtain ⟨p, d, hm, h3, h1, rfl, h5, h6⟩ := lent i s e os
      exact ⟨_, start_at h3, p, rfl, h5, h6⟩
    · obtain ⟨d, h1, rfl⟩ := startD_at e
      have hm : i ∉ ms := fun hm => os (by unfold argS; rw [if_pos (by simpa using hm)]; rfl)
      obtain ⟨v, h2, h3⟩ := r.val i d hm h1
      refine ⟨v, start_at h2, ?_⟩
      unfold argS
      rw [if_neg (by simpa using hm)]
      exact h3
  · obtain ⟨p1, d1, m1, h1, _⟩ := lent i a z1 oa
    obtain ⟨p2, d2, m2, h2, _⟩ := lent j b z2 ob
    rw [start_at h1] at z3; cases z3
    rw [start_at h2] at z4; cases z4
    exact r.sep i j p m1 m2 h1 h2
  · by_cases hL : Lent vs ms b
    · rw [lessL_yes hL] at e; cases e
    · rw [lessL_no hL] at e; exact e
  · obtain ⟨p1, d1, m1, h1, _⟩ := lent i s z1 os
    rw [start_at h1] at z2; cases z2
    exact lessL_yes ⟨i, m1, h1⟩
  · obtain ⟨p, d1, m1, h1, _⟩ := lent i _ e rfl
    exact ⟨p, by unfold lentM; rw [if_pos (by simpa using m1), h1], start_at h1⟩
theorem outs_at {δ : DEnv} : ∀ {ms : List Nat} {outs : List D}, outsD δ ms = some outs → outs.length = ms.length ∧ ∀ (k i : Nat) (d : D), ms[k]? = some i → outs[k]? = some d → δ[i]? = some (some (.lnt d))
  | [], outs, e => by cases e; exact ⟨rfl, fun k i d e => by simp at e⟩
  | i :: ms, outs, e => by
    unfold outsD at e
    split at e
    · rename_i d hd
      obtain ⟨r, e1, rfl⟩ := Option.map_eq_some_iff.mp e
      obtain ⟨h1, h2⟩ := outs_at e1
      refine ⟨by simp [h1], fun k i d e1 e2 => ?_⟩
      cases k with
      | zero => simp at e1 e2; subst e1 e2; exact hd
      | succ k => exact h2 k i d (by simpa using e1) (by simpa using e2)
    · cases e
theorem end_ok {G H G' H' : Hp} {ms : List Nat} {vs : List V} {outs : List D} {σ : L2.St} {δ : DEnv} {v : V} {s : Sl} (S : StOk K (lentM vs ms) G (lessL (Lent vs ms) H) G' H' σ δ) (ho : outsD δ ms = some outs) (hm : ∀ i, i ∈ ms → ∃ p, vs[i]? = some (.ref p)) (r : RepN K (lessL (Lent vs ms) H) G' H' σ δ v s) :
    GrM (Lent vs ms) G H G' H' ∧ OutsOk K G' H' vs ms outs ∧ RepR K H G' H' v s := by
  obtain ⟨hl, at_⟩ := outs_at ho
  have slot : ∀ i p, i ∈ ms → vs[i]? = some (.ref p) → ∃ d, δ[i]? = some (some (.lnt d)) ∧ σ[i]? = some (some (.ref p)) ∧ G' p = none ∧ OwnAt K G' H' p d := fun i p hi e => by
    obtain ⟨k, hk⟩ := List.getElem?_of_mem hi
    have hko : k < outs.length := by rw [hl]; exact (List.getElem?_eq_some_iff.mp hk).1
    have h1 := at_ k i _ hk (List.getElem?_eq_getElem hko)
    obtain ⟨p', h2, h3⟩ := S.mt i _ h1
    unfold lentM at h2
    rw [if_pos (by simpa using hi), e] at h2
    cases h2
    obtain ⟨v', h4, h5⟩ := S.env.at' i _ h1
    rw [h3] at h4; cases h4
    obtain ⟨q, h6, h7, h8⟩ := h5
    cases h6
    exact ⟨_, h1, h3, h7, h8⟩
  refine ⟨⟨S.gh, fun b o e n => S.h0 b o (by rw [lessL_no n]; exact e), fun b n => ?_, S.g0, fun b h n l => S.fr b (by rw [lessL_no l]; exact h) n⟩, ⟨hl, fun k i d e1 e2 => ?_⟩, r.1, fun o => ?_⟩
  · by_cases hL : Lent vs ms b
    · obtain ⟨i, hi, e⟩ := hL
      obtain ⟨d, _, _, _, h4⟩ := slot i b hi e
      obtain ⟨o, h5⟩ := h4.some
      rw [h5]; simp
    · exact same_ne S.h0 (by rw [lessL_no hL]; exact n)
  · have hi := List.mem_of_getElem? e1
    obtain ⟨p, e⟩ := hm i hi
    obtain ⟨d', h1, _, h3, h4⟩ := slot i p hi e
    rw [at_ k i d e1 e2] at h1; cases h1
    exact ⟨p, e, h3, h4⟩
  · obtain ⟨a, p, e1, e2, e3⟩ := r.2 o
    refine ⟨a, p, e1, ?_⟩
    by_cases hL : Lent vs ms p
    · obtain ⟨i, hi, e⟩ := hL
      obtain ⟨d, h1, h2, _⟩ := slot i p hi e
      exact absurd ⟨i, _, h1, rfl, h2⟩ e3
    · rw [lessL_no hL] at e2; exact e2
theorem fnD_ok {x : Str} {st : Stmt} {f : Addr} {fd : FuncData} {N ps : List Str} {n m k : Nat} {ms : List Nat} {f0 : FS} (F : Fun K x x st f fd) (S : FnScope N ps (defScope st)) (hn : N.length = n) (hm : ps.length = m) 
    (body : ∀ (cdv : Value) (A : Around) (outer : List Env) (s : Shared) (H : Hp) (E : XK), Room k (A.deeper (envOfC x (defScope st) s.heap.objs.size f cdv)) → DB (cxOf (CXA P w) P w K mg base N x (defScope st) f cdv A outer s H E) (defBody st) f0) :
    FnOk P w K mg base (CXA P w) (k + 1) f fd ps (spM K ms (runD n m ms f0)) := by
  have len : ∀ vs H Q E, spM K ms (runD n m ms f0) vs H Q E → vs.length = ps.length := fun vs H Q E h => by
    obtain ⟨G, ds, s, outs, _, r, e, _⟩ := h
    unfold runD at e
    split at e
    · rename_i hl
      rw [r.len, hl, hm]
    · cases e
  obtain ⟨oc, od, kV, doc, pm, an, cdv, ct, osl, rfl, lk, hcd⟩ := F.ex
  refine fn_of lk hcd S len fun A outer s H vs Q E hr h => ?_
  obtain ⟨t, ht, snd⟩ := body cdv A outer s H E hr
  refine ⟨t, ht, ?_⟩
  obtain ⟨G, ds, sl, outs, hs, r, e, q⟩ := h
  unfold runD at e
  split at e
  · have S0 := start_ok (N := N) hs r
    rw [hn] at S0
    have hms : ∀ i, i ∈ ms → ∃ p, vs[i]? = some (.ref p) := fun i hi => let ⟨p, _, h, _⟩ := r.lent i hi; ⟨p, h⟩
    split at e
    · rename_i s' δ' ef
      obtain ⟨o, e1, e2⟩ := Option.map_eq_some_iff.mp e
      cases e2
      refine snd _ _ _ G H _ _ _ _ S0 ef fun v σ' G' H' S' r' => ?_
      obtain ⟨h1, h2, h3⟩ := end_ok S' e1 hms r'
      exact q v G' H' h1 h2 h3
    · rename_i δ' ef
      obtain ⟨o, e1, e2⟩ := Option.map_eq_some_iff.mp e
      cases e2
      refine snd _ _ _ G H _ _ _ _ S0 ef fun σ' G' H' S' => ?_
      obtain ⟨h1, h2, h3⟩ := end_ok (v := .non) (s := .val .non) S' e1 hms ⟨Rep.non, fun z => nomatch z⟩
      exact q .non G' H' h1 h2 h3
    · rename_i x' δ' ef
      obtain ⟨o, e1, e2⟩ := Option.map_eq_some_iff.mp e
      cases e2
      refine snd _ _ _ G H _ _ _ _ S0 ef fun C dx σ' G' H' S' xr => ?_
      obtain ⟨h1, h2, _⟩ := end_ok (v := .non) (s := .val .non) S' e1 hms ⟨Rep.non, fun z => nomatch z⟩
      intro pins a s' I air
      refine air_leave I air rfl rfl rfl fun h' I' air' => ?_
      refine ⟨a, C, H', rfl, I'.os, I'.bare, I'.base, I'.hok, ⟨air'.n.1 (by simp [cxOf]), air'.f, ?_⟩, q C G' H' h1 h2 xr.1 xr.2.1⟩
      obtain ⟨oe, ws, e1, e2, e3, e4⟩ := air'.ex
      refine ⟨oe, ws, e1, e2, e3, ?_⟩
      rcases e4 with e4 | ⟨T, oT, ts, y1, y2, y3⟩
      · exact .inl e4
      · exact .inr ⟨T, oT, ts, y1, y2.1 (by simp [cxOf]), y3⟩
    · cases e
  · cases e
theorem fnD_mk {x : Str} {st : Stmt} {f : Addr} {fd : FuncData} {N ps : List Str} {n m k : Nat} {ms : List Nat} {f0 : FS} (F : Fun K x x st f fd) (S : FnScope N ps (defScope st)) (hn : N.length = n) (hm : ps.length = m) (b : Binds K fd ps []) (hmg : mg x = some (.ref f))
    (body : ∀ (cdv : Value) (A : Around) (outer : List Env) (s : Shared) (H : Hp) (E : XK), Room k (A.deeper (envOfC x (defScope st) s.heap.objs.size f cdv)) → DB (cxOf (CXA P w) P w K mg base N x (defScope st) f cdv A outer s H E) (defBody st) f0) :
    FnD P w K mg base x (k + 1) ps ms (runD n m ms f0) := ⟨f, fd, hmg, F.kp, b, fnD_ok F S hn hm body⟩
theorem fnD_none {x : Str} {st : Stmt} {f : Addr} {fd : FuncData} {ps : List Str} {ms : List Nat} (F : Fun K x x st f fd) (b : Binds K fd ps []) (hmg : mg x = some (.ref f)) (k : Nat) : FnD P w K mg base x k ps ms (fun _ => none) :=
  have no : ∀ vs H Q E, ¬ spM K ms (fun _ => none) vs H Q E := fun vs H Q E h => by
    obtain ⟨_, _, _, _, _, _, e, _⟩ := h
    cases e
  ⟨f, fd, hmg, F.kp, b, ⟨fun vs H Q E h => (no vs H Q E h).elim, fun A outer s H args us vs Q E _ _ _ _ h => (no vs H Q E h).elim⟩⟩
structure GlD (K : PySem.W.Frag) (mg : Str → Option Value) (x : Str) (d : D) : Prop where
  ex : ∃ v u, mg x = some u ∧ RelV v u ∧ ∀ G, Rep K G v d
theorem GlD.str {x y : Str} {t : Tok} (h : mg x = some (.str y t)) : GlD K mg x (.str y) := ⟨.str y, _, h, ⟨t, rfl⟩, fun _ => .str y⟩
theorem GlD.int {x : Str} {y : Int} {t : Tok} (h : mg x = some (.int y t)) : GlD K mg x (.int y) := ⟨.int y, _, h, ⟨t, rfl⟩, fun _ => .int y⟩
theorem de_gl {X : Cx} {x : Str} {d : D} {pos : Pos} (h : GlD X.K X.mg x d) (hg : Gl X x) (hd : (x == ("__debug__" : Str)) = false := by decide) : DE X (.Name x pos) (fC d) := let ⟨_, _, h1, h2, h3⟩ := h.ex; de_glob hg h1 h2 h3 hd
theorem law_sp {F : Fn} {H : Hp} {a : Addr} {ns : List Int} (h : F [.lst (ns.map D.int)] = some (.ok (.val (.bl true)), [])) (hR : LsK K H a (ns.map V.int)) : spM K [] F [.ref a] H (fun v _ => v = .bl true) fun _ _ _ => False :=
  ⟨H, _, .ok (.val (.bl true)), [], Same.refl _, .of (.cons (.lst hR (RepL.map (fun i => .int i) ns)) .nil), h, fun _ _ _ _ _ r => rep_bl r.1⟩
theorem cxa_no {P : Program} {w : World} {H : Hp} {s s' : Shared} {e : Value} (h : CXA P w [] H s (fun _ _ _ => False) e s') : False := let ⟨_, _, _, _, _, _, _, _, _, q⟩ := h; q
end
end L4


namespace L4
open PySem PySem.Spec PyProof.Rows L2
theorem law_callK {P : Program} {w : World} {K : PySem.W.Frag} {mg mb : Str → Option Value} {CX : CXT} {k : Nat} {fa a : Addr} {fd : FuncData} {x : Str} {sp : Sp} {s₁ : Shared} {vs : List Value} {ns : List Int}
    (KX : K.In s₁.heap) (hns : s₁.heap.Ns mainGlobals mg) (hb : s₁.heap.Ns builtinsNs mb) (hbb : ∀ x : Str, x ≠ "__name__" → mb x = bootBuiltins x) (hlim : s₁.heap.NoLimit) (hg : s₁.gens = #[])
    (ha : s₁.heap.get? a = some { cls := .type "list", data := .seq vs.toArray }) (hi : IntsAre vs ns) (hl : ns.length ≤ sizeLine) (hr : Room k callerA)
    (F : ∀ base : Heap, K.In base → base.Ns mainGlobals mg → FnOk P w K mg base CX k fa fd [x] sp) (hbind : ∀ (s : Shared) (u : Value), BindsTo s fd ⟨[u], []⟩ [(x, u)])
    (hsp : ∀ H : Hp, Only H → LsK K H a (ns.map V.int) → sp [.ref a] H (fun v _ => v = .bl true) fun _ _ _ => False)
    (hCX : ∀ H e s', CX [] H s₁ (fun _ _ _ => False) e s' → False) :
    codeAny (model P w) callerA (.call (.ref fa) ⟨[.ref a], []⟩) (fun r s' => r = .ok (.ret (.bool true)) ∧ OldK s₁.heap s'.heap ∧ s'.os = s₁.os ∧ AllBare s'.gens) s₁ := by
  have rv := vals_ints hi
  have lenV := hi.length
  -- from an abstract heap in which nothing but the script may be tracked
  have core : ∀ H : Hp, Only H → LsK K H a (ns.map V.int) → HOk P w H s₁.heap → (∀ b, H b ≠ none → b = a) → (H a ≠ none → K.lookup a = none) →
      codeAny (model P w) callerA (.call (.ref fa) ⟨[.ref a], []⟩) (fun r s' => r = .ok (.ret (.bool true)) ∧ OldK s₁.heap s'.heap ∧ s'.os = s₁.os ∧ AllBare s'.gens) s₁ := by
    intro H hO hS hok hA hK
    have base_of : ∀ {b : Addr} {o : Obj}, s₁.heap.get? b = some o → H b = none → (hidT s₁.heap H).get? b = some o := fun e n => hidT_get e n
    have noA : ∀ {b : Addr} {o : Obj} {es : Array DictEntry} {ep : Nat}, s₁.heap.get? b = some o → o.data = .dict es ep → H b = none := fun {b o es ep} e d => by
      cases q : H b with
      | none => rfl
      | some u =>
        have e' : b = a := hA b (by rw [q]; simp)
        subst e'
        rw [ha] at e; cases e
        have d' : Data.seq vs.toArray _ = Data.dict es ep := d
        cases d'
    have nsK : ∀ {b : Addr} {m : Str → Option Value}, s₁.heap.Ns b m → (hidT s₁.heap H).Ns b m := fun {b m} ⟨o, es, ep, e, d, r⟩ => ⟨o, es, ep, base_of e (noA e d), d, r⟩
    have hKb : K.In (hidT s₁.heap H) := fun b o e => base_of (KX b o e) (by
      cases q : H b with
      | none => rfl
      | some u =>
        have e' : b = a := hA b (by rw [q]; simp)
        subst e'
        rw [hK (by rw [q]; simp)] at e; cases e)
    have hM : Mod K mg (hidT s₁.heap H) := ⟨hKb, nsK hns, ⟨mb, nsK hb, hbb⟩, let ⟨mc, h1, h2⟩ := hlim; ⟨mc, nsK h1, h2⟩⟩
    have e0 : Env0 P w K mg (hidT s₁.heap H) callerA [] s₁ H := ⟨rfl, hM, fun b o e => of_hidT e, Nat.le_of_eq (hidT_size _ _), trivial, fun b hb => absurd (show b ∈ ([] : List Addr) from hb) (by simp), hok, .of_eq hg⟩
    refine codeAny_mono ((F _ hKb (nsK hns)).run callerA [] s₁ H ⟨[.ref a], []⟩ [.ref a] [.ref a] _ _ hr e0 (hbind s₁ (.ref a)) (.cons rfl .nil) (hsp H hO hS)) fun r s' h => ?_
    cases r with
    | error e => exact (hCX H e s' h).elim
    | ok fl =>
      cases fl with
      | next => exact False.elim h
      | brk => exact False.elim h
      | cont => exact False.elim h
      | ret u =>
        obtain ⟨v, H', os, bare, un, hok', r', q⟩ := h
        have q' : v = .bl true := q
        subst q'
        obtain rfl : u = Value.bool true := r'
        refine ⟨rfl, OldK.of_keep fun b o e => ?_, os, bare⟩
        cases q : H b with
        | none => exact un.keep b o e q (by intro z; exact absurd (show b ∈ ([] : List Addr) from z) (by simp)) (by simp)
        | some u =>
          rcases hO b with z | ⟨ob, xs, z⟩
          · rw [q] at z; cases z
          · have z2 := un.frzs b ob _ z
            obtain ⟨e1, _⟩ := hok b _ z
            obtain ⟨e2, _⟩ := hok' b _ z2
            rw [e] at e1; cases e1
            exact e2
  cases hk : K.lookup a with
  | some o =>
    -- the script is one of the module's own objects
    have e := KX a o hk
    rw [ha] at e
    cases e
    refine core (fun _ => none) (fun _ => .inl rfl) (.inr ⟨vs.toArray, _, hk, by rw [List.size_toArray, lenV]; exact hl, by simpa using rv⟩) (fun b u z => by have z' : (none : Option HO) = some u := z; cases z') (fun b z => absurd rfl z) fun z => absurd rfl z
  | none =>
    refine core (fun b => if b = a then some (.frz { cls := .type "list", data := .seq vs.toArray } (.lst (ns.map V.int))) else none) (fun b => ?_) (.inl (.inr ⟨{ cls := .type "list", data := .seq vs.toArray }, if_pos rfl⟩)) (fun b u z => ?_) (fun b z => ?_) fun _ => hk
    · by_cases hb : b = a
      · exact .inr ⟨_, _, if_pos hb⟩
      · exact .inl (if_neg hb)
    · by_cases hb : b = a
      · have z' := (if_pos hb).symm.trans z
        cases z'
        subst hb
        exact ⟨ha, by rw [List.length_map]; exact hl, vs, _, rv, ha⟩
      · have z' := (if_neg hb).symm.trans z
        cases z'
    · by_cases hb : b = a
      · exact hb
      · exact absurd (if_neg hb) z
theorem walk_ofL {l : PySem.W.OpenLaw} {n k : Nat} {q : Program} {loose : List Str} {XP : (Str → Option Value) → Heap → Prop} {YP : World → Heap → Prop} {d : DefRec} {K : Params → PySem.W.Frag} {CX : World → CXT} {sp : World → Sp} {x : Str}
    (hn : l.most = some n) (hn2 : n ≤ sizeLine) (hdf : d.params.defaults = []) (hr : Room k callerA)
    (hY : ∀ (w : World) (h : Heap), YP w h → (K w.params).In h)
    (F : ∀ (w : World) (mg : Str → Option Value) (fa : Addr) (h : Heap), (K w.params).In h → h.Ns mainGlobals mg → mg d.name = some (.ref fa) →
      ∃ fd : FuncData, (∀ (s : Shared) (u : Value), BindsTo s fd ⟨[u], []⟩ [(x, u)]) ∧
        ∀ base : Heap, (K w.params).In base → base.Ns mainGlobals mg → FnOk l.prog w (K w.params) mg base (CX w) k fa fd [x] (sp w))
    (hsp : ∀ (w : World) (H : Hp) (a : Addr) (ns : List Int), ns.length ≤ n → Only H → LsK (K w.params) H a (ns.map V.int) → sp w [.ref a] H (fun v _ => v = .bl true) fun _ _ _ => False)
    (hCX : ∀ (w : World) (H : Hp) (s : Shared) (e : Value) (s' : Shared), CX w [] H s (fun _ _ _ => False) e s' → False) :
    PySem.W.WalkO q loose XP YP l.row.toRowW d [] (fun f vs => PySem.call f vs) := by
  refine Att.attach_call hn hdf fun w s₀ s₁ mg mb fa o pm cd doc a vs ns G Y ho hd hcd hmg hobj hints hlen hg => ?_
  have KX := hY w _ Y
  obtain ⟨fd, hb, hF⟩ := F w mg fa _ KX G.T.g hmg
  exact law_callK KX G.T.g G.T.b G.T.builtins G.T.nolimit hg hobj hints (Nat.le_trans hlen hn2) hr hF hb (fun H hO hS => hsp w H a ns hlen hO hS) fun H e s' => hCX w H s₁ e s'
end L4


namespace L4
open PySem PySem.Spec PyProof.Rows L2
/-! ### what is walked, at the data -/
structure IterOk (K : PySem.W.Frag) (J : It) (ds : List D) (G : Hp) : Prop where
  go : ∀ (H : Hp) (i : Nat), Same G H → i < ds.length → J.go i H
  yld : ∀ (H : Hp) (i : Nat) (x : V) (H' : Hp), Same G H → i < ds.length → J.yld i H x H' → H' = H ∧ ∃ d, ds[i]? = some d ∧ Rep K G x d
  stop : ∀ (H : Hp), Same G H → J.stop ds.length H
def PostI (X : Cx) (M : Nat → Option Addr) (G0 H0 G H : Hp) (σ : L2.St) (δ δ' : DEnv) (R : It → Hp → Prop) : Except XD (List D) → Prop
  | .ok ds => ∀ J G' H', StOk X.K M G0 H0 G' H' σ δ' → Gr G H σ δ G' H' δ' → IterOk X.K J ds G' → R J H'
  | .error x => PostX X M G0 H0 G H σ δ δ' x
def SndI (X : Cx) (wi : TI) (fs : FL) : Prop := ∀ (M : Nat → Option Addr) (G0 H0 G H : Hp) (σ : L2.St) (δ : DEnv) (q : Except XD (List D)) (δ' : DEnv) (R : It → Hp → Prop), StOk X.K M G0 H0 G H σ δ → fs δ = some (q, δ') →
  PostI X M G0 H0 G H σ δ δ' R q → wi σ H R
def DI (X : Cx) (tg iter : Expr) (fs : FL) : Prop := ∃ wi, PI X tg iter wi ∧ SndI X wi fs
theorem iter_rng {K : PySem.W.Frag} (lo : Int) (n : Nat) (G : Hp) : IterOk K (Itr lo n) (rngD lo n) G := by
  have hl : (rngD lo n).length = n := by simp [rngD]
  refine ⟨fun H i _ hi => by rw [hl] at hi; exact hi, fun H i x H' _ hi y => ?_, fun H _ => by rw [hl]; exact Nat.le_refl _⟩
  obtain ⟨e1, e2⟩ := y
  rw [hl] at hi
  exact ⟨e1, D.int (lo + (i : Int)), by simp [rngD, hi], by rw [e2]; exact .int _⟩
section
variable {X : Cx}
theorem snd_iR1 {ta : TA} {fa : FL} (ha : SndL X ta fa) : SndI X (iRng1 ta) (fRng1 fa) := by
  intro M G0 H0 G H σ δ q δ' R S e k
  rcases Rs.inv e with ⟨as, δ2, e2, e⟩ | ⟨x, e2, rfl⟩
  · obtain ⟨ds, e3, rfl, rfl⟩ := lift_inv e
    unfold rng1D at e3
    split at e3
    · rename_i j
      split at e3
      · rename_i hj
        cases e3
        refine ha M G0 H0 G H σ δ _ _ _ S e2 fun xs G1 H1 S1 g1 r1 => ?_
        cases r1 with
        | cons h t =>
          cases t
          cases rep_int h
          exact ⟨j, rfl, hj.1, hj.2, k _ G1 H1 S1 g1 (iter_rng 0 _ G1)⟩
      · cases e3
    · cases e3
  · exact ha M G0 H0 G H σ δ _ _ _ S e2 k
end
section
variable {X : Cx} {tg iter a b : Expr} {fe : FE} {fl : FL} {p pos : Pos}
theorem di_rng1 (hg : Gl X "range") (hm : X.mg "range" = none) (ha : DA X [a] fl) (hs : starEach [a] X.env = [(false, eval a X.env)] := by rfl) : DI X tg (.Call (.Name "range" p) [a] [] pos) (fRng1 fl) := let ⟨_, a1, a2⟩ := ha; ⟨_, pi_range1 hg hm a1 hs, snd_iR1 a2⟩
end
/-! ### the block of a comprehension -/
def clOf (cells : List (Str × Addr)) : List (Str × NameKind) → List (Str × Addr) → List (Str × Addr)
  | [], cs => cs
  | (n, k) :: r, cs => clOf cells r (if k == .free then (match cells.lookup n with | some c => (n, c) :: cs | none => cs) else cs)
theorem cl_sub {cells : List (Str × Addr)} : ∀ (ns : List (Str × NameKind)) (cs : List (Str × Addr)), (∀ y c, cs.lookup y = some c → cells.lookup y = some c) → ∀ y c, (clOf cells ns cs).lookup y = some c → cells.lookup y = some c
  | [], cs, h => h
  | (n, k) :: r, cs, h => by
    refine cl_sub r _ fun y c e => ?_
    split at e
    · split at e
      · rename_i c' hc
        rw [List.lookup_cons] at e
        split at e
        · rename_i hy
          cases e
          rw [eq_of_beq hy]; exact hc
        · exact h y c e
      · exact h y c e
    · exact h y c e
theorem cl_mono {cells : List (Str × Addr)} : ∀ (ns : List (Str × NameKind)) (cs : List (Str × Addr)) (y : Str), (∃ c, cs.lookup y = some c) → ∃ c, (clOf cells ns cs).lookup y = some c
  | [], cs, y, h => h
  | (n, k) :: r, cs, y, h => by
    refine cl_mono r _ y ?_
    split
    · split
      · rw [List.lookup_cons]
        split
        · exact ⟨_, rfl⟩
        · exact h
      · exact h
    · exact h
theorem cl_has {cells : List (Str × Addr)} : ∀ (ns : List (Str × NameKind)) (cs : List (Str × Addr)) (y : Str) (c : Addr), (y, NameKind.free) ∈ ns → cells.lookup y = some c → ∃ c, (clOf cells ns cs).lookup y = some c
  | (n, k) :: r, cs, y, c, h, e => by
    rcases List.mem_cons.mp h with h | h
    · cases h
      refine cl_mono r _ _ ?_
      rw [if_pos (by rfl), e]
      exact ⟨c, by simp⟩
    · exact cl_has r _ y c h e
theorem closure_eq {scope : Scope} {env : Env} (h : ∀ p ∈ scope.names, p.2 = .free → ∃ c, env.cells.lookup p.1 = some c) : closureFor scope env = pure (clOf env.cells scope.names []) := by
  have key : ∀ (ns : List (Str × NameKind)) (cs : List (Str × Addr)), (∀ p ∈ ns, p.2 = .free → ∃ c, env.cells.lookup p.1 = some c) →
      (forIn ns cs fun (p : Str × NameKind) (r : List (Str × Addr)) => if (p.2 == NameKind.free) = true then (do let a ← cellOf env p.1; pure (ForInStep.yield ((p.1, a) :: r))) else pure (ForInStep.yield r) : Sem (List (Str × Addr))) = pure (clOf env.cells ns cs) := by
    intro ns
    induction ns with
    | nil => intro cs _; rfl
    | cons p r ih =>
      intro cs hc
      obtain ⟨n, k⟩ := p
      rw [List.forIn_cons]
      by_cases hk : (k == NameKind.free) = true
      · obtain ⟨c, e⟩ := hc (n, k) List.mem_cons_self (eq_of_beq hk)
        have ec : cellOf env n = pure c := by unfold cellOf; rw [show env.cells.lookup n = some c from e]
        simp only [hk, if_true, ec]
        have := ih ((n, c) :: cs) fun p hp => hc p (List.mem_cons_of_mem _ hp)
        show (forIn r ((n, c) :: cs) _ : Sem _) = _
        rw [this]
        show pure (clOf env.cells r ((n, c) :: cs)) = pure (clOf env.cells r (if (k == NameKind.free) = true then (match env.cells.lookup n with | some c => (n, c) :: cs | none => cs) else cs))
        rw [if_pos hk, show env.cells.lookup n = some c from e]
      · simp only [hk, if_false]
        have := ih cs fun p hp => hc p (List.mem_cons_of_mem _ hp)
        show (forIn r cs _ : Sem _) = _
        rw [this]
        show pure (clOf env.cells r cs) = pure (clOf env.cells r (if (k == NameKind.free) = true then (match env.cells.lookup n with | some c => (n, c) :: cs | none => cs) else cs))
        rw [if_neg hk]
  have := key scope.names [] h
  unfold closureFor
  first
    | exact this
    | (show ((forIn scope.names [] _ : Sem _) >>= fun r => pure r) = _; rw [this]; rfl)
    | (simp only [bind_pure]; exact this)
end L4


namespace L4
open PySem PySem.Spec PyProof.Rows L2
def compCx (X : Cx) (M : List Str) (scope : Scope) (x : Str) (s : Shared) (H : Hp) (fp : List Addr) (pn : List (Addr × Obj)) : Cx :=
  { X with N := x :: M, s₀ := s, H₀ := H, env := compEnvC scope (clOf X.env.cells scope.names []) s.heap.objs.size X.env, outer := X.stack, stack := X.stack, ex := fp, fn := fun _ => false, pn := pn, xe := fun _ _ => False }
structure CompOk (X : Cx) (M : List Str) (scope : Scope) (x : Str) : Prop where
  kind : scope.kind = .function
  nocell : ∀ p ∈ scope.names, p.2 ≠ .cell
  xl : scope.names.lookup x = some .local
  names : ∀ p ∈ scope.names, p.2 = .local → scope.names.lookup p.1 = some .local
  loc : ∀ p ∈ scope.names, p.2 = .local → p.1 ∉ M
  free : ∀ p ∈ scope.names, p.2 = .free → X.env.scope.names.lookup p.1 = some .cell ∨ X.env.scope.names.lookup p.1 = some .free
  blank : ∀ p ∈ scope.names, p.1 ≠ ""
  len : M.length = X.N.length
  seen : ∀ p ∈ M.zip X.N, p.1 = "" ∨ p.1 = p.2
  nd : (x :: M).Nodup
theorem lookup_mem {α β : Type} [BEq α] [LawfulBEq α] : ∀ {l : List (α × β)} {x : α} {y : β}, l.lookup x = some y → (x, y) ∈ l
  | (a, b) :: r, x, y, h => by
    rw [List.lookup_cons] at h
    split at h
    · rename_i hx
      cases h
      rw [eq_of_beq hx]
      exact List.mem_cons_self
    · exact List.mem_cons_of_mem _ (lookup_mem h)
theorem lookup_relabel {names : List (Str × NameKind)} {env : Env} {x : Str} {k : NameKind} : (names.map fun (n, k) => if (k == NameKind.free && env.scope.kind == .function && env.kindOf n == some .cell) then (n, NameKind.cell) else (n, k)).lookup x = some k →
    names.lookup x = some k ∨ (k = .cell ∧ names.lookup x = some .free) := by
  induction names with
  | nil => intro h; cases h
  | cons p r ih =>
    obtain ⟨n, k'⟩ := p
    intro h
    rw [List.map_cons] at h
    by_cases hc : (k' == NameKind.free && env.scope.kind == .function && env.kindOf n == some .cell) = true
    · simp only [hc, if_true] at h
      rw [List.lookup_cons] at h ⊢
      split at h
      · rename_i hx
        cases h
        refine .inr ⟨rfl, ?_⟩
        have : k' = .free := by
          rw [Bool.and_eq_true, Bool.and_eq_true] at hc
          exact eq_of_beq hc.1.1
        rw [this]
      · exact ih h
    · have hc' : (k' == NameKind.free && env.scope.kind == .function && env.kindOf n == some .cell) = false := by simpa using hc
      simp only [hc', Bool.false_eq_true, if_false] at h
      rw [List.lookup_cons] at h ⊢
      split at h
      · rename_i hx
        cases h
        exact .inl rfl
      · exact ih h
section
variable {X : Cx} {M : List Str} {scope : Scope} {x : Str} {pins : List (Addr × Obj)} {σ : L2.St} {H : Hp} {s : Shared} {fp : List Addr}
theorem CompOk.cells (c : CompOk X M scope x) (ok : X.Ok) : ∀ p ∈ scope.names, p.2 = .free → ∃ a, X.env.cells.lookup p.1 = some a := fun p hp hf => ok.has p.1 (c.free p hp hf)
theorem inv_comp {h₁ : Heap} {tk : Nat} (c : CompOk X M scope x) (I : Inv X pins σ H s) (hf : ∀ b ∈ fp, FpOk X pins H b) (hfo : ∀ b ∈ fp, ∃ o, s.heap.get? b = some o)
    (hns : h₁.Ns s.heap.objs.size (fun _ => none)) (keep : ∀ b o, s.heap.get? b = some o → h₁.get? b = some o) :
    Inv (compCx X M scope x s H fp (X.pn ++ pins)) [] (none :: σ) H { s with heap := h₁, toks := tk } := by
  have sub : ∀ y a, (clOf X.env.cells scope.names []).lookup y = some a → X.env.cells.lookup y = some a := cl_sub scope.names [] fun y a e => by cases e
  have nstk : ∀ b, b ≠ X.env.locals → b ∉ X.fs → b ∉ frs X.stack := fun b h1 h2 z => (List.mem_cons.mp (I.stkSub b z)).elim h1 h2
  have lt : ∀ b o, s.heap.get? b = some o → b ≠ s.heap.objs.size := fun b o e => Nat.ne_of_lt (Heap.lt_size e)
  refine ⟨⟨I.ok.mod, ?_, I.ok.glob, I.ok.blt, Nat.le_refl _, fun y z a e1 e2 => I.ok.inj y z a (sub y a e1) (sub z a e2), fun y hy => ?_, fun y a e => (by cases e), I.ok.hd, I.ok.frames, .inl rfl, fun b hb => ⟨?_, fun y a e => (hf b hb).2.2.2.2.1 y a (sub y a e)⟩, I.bs,
      Nat.le_trans I.ok.bsz I.sz, fun b o e hb => ?_, fun b hb => nstk b (hf b hb).2.1 (hf b hb).2.2.1, I.stack, I.stkFree⟩, rfl, I.bare, Un.kept keep, ⟨_, hns, fun i y v e1 e2 e3 => ?_⟩, fun y a e => ?_, I.fresh, fun y a e => I.freeC y a (sub y a e), fun p hp => ?_, I.hok.kept keep, ?_⟩
  · show (relabel scope X.env).kind = .function
    exact c.kind
  · have hy' : scope.names.lookup y = some .free := by
      rcases hy with hy | hy
      · rcases lookup_relabel hy with z | ⟨_, z⟩
        · exact absurd rfl (c.nocell _ (lookup_mem z))
        · exact z
      · rcases lookup_relabel hy with z | ⟨z, _⟩
        · exact z
        · cases z
    obtain ⟨a, e⟩ := c.cells I.ok _ (lookup_mem hy') rfl
    exact cl_has scope.names [] y a (lookup_mem hy') e
  · obtain ⟨o, e⟩ := hfo b hb
    exact lt b o e
  · rcases (hf b hb).2.2.2.1 with z | z
    · exact I.ok.noex b o e z
    · exact absurd (Nat.lt_of_lt_of_le (Heap.lt_size e) (Nat.le_trans I.ok.bsz z)) (Nat.lt_irrefl _)
  · cases i with
    | zero => cases e2
    | succ i =>
      have e1' : M[i]? = some y := e1
      have e2' : σ[i]? = some (some v) := e2
      have hi : i < M.length := (List.getElem?_eq_some_iff.mp e1').1
      have hX : ∃ z, X.N[i]? = some z ∧ (y = "" ∨ y = z) := by
        have hi' : i < X.N.length := by rw [← c.len]; exact hi
        refine ⟨X.N[i], List.getElem?_eq_getElem hi', ?_⟩
        refine c.seen (y, X.N[i]) ?_
        have : (M.zip X.N)[i]? = some (y, X.N[i]) := by
          rw [List.getElem?_zip_eq_some]
          exact ⟨e1', List.getElem?_eq_getElem hi'⟩
        exact List.mem_of_getElem? this
      obtain ⟨z, hz, hyz⟩ := hX
      -- it is seen: free there
      have hy' : scope.names.lookup y = some .free := by
        rcases e3 with w | w | w
        · rcases lookup_relabel w with z | ⟨z, _⟩
          · exact absurd (List.mem_of_getElem? e1') (c.loc _ (lookup_mem z) rfl)
          · cases z
        · rcases lookup_relabel w with z | ⟨_, z⟩
          · exact absurd rfl (c.nocell _ (lookup_mem z))
          · exact z
        · rcases lookup_relabel w with z | ⟨z, _⟩
          · exact z
          · cases z
      have hm := lookup_mem hy'
      rcases hyz with rfl | rfl
      · exact absurd rfl (c.blank _ hm)
      · have hk := c.free _ hm rfl
        obtain ⟨m, hn, hl⟩ := I.loc
        obtain ⟨u, r, l⟩ := hl i y v hz e2' (hk.elim (fun q => .inr (.inl q)) fun q => .inr (.inr q))
        refine ⟨u, r, ?_⟩
        rcases l with ⟨l, _⟩ | ⟨_, a, ea, ia⟩
        · rcases hk with hk | hk
          · have l' : X.env.scope.names.lookup y = some .local := l
            rw [hk] at l'; cases l'
          · have l' : X.env.scope.names.lookup y = some .local := l
            rw [hk] at l'; cases l'
        · obtain ⟨a', e'⟩ := cl_has scope.names [] y a hm ea
          have : a' = a := by have := sub y a' e'; rw [ea] at this; exact (Option.some.inj this).symm
          subst this
          refine .inr ⟨?_, a', e', ia.keeps keep⟩
          rcases e3 with w | w | w
          · rcases lookup_relabel w with z | ⟨z, _⟩
            · rw [hy'] at z; cases z
            · cases z
          · exact .inl w
          · exact .inr w
  · obtain ⟨v, z⟩ := I.cell y a (sub y a e)
    exact ⟨v, z.keeps keep⟩
  · have hp' : p ∈ X.pn ++ pins := by simpa [compCx] using hp
    obtain ⟨q1, q2, q3, q4, q5⟩ := I.pin p hp'
    exact ⟨keep _ _ q1, q2, lt _ _ q1, nstk _ q3 q4, q5⟩
  · show (none :: σ).length = (x :: M).length
    rw [List.length_cons, List.length_cons, I.len, c.len]
theorem inv_back {σ' : L2.St} {H' : Hp} {s' : Shared} {h₂ : Heap} (I : Inv X pins σ H s) (hf : ∀ b ∈ fp, FpOk X pins H b)
    (I' : Inv (compCx X M scope x s H fp (X.pn ++ pins)) [] σ' H' s') (hs : Heap.SameBut s.heap.objs.size s'.heap h₂) : Inv X pins σ H' { s' with heap := h₂ } := by
  have lt : ∀ b o, s.heap.get? b = some o → b ≠ s.heap.objs.size := fun b o e => Nat.ne_of_lt (Heap.lt_size e)
  have u := I'.base
  refine I.call' (s' := { s' with heap := h₂ }) (ch := fp) I'.os ⟨fun b o e n hb hx => ?_, fun b o e n hb hx => ?_, u.free, fun b o e hx => ?_, u.tups, u.frzs, u.tbls⟩ (fun b ob e => ?_) I'.bare fun b hb => ⟨(hf b hb).2.2.2.1, (hf b hb).2.1, (hf b hb).2.2.2.2.1, (hf b hb).2.2.2.2.2⟩
  · exact (hs.2 b (lt b o e)).trans (u.keep b o e n hb hx)
  · obtain ⟨sl, q⟩ := u.slot b o e n hb hx
    exact ⟨sl, (hs.2 b (lt b o e)).trans q⟩
  · obtain ⟨o', q⟩ := u.there b o e hx
    exact ⟨o', (hs.2 b (lt b o e)).trans q⟩
  · have hC : H' s.heap.objs.size = none := I'.free
    refine (I'.hok b ob e).stay (fun d v hd q => (hs.2 d ?_).trans q) (fun _ q => q) fun _ _ q => q
    rintro rfl
    rcases hd with hd | hd
    · rw [← hd, hC] at e; cases e
    · rw [hC] at hd; cases hd
end
end L4


namespace L4
open PySem PySem.Spec PyProof.Rows L2
section
variable {prog : Program} {w : World} {A : Around} {R : Result → Shared → Prop} {s : Shared}
abbrev Well {α : Type} (prog : Program) (w : World) (A : Around) (m : Sem α) (q : α → Shared → Prop) (s : Shared) : Prop := wpAny (model prog w) A m q (fun _ _ => False) s
theorem Well.go {α β : Type} {prog : Program} {w : World} {A : Around} {s : Shared} {E : Value → Shared → Prop} {m : Sem α} {f : α → Sem β} {q : α → Shared → Prop} {r : β → Shared → Prop} (a : Well prog w A m q s) (b : ∀ v t, q v t → wpAny (model prog w) A (f v) r E t) : wpAny (model prog w) A (m >>= f) r E s :=
  wpAny_bind (wpAny_mono a b fun _ _ => False.elim)
abbrev testsOf (ifs : List Expr) (env : Env) : Sem Bool := forIn ifs true fun c ok => if ok = true then isTrue c env (eval c env) >>= fun b => pure (.yield b) else pure (.yield ok)
theorem compLoop_own {prog : Program} {w : World} {A : Around} {R : Result → Shared → Prop} {s : Shared} {elt target iter : Expr} {ifs : List Expr} {scope : Scope} {pos : Pos} {it acc : Value} {env : Env} (I : Nat → Shared → Prop)
    (turn : ∀ n s, I n s → Well prog w A (pyNext it) (fun r t => r.elim (R (.ok .next) t) fun v => Well prog w A (letOwnedTupleGo target it v) (fun _ t => Well prog w A (assign target env v) (fun _ t => Well prog w A (testsOf ifs env) (fun ok t =>
      if ok = true then Well prog w A (eval elt env) (fun x t => Well prog w A (call (.builtin "list.append") [acc, x]) (fun _ t => ∃ m, m < n ∧ I m t) t) t else ∃ m, m < n ∧ I m t) t) t) t) s)
    (n : Nat) (h : I n s) : codeAny (model prog w) A (.compLoop (.ListComp elt [⟨target, iter, ifs, 0⟩] scope pos) 0 it acc env) R s := by
  apply codeAny_loop rfl I (n := n) (h := h)
  intro n s i
  apply wpAny_noted
  rw [compTurn_list]
  apply wpAny_bind
  apply wpAny_standAt
  apply (turn n s i).go
  rintro (_ | v) t a
  · exact wpAny_pure a
  · apply a.go
    intro _ t a
    apply a.go
    intro _ t a
    apply a.go
    rintro (_ | _) t a
    · wp_walk
      exact ⟨rfl, a⟩
    · apply wpAny_bind
      apply a.go
      intro x t a
      apply a.go
      intro _ t a
      wp_walk
      exact ⟨rfl, a⟩
end
/-! ### at the data -/
def testD (fc : Option FT) (d : D) (δ : DEnv) : Rs Bool := match fc with | none => some (.ok true, some (Sl.val d) :: δ) | some c => c (some (Sl.val d) :: δ)
def compD (fc : Option FT) (fe : FE) : List D → List D → DEnv → Option (List D × DEnv)
  | [], acc, δ => some (acc, δ)
  | d :: ds, acc, δ => match testD fc d δ with
    | some (.ok true, δ1) => (match fe δ1 with
      | some (.ok q, δ2) => if acc.length < sizeLine then compD fc fe ds (acc ++ [q.fz]) δ2.tail else none
      | _ => none)
    | some (.ok false, δ1) => compD fc fe ds acc δ1.tail
    | _ => none
def fComp (src : FL) (fc : Option FT) (fe : FE) : FE := fun δ => (src δ).bind fun ds δ => match compD fc fe ds [] δ with
  | some (r, δ') => some (.ok (.own (.lst r)), δ')
  | none => none
def shM (M : Nat → Option Addr) : Nat → Option Addr
  | 0 => none
  | i + 1 => M i
section
variable {K : PySem.W.Frag} {M : Nat → Option Addr} {G0 H0 G H G' H' : Hp} {σ : L2.St} {δ δ' : DEnv} {ov : Option V}
theorem ow_cons {d : D} {p : Addr} (h : Ow (ov :: σ) (some (.val d) :: δ) p) : Ow σ δ p := by
  obtain ⟨i, s, z1, os, z2⟩ := h
  cases i with
  | zero => cases z1; cases os
  | succ i => exact ⟨i, s, z1, os, z2⟩
theorem ow_tail {p : Addr} (h : Ow σ δ'.tail p) : Ow (ov :: σ) δ' p := by
  obtain ⟨i, s, z1, os, z2⟩ := h
  cases δ' with
  | nil => cases z1
  | cons o r => exact ⟨i + 1, s, z1, os, z2⟩
theorem StOk.cons {v : V} {d : D} (S : StOk K M G0 H0 G H σ δ) (r : Rep K G v d) : StOk K (shM M) G0 H0 G H (some v :: σ) (some (.val d) :: δ) := by
  refine ⟨S.gh, ⟨by simp [S.env.len], fun i s e => ?_, fun i j p a b z1 z2 oa ob z3 z4 => ?_⟩, S.h0, S.g0, S.fr, fun p z => S.own0 p (ow_cons z), fun i d e => ?_⟩
  · cases i with
    | zero => cases e; exact ⟨v, rfl, r⟩
    | succ i => exact S.env.at' i s e
  · cases i with
    | zero => cases z1; cases oa
    | succ i =>
      cases j with
      | zero => cases z2; cases ob
      | succ j => exact congrArg (· + 1) (S.env.sep i j p a b z1 z2 oa ob z3 z4)
  · cases i with
    | zero => cases e
    | succ i => exact S.mt i d e
theorem StOk.tail (S : StOk K (shM M) G0 H0 G H (ov :: σ) δ') : StOk K M G0 H0 G H σ δ'.tail := by
  cases δ' with
  | nil => have := S.env.len; simp at this
  | cons o r =>
    refine ⟨S.gh, ⟨by have := S.env.len; simpa using this, fun i s e => S.env.at' (i + 1) s e, fun i j p a b z1 z2 oa ob z3 z4 => ?_⟩, S.h0, S.g0, S.fr, fun p z => S.own0 p (ow_tail z), fun i d e => S.mt (i + 1) d e⟩
    have := S.env.sep (i + 1) (j + 1) p a b z1 z2 oa ob z3 z4
    omega
theorem Gr.tail {d : D} (g : Gr G H (ov :: σ) (some (.val d) :: δ) G' H' δ') : Gr G H σ δ G' H' δ'.tail :=
  ⟨fun b o h n => g.hs b o h fun z => n (ow_cons z), g.hd, g.gg, fun b h n o => g.fr b h n fun z => o (ow_cons z), fun p z => ow_cons (g.shr p (ow_tail z))⟩
theorem StOk.poke {l : Addr} {o : HO} (S : StOk K M G0 H0 G H σ δ) (hg : G l = none) (hn : ¬ Ow σ δ l) (h0 : H0 l = none) : StOk K M G0 H0 G (upd H l o) σ δ := by
  have same' : ∀ (H1 : Hp), H1 l = none → Same H1 H → Same H1 (upd H l o) := fun H1 n h b u q => by rw [upd_ne (ne_of_none q n)]; exact h b u q
  refine ⟨same' G hg S.gh, ⟨S.env.len, fun i s e => ?_, S.env.sep⟩, same' H0 h0 S.h0, S.g0, S.fr, S.own0, S.mt⟩
  obtain ⟨v, e1, r⟩ := S.env.at' i s e
  refine ⟨v, e1, ?_⟩
  have key : ∀ d, s.isO = true → (∃ q, v = .ref q ∧ G q = none ∧ OwnAt K G H q d) → ∃ q, v = .ref q ∧ G q = none ∧ OwnAt K G (upd H l o) q d := fun d os ⟨q, e2, e4, rr⟩ => by
    subst e2
    have ne : q ≠ l := fun z => hn (by rw [← z]; exact ⟨i, s, e, os, e1⟩)
    exact ⟨q, rfl, e4, rr.keep (upd_ne ne) (Same.refl _)⟩
  cases s with
  | val d => exact r
  | own d => exact key d rfl r
  | lnt d => exact key d rfl r
end
def TestsOk (X : Cx) (M : List Str) (scope : Scope) (x : Str) (ifs : List Expr) (fc : Option FT) : Prop :=
  (ifs = [] ∧ fc = none) ∨ ∃ c f, ifs = [c] ∧ fc = some f ∧ ∀ s H fp pn, DT (compCx X M scope x s H fp pn) c f
section
variable {X : Cx} {M : List Str} {scope : Scope} {x : Str} {elt iter : Expr} {ifs : List Expr} {pos px : Pos} {fs : FL} {fc : Option FT} {fe : FE}
theorem comp_block (c : CompOk X M scope x) (hc : X.calm = true) (ht : TestsOk X M scope x ifs fc) (he : ∀ s H fp pn, DE (compCx X M scope x s H fp pn) elt fe)
    {pins : List (Addr × Obj)} {s2 : Shared} {σ : L2.St} {ML : Nat → Option Addr} {G0 H0 G1 H1 : Hp} {δ1 : DEnv} {it : Addr} {fp : List Addr} {tn : Nat → Heap → Prop} {J : It} {ds res : List D} {δE : DEnv}
    (I : Inv X pins σ H1 s2) (T : Turn X.prog X.w X.K (.Name x px) J fp it tn) (st : tn 0 s2.heap) (hf : ∀ b ∈ fp, FpOk X pins H1 b) (S : StOk X.K ML G0 H0 G1 H1 σ δ1) (io : IterOk X.K J ds G1) (ec : compD fc fe ds [] δ1 = some (res, δE))
    {RR : Value → Addr → Result → Shared → Prop} {E : Value → Shared → Prop}
    (hR : ∀ (l C : Addr) (s' : Shared) (G' H' : Hp) (vs : List V), H1 l = none → s2.heap.objs.size ≤ C → H' C = none → (∃ m, s'.heap.Ns C m) → StOk X.K ML G0 H0 G' H' σ δE → Gr G1 H1 σ δ1 G' H' δE → H' l = some (.lst vs) → G' l = none → RepL X.K G' vs res →
      (∀ h', Heap.SameBut C s'.heap h' → Inv X pins σ H' { s' with heap := h' }) → RR (.ref l) C (.ok .next) s') :
    wpAny (model X.prog X.w) X.A (newList []) (fun acc s₃ => wpAny (model X.prog X.w) X.A (newFunctionEnv scope X.env.globals (clOf X.env.cells scope.names []) [] X.env.qual none .none (some X.env)) (fun cenv s₄ =>
      codeAny (model X.prog X.w) X.A (.compStart (.ListComp elt [⟨.Name x px, iter, ifs, 0⟩] scope pos) 0 (.ref it) acc { cenv with scope := relabel scope X.env }) (RR acc cenv.locals) s₄) E s₃) E s2 := by
  refine wpAny_newObj_type (wpAny_newFunctionEnv c.nocell (by intro y hy; simp at hy) (fun h₁ hns hsb => ?_) c.kind)
  have hl : H1 s2.heap.objs.size = none := I.fresh
  have I3 : Inv X pins σ (upd H1 s2.heap.objs.size (.lst [])) { s2 with heap := s2.heap.push { cls := .type "list", data := .seq ([] : List Value).toArray } } := I.lnew (t' := s2.toks) (ys := []) .nil (Nat.zero_le _)
  generalize hs3 : ({ s2 with heap := s2.heap.push { cls := .type "list", data := .seq ([] : List Value).toArray } } : Shared) = s3 at I3
  have e3 : s3.heap = s2.heap.push { cls := .type "list", data := .seq ([] : List Value).toArray } := by rw [← hs3]
  have hns' : h₁.Ns s3.heap.objs.size (fun _ => none) := by rw [e3]; exact hns
  have keep : ∀ b o, s3.heap.get? b = some o → h₁.get? b = some o := fun b o e => by
    have lt := Heap.lt_size e
    rw [e3] at e lt
    exact hsb.extBut b o (Nat.ne_of_lt lt) (Heap.get?_push_of_some _ e)
  have keep2 : ∀ b o, s2.heap.get? b = some o → s3.heap.get? b = some o := fun b o e => by rw [e3]; exact Heap.get?_push_of_some _ e
  have fo : ∀ b ∈ fp, ∃ o, s2.heap.get? b = some o := fun b hb => let ⟨o, e, _⟩ := T.obj 0 s2.heap st b hb; ⟨o, e⟩
  have nel : ∀ b ∈ fp, b ≠ s2.heap.objs.size := fun b hb => let ⟨o, e⟩ := fo b hb; Nat.ne_of_lt (Heap.lt_size e)
  have hf3 : ∀ b ∈ fp, FpOk X pins (upd H1 s2.heap.objs.size (.lst [])) b := fun b hb => ⟨by rw [upd_ne (nel b hb)]; exact (hf b hb).1, (hf b hb).2⟩
  have I4 := inv_comp (tk := s2.toks + ([] : List (Str × Value)).length) c I3 hf3 (fun b hb => let ⟨o, e⟩ := fo b hb; ⟨o, keep2 b o e⟩) hns' keep
  have st4 : tn 0 h₁ := T.keep 0 _ _ st fun b hb o e => keep b o (keep2 b o e)
  -- what stays of the iterator's objects
  have stat : ∀ {H' : Hp}, (∀ b ∈ fp, H' b = none) → ∀ b ∈ fp, FpOk (compCx X M scope x s3 (upd H1 s2.heap.objs.size (.lst [])) fp (X.pn ++ pins)) [] H' b := fun {H'} hn b hb => by
    refine ⟨hn b hb, (I4.ok.exf b hb).1, I4.ok.exfs b hb, .inl hb, (I4.ok.exf b hb).2, fun p hp => ?_⟩
    have hp' : p ∈ X.pn ++ pins := by simpa [compCx] using hp
    exact (hf b hb).2.2.2.2.2 p hp'
  obtain ⟨S3, g3, hg3⟩ := S.new (o := .lst []) hl
  have hl0 : H0 s2.heap.objs.size = none := Same.free S.h0 hl
  have noOw1 : ¬ Ow σ δ1 s2.heap.objs.size := S.noOw hl
  have loop : ∀ s4 : Shared, s4 = { s2 with heap := h₁, toks := s2.toks + ([] : List (Str × Value)).length } →
      codeAny (model X.prog X.w) X.A (.compLoop (.ListComp elt [⟨.Name x px, iter, ifs, 0⟩] scope pos) 0 (.ref it) (.ref s2.heap.objs.size) (compEnvC scope (clOf X.env.cells scope.names []) s3.heap.objs.size X.env)) (RR (.ref s2.heap.objs.size) s3.heap.objs.size) s4 := by
    rintro s4 rfl
    refine compLoop_own (fun n s' => ∃ (i : Nat) (ov : Option V) (G' H' : Hp) (δ' : DEnv) (vs : List V) (acc : List D), Inv (compCx X M scope x s3 (upd H1 s2.heap.objs.size (.lst [])) fp (X.pn ++ pins)) [] (ov :: σ) H' s' ∧ tn i s'.heap ∧ (∀ b ∈ fp, H' b = none) ∧ i ≤ ds.length ∧ n = ds.length - i ∧
      StOk X.K ML G1 H0 G' H' σ δ' ∧ Gr G1 H1 σ δ1 G' H' δ' ∧ H' s2.heap.objs.size = some (.lst vs) ∧ G' s2.heap.objs.size = none ∧ RepL X.K G' vs acc ∧ compD fc fe (ds.drop i) acc δ' = some (res, δE)) ?_ ds.length
      ⟨0, none, G1, _, δ1, [], [], by rw [← hs3] at I4; rw [← hs3]; exact I4, st4, fun b hb => by rw [upd_ne (nel b hb)]; exact (hf b hb).1, Nat.zero_le _, by simp, S3.rebase, g3, upd_same, hg3, .nil, by simpa using ec⟩
    rintro n s' ⟨i, ov, G', H', δ', vs, acc, I', st', fr', hi, rfl, S', g', hv, hgl, ra, ed⟩
    have noOw : ¬ Ow σ δ' s2.heap.objs.size := fun z => noOw1 (g'.shr _ z)
    by_cases hlt : i < ds.length
    · -- one more
      have hd : ds.drop i = ds[i] :: ds.drop (i + 1) := List.drop_eq_getElem_cons hlt
      rw [hd] at ed
      have go := io.go H' i (S'.g0.trans S'.gh) hlt
      refine thn (T.item (compCx X M scope x s3 (upd H1 s2.heap.objs.size (.lst [])) fp (X.pn ++ pins)) rfl rfl rfl hc i [] s' (ov :: σ) H' _ I' (stat fr') st' go) fun r s5 ⟨u, hr, h5⟩ => ?_
      subst hr
      refine thn h5 fun _ s6 ⟨y, H6, I6, r6, y6, st6, fr6⟩ => ?_
      obtain ⟨rfl, d, ed', rd⟩ := io.yld H' i y H6 (S'.g0.trans S'.gh) hlt y6
      have hde : ds[i] = d := by rw [List.getElem?_eq_getElem hlt] at ed'; exact Option.some.inj ed'
      rw [hde] at ed
      have I6' := I6.pinned (stat fr6) (T.obj _ _ st6)
      -- the name
      refine thn (pg_name (i := 0) (x := x) (pos := px) c.nd rfl (.inl (lookup_relabel_local c.xl)) (.inr (lookup_relabel_local c.xl)) ([] ++ pinsAt fp s6.heap) s6 (ov :: σ) H6 y u (fun σ2 H2 => σ2 = some y :: σ ∧ H2 = H6) I6' r6 ⟨rfl, rfl⟩) fun _ s7 ⟨σ7, H7, I7, q7⟩ => ?_
      obtain ⟨rfl, rfl⟩ := q7
      have back : ∀ {s8 : Shared} {H8 : Hp} {σ8 : L2.St}, Inv (compCx X M scope x s3 (upd H1 s2.heap.objs.size (.lst [])) fp (X.pn ++ pins)) ([] ++ pinsAt fp s6.heap) σ8 H8 s8 → tn (i + 1) s8.heap ∧ ∀ b ∈ fp, H8 b = none := fun {s8 H8 σ8} I8 => by
        refine ⟨T.keep _ _ _ st6 fun b hb o e => (I8.pin (b, o) (List.mem_append_right _ (List.mem_append_right _ (mem_pinsAt hb e)))).1, fun b hb => ?_⟩
        obtain ⟨o, e, d⟩ := T.obj _ _ st6 b hb
        exact (I8.pin (b, o) (List.mem_append_right _ (List.mem_append_right _ (mem_pinsAt hb e)))).2.1
      have S7 : StOk X.K (shM ML) G1 H0 G' H7 (some y :: σ) (some (.val d) :: δ') := S'.cons (Rep.mono S'.g0 rd)
      obtain ⟨b, δt, e1, e2⟩ : ∃ (b : Bool) (δt : DEnv), testD fc d δ' = some (Except.ok b, δt) ∧ (if b = true then (match fe δt with
          | some (.ok q, δ2) => if acc.length < sizeLine then compD fc fe (ds.drop (i + 1)) (acc ++ [q.fz]) δ2.tail else none
          | _ => none) else compD fc fe (ds.drop (i + 1)) acc δt.tail) = some (res, δE) := by
        unfold compD at ed
        split at ed
        · rename_i δ9 e9; exact ⟨true, δ9, e9, by simpa using ed⟩
        · rename_i δ9 e9; exact ⟨false, δ9, e9, by simpa using ed⟩
        · cases ed
      -- the test
      have test : wpAny (model X.prog X.w) X.A (forIn ifs true fun c r => if r = true then do let ok ← isTrue c (compEnvC scope (clOf X.env.cells scope.names []) s3.heap.objs.size X.env) (eval c (compEnvC scope (clOf X.env.cells scope.names []) s3.heap.objs.size X.env)); pure (ForInStep.yield ok) else pure (ForInStep.yield r))
          (fun ok s8 => ok = b ∧ ∃ G8 H8, Inv (compCx X M scope x s3 (upd H1 s2.heap.objs.size (.lst [])) fp (X.pn ++ pins)) ([] ++ pinsAt fp s6.heap) (some y :: σ) H8 s8 ∧ StOk X.K (shM ML) G1 H0 G8 H8 (some y :: σ) δt ∧ Gr G' H7 (some y :: σ) (some (.val d) :: δ') G8 H8 δt) (fun _ _ => False) s7 := by
        rcases ht with ⟨rfl, rfl⟩ | ⟨cn, f, rfl, rfl, hdt⟩
        · cases e1
          exact wpAny_tests_nil ⟨rfl, G', H7, I7, S7, Gr.refl ..⟩
        · obtain ⟨tt, p1, p2⟩ := hdt s3 (upd H1 s2.heap.objs.size (.lst [])) fp (X.pn ++ pins)
          refine wpAny_tests_one (thn (p1 _ s7 _ H7 (fun k H8 => k = b ∧ ∃ G8, StOk X.K (shM ML) G1 H0 G8 H8 (some y :: σ) δt ∧ Gr G' H7 (some y :: σ) (some (.val d) :: δ') G8 H8 δt) I7 (p2 (shM ML) G1 H0 G' H7 _ _ (.ok b) δt _ S7 e1 fun G8 H8 S8 g8 => ⟨rfl, G8, S8, g8⟩)) fun k s8 ⟨H8, I8, hk, G8, S8, g8⟩ => ?_)
          exact ⟨hk, G8, H8, I8, S8, g8⟩
      refine thn test fun ok s8 ⟨hok, G8, H8, I8, S8, g8⟩ => ?_
      subst hok
      have gt8 := g8.tail
      cases ok with
      | false =>
        simp only [Bool.false_eq_true, if_false] at e2 ⊢
        obtain ⟨st8, fr8⟩ := back I8
        refine ⟨ds.length - (i + 1), by omega, i + 1, some y, G8, H8, δt.tail, vs, acc, I8.unpinned, st8, fr8, hlt, rfl, S8.tail, g'.trans gt8, gt8.hs _ _ hv noOw, gt8.fr _ (by rw [hv]; simp) hgl noOw, RepL.mono g8.gg ra, e2⟩
      | true =>
        simp only [if_true] at e2 ⊢
        obtain ⟨sq, δq, e4, e5⟩ : ∃ (sq : Sl) (δq : DEnv), fe δt = some (.ok sq, δq) ∧ (if acc.length < sizeLine then compD fc fe (ds.drop (i + 1)) (acc ++ [sq.fz]) δq.tail else none) = some (res, δE) := by
          split at e2
          · rename_i q9 δ9 e9; exact ⟨q9, δ9, e9, e2⟩
          · cases e2
        split at e5
        · rename_i hsz
          obtain ⟨te, p1, p2⟩ := he s3 (upd H1 s2.heap.objs.size (.lst [])) fp (X.pn ++ pins)
          refine thn (p1 _ s8 _ H8 (fun v H9 => ∃ G9, StOk X.K (shM ML) G1 H0 G9 H9 (some y :: σ) δq ∧ Gr G8 H8 (some y :: σ) δt G9 H9 δq ∧ Rep X.K G9 v sq.fz) I8 (p2.toV (shM ML) G1 H0 G8 H8 _ _ sq δq _ S8 e4 fun v G9 H9 S9 g9 r9 => ⟨G9, S9, g9, r9⟩)) fun xv s9 ⟨v, H9, I9, r9, G9, S9, g9, rd9⟩ => ?_
          have g79 := (g8.trans g9).tail
          have hv9 : H9 s2.heap.objs.size = some (.lst vs) := g79.hs _ _ hv noOw
          have hgl9 : G9 s2.heap.objs.size = none := g79.fr _ (by rw [hv]; simp) hgl noOw
          have lenA : vs.length = acc.length := ra.len
          refine thn (mt_append _ s9 _ H9 (.ref s2.heap.objs.size) [v] (.ref s2.heap.objs.size) [xv] (fun _ H10 => H10 = upd H9 s2.heap.objs.size (.lst (vs ++ [v]))) I9 rfl (.cons r9 .nil) ⟨_, vs, v, rfl, rfl, hv9, by rw [lenA]; exact hsz, rfl⟩) fun _ s10 ⟨_, H10, I10, _, q10⟩ => ?_
          subst q10
          obtain ⟨st10, fr10⟩ := back I10
          have gA : Gr G1 H1 σ δ1 G9 (upd H9 s2.heap.objs.size (.lst (vs ++ [v]))) δq.tail := by
            have g := g'.trans g79
            refine ⟨fun b o q n => ?_, fun b n => ?_, g.gg, g.fr, g.shr⟩
            · rw [upd_ne (ne_of_none q hl)]
              exact g.hs b o q n
            · by_cases hb : b = s2.heap.objs.size
              · subst hb; exact absurd hl n
              · rw [upd_ne hb]; exact g.hd b n
          refine ⟨ds.length - (i + 1), by omega, i + 1, some y, G9, _, δq.tail, vs ++ [v], acc ++ [sq.fz], I10.unpinned, st10, fr10, hlt, rfl,
            S9.tail.poke hgl9 (fun z => noOw1 (gA.shr _ z)) hl0, gA, upd_same, hgl9, (RepL.mono (g8.gg.trans g9.gg) ra).app (.cons rd9 .nil), e5⟩
        · cases e5
    · -- the end
      have he' : i = ds.length := by omega
      subst he'
      rw [List.drop_length] at ed
      cases ed
      refine thn (T.done (compCx X M scope x s3 (upd H1 s2.heap.objs.size (.lst [])) fp (X.pn ++ pins)) rfl rfl rfl hc ds.length [] s' (ov :: σ) H' _ I' (stat fr') st' (io.stop H' (S'.g0.trans S'.gh))) fun r s5 ⟨hr, I5⟩ => ?_
      subst hr
      have up : StOk X.K ML G0 H0 G' H' σ δE := S.unbase S'
      refine hR _ _ s5 G' H' vs hl (by rw [e3, Heap.size_push]; exact Nat.le_succ _) I5.free ?_ up g' hv hgl ra fun h' hsb' => inv_back I3 hf3 I5 hsb'
      obtain ⟨m, hn, _⟩ := I5.loc
      exact ⟨m, hn⟩
  show codeAny (model X.prog X.w) X.A (.compStart (.ListComp elt [⟨.Name x px, iter, ifs, 0⟩] scope pos) 0 (.ref it) (.ref s2.heap.objs.size) (compEnvC scope (clOf X.env.cells scope.names []) s3.heap.objs.size X.env)) (RR (.ref s2.heap.objs.size) s3.heap.objs.size) _
  exact codeAny_compStart_list (loop _ (by rw [← hs3])) (T.self _ 0 _ _ _ st4 (loop _ (by rw [← hs3])))
end
end L4


namespace L4
open PySem PySem.Spec PyProof.Rows L2
section
variable {X : Cx} {M : List Str} {scope : Scope} {x : Str} {elt iter : Expr} {ifs : List Expr} {pos px : Pos} {fs : FL} {fc : Option FT} {fe : FE}
theorem de_comp (c : CompOk X M scope x) (hc : X.calm = true) (src : DI X (.Name x px) iter fs) (ht : TestsOk X M scope x ifs fc) (he : ∀ s H fp pn, DE (compCx X M scope x s H fp pn) elt fe) (hs : ∀ y, foldedSetIterable iter X.env y = pure y := by intro _; rfl) :
    DE X (.ListComp elt [⟨.Name x px, iter, ifs, 0⟩] scope pos) (fComp fs fc fe) := by
  refine ⟨fun σ H Q => ∀ pins s, Inv X pins σ H s → wpAny (model X.prog X.w) X.A (eval (.ListComp elt [⟨.Name x px, iter, ifs, 0⟩] scope pos) X.env) (EP X pins σ Q) X.xe s, fun pins s σ H Q I h => h pins s I, ?_⟩
  intro ML G0 H0 G H σ δ sl δ' Q S e k pins s I
  obtain ⟨wi, hi, si⟩ := src
  rcases Rs.inv e with ⟨ds, δ1, e1, e⟩ | ⟨x', e1, rfl⟩
  rotate_left
  · rw [eval_ListComp]
    exact wpAny_comprehension_free (use := none) rfl hs (closure_eq (c.cells I.ok)) c.kind c.names
      (thn (hi pins s σ H (fun _ _ => False) I (si ML G0 H0 G H σ δ (.error x') _ _ S e1 k)) fun v s1 h1 => thn h1 fun itv s2 h2 => by
        obtain ⟨_, _, _, _, _, _, _, _, _, _, z⟩ := h2; exact z.elim)
  obtain ⟨res, δ2, e2, e⟩ : ∃ (res : List D) (δ2 : DEnv), compD fc fe ds [] δ1 = some (res, δ2) ∧ some (Except.ok (Sl.own (.lst res)), δ2) = some (sl, δ') := by
    split at e
    · rename_i r9 δ9 e9; exact ⟨r9, δ9, e9, e⟩
    · cases e
  cases e
  rw [eval_ListComp]
  refine wpAny_comprehension_free (use := none) rfl hs (closure_eq (c.cells I.ok)) c.kind c.names
    (thn (hi pins s σ H (fun J H1 => ∃ G1, StOk X.K ML G0 H0 G1 H1 σ δ1 ∧ Gr G H σ δ G1 H1 δ1 ∧ IterOk X.K J ds G1) I (si ML G0 H0 G H σ δ (.ok ds) δ1 _ S e1 fun J G1 H1 S1 g1 io => ⟨G1, S1, g1, io⟩)) fun v s1 h1 => thn h1 fun itv s2 h2 => ?_)
  obtain ⟨it, fp, tn, J, H1, rfl, I2, T, st2, f2, G1, S1, g1, io⟩ := h2
  refine comp_block (RR := fun acc C => compPost (model X.prog X.w) X.A X.xe none (EP X pins σ Q) acc C) c hc ht he I2 T st2 f2 S1 io e2 ?_
  intro l C s' G' H' vs hl _ _ hm S' g' hv hgl ra back
  obtain ⟨m, hn⟩ := hm
  refine ⟨m, hn, fun h' hsb => ⟨.ref l, H', back h' hsb, rfl, k _ G' H' S' (g1.trans g') ⟨⟨l, rfl, hgl, vs, hv, ra⟩, fun _ => ⟨⟨_, rfl⟩, l, rfl, g1.free hl⟩⟩⟩⟩
theorem tests_no : TestsOk X M scope x [] none := .inl ⟨rfl, rfl⟩
end
end L4


namespace L4
open PySem PySem.Spec PyProof.Rows L2
/-! ### a text walked sign by sign -/
def Its (z : Str) : It := ⟨fun i _ => i < z.cps.size, fun i H x H' => H' = H ∧ ∃ c, z.cps[i]? = some c ∧ x = .str ⟨#[c]⟩, fun i _ => z.cps.size ≤ i⟩
theorem str_walks {prog : Program} {w : World} {A : Around} {ty : String} (hty : ty = "str_ascii_iterator" ∨ ty = "str_iterator") (hh : A.handled = none) (I : Addr) (x : Str) (t : Tok) :
    Walks prog w A I [I] [I] x.cps.size (SignAt x) (fun i h => h.IsStrIter I ty x t i) := by
  rcases hty with rfl | rfl
  · exact Walks.strAscii hh I x t
  · exact Walks.strWide hh I x t
theorem turn_str {P : Program} {w : World} {K : PySem.W.Frag} {tg : Expr} {ty : String} (hty : ty = "str_ascii_iterator" ∨ ty = "str_iterator") (z : Str) (t : Tok) (it : Addr) : Turn P w K tg (Its z) [it] it (fun i h => h.IsStrIter it ty z t i) where
  mem := by simp
  obj := fun i h st b hb => by
    have e : b = it := by simpa using hb
    subst e
    obtain ⟨o, e, c, d⟩ := st
    exact ⟨o, e, fun v z => by rw [d] at z; cases z⟩
  keep := fun i h h' st k => let ⟨o, ho, r⟩ := st; ⟨o, k it (by simp) o ho, r⟩
  item := by
    intro X hP hw hK hc i pins s σ H E I hf st hg
    subst hP hw hK
    obtain ⟨f0, f1, f2, f3, f4, f5⟩ := hf it (by simp)
    refine (str_walks hty (I.ok.hd hc) it z t).item i s _ E hg st fun v h' tk hP st' hk => ?_
    obtain ⟨c, u, hc', rfl⟩ := hP
    have I1 : Inv X pins σ H { s with heap := h', toks := tk } := I.turned (t' := tk) (fun b o hb e => hk b o (by simpa using hb) e) f0 f1 f3 f4 f5
    obtain ⟨o, e, c2, d⟩ := id st'
    refine ⟨_, rfl, go_of (s := { s with heap := h', toks := tk }) e c2 d (by rcases hty with rfl | rfl <;> decide) ⟨.str ⟨#[c]⟩, H, I1, ⟨u, rfl⟩, ⟨rfl, c, hc', rfl⟩, st', fun b hb => (hf b hb).1⟩⟩
  done := by
    intro X hP hw hK hc i pins s σ H E I hf st hg
    subst hP hw hK
    obtain ⟨f0, f1, f2, f3, f4, f5⟩ := hf it (by simp)
    have hg' : z.cps.size ≤ i := hg
    rcases hty with rfl | rfl
    · exact wpAny_pyNext_ascii_end (I.ok.hd hc) st (by simp; exact hg') fun h' he' => ⟨rfl, I.turned (t' := s.toks) (fun b o hb e => he' b o hb e) f0 f1 f3 f4 f5⟩
    · exact wpAny_pyNext_wide_end (I.ok.hd hc) st (by simp; exact hg') fun h' he' => ⟨rfl, I.turned (t' := s.toks) (fun b o hb e => he' b o hb e) f0 f1 f3 f4 f5⟩
  self := fun A i s Q E st h => by
    rcases hty with rfl | rfl
    · exact wpAny_pyIter_striter_ascii st h
    · exact wpAny_pyIter_striter_wide st h
def iAny (K : PySem.W.Frag) (tl : TE) : TI := fun σ H R => tl σ H fun x H1 => (∃ a, x = .ref a ∧ (∃ xs, SqL K H1 a xs) ∧ R (Itl K a) H1) ∨ (∃ a, x = .ref a ∧ (∃ xs, SqT K H1 a xs) ∧ R (Itt K a) H1) ∨ ∃ z, x = .str z ∧ R (Its z) H1
section
variable {X : Cx} {tg : Expr}
theorem pi_any {l : Expr} {tl : TE} (hl : PE X l tl) : PI X tg l (iAny X.K tl) := by
  intro pins s σ H R I h
  refine thn (hl pins s σ H _ I h) fun v s1 ⟨x, H1, I1, r1, q1⟩ => ?_
  have fin : ∀ b ∈ [s1.heap.objs.size], FpOk X pins H1 b := fun b hb => by
    have e : b = s1.heap.objs.size := by simpa using hb
    subst e
    exact I1.fpOk (Nat.le_refl _) (I1.hok.fresh (Nat.le_refl _))
  rcases q1 with ⟨a, e, ⟨xs, hq⟩, q⟩ | ⟨a, e, ⟨xs, hq⟩, q⟩ | ⟨z, e, q⟩
  · subst e
    cases r1
    obtain ⟨its, rv, p, hz⟩ := I1.list hq
    refine wpAny_pyIter_list p.isList ?_
    exact ⟨s1.heap.objs.size, [s1.heap.objs.size], _, _, H1, rfl, I1.kept (t' := s1.toks) fun b o e => Heap.get?_push_of_some _ e, turn_list a _, ⟨_, Heap.get?_push_size _ rfl, rfl, rfl⟩, fin, q⟩
  · subst e
    cases r1
    obtain ⟨its, rv, p, hz⟩ := I1.tuple hq
    refine wpAny_pyIter_tuple (show s1.heap.IsTuple a its.toArray from p) ?_
    exact ⟨s1.heap.objs.size, [s1.heap.objs.size], _, _, H1, rfl, I1.kept (t' := s1.toks) fun b o e => Heap.get?_push_of_some _ e, turn_tuple a _, ⟨_, Heap.get?_push_size _ rfl, rfl, rfl⟩, fin, q⟩
  · subst e
    obtain ⟨t, rfl⟩ := r1
    cases ha : z.cps.all (· < 128)
    · exact wpAny_pyIter_wide ha ⟨s1.heap.objs.size, [s1.heap.objs.size], _, _, H1, rfl, I1.kept (t' := s1.toks) fun b o e => Heap.get?_push_of_some _ e, turn_str (.inr rfl) z t _, ⟨_, Heap.get?_push_size _ rfl, rfl, rfl⟩, fin, q⟩
    · exact wpAny_pyIter_ascii ha ⟨s1.heap.objs.size, [s1.heap.objs.size], _, _, H1, rfl, I1.kept (t' := s1.toks) fun b o e => Heap.get?_push_of_some _ e, turn_str (.inl rfl) z t _, ⟨_, Heap.get?_push_size _ rfl, rfl, rfl⟩, fin, q⟩
end
def signsD (z : Str) : List D := z.cps.toList.map fun c => D.str ⟨#[c]⟩
def itemsD : D → Option (List D)
  | .lst ds => some ds
  | .tup ds => some ds
  | .str z => some (signsD z)
  | _ => none
def fItA (f : FE) : FL := fun δ => (f δ).bind fun p δ => lift (itemsD p.fz) δ
theorem snd_iAny {X : Cx} {te : TE} {fe : FE} (he : SndE X te fe) : SndI X (iAny X.K te) (fItA fe) := by
  intro M G0 H0 G H σ δ q δ' R S e k
  rcases Rs.inv e with ⟨s, δ1, e1, e⟩ | ⟨x, e1, rfl⟩
  rotate_left
  · exact he M G0 H0 G H σ δ _ _ _ S e1 k
  obtain ⟨ds, e2, rfl, rfl⟩ := lift_inv e
  refine he.toV M G0 H0 G H σ δ s _ _ S e1 fun x G1 H1 S1 g1 r1 => ?_
  cases hd : s.fz with
  | lst es =>
    rw [hd] at e2 r1; cases e2
    obtain ⟨a, vs, rfl, hq, r⟩ := rep_lst r1
    refine .inl ⟨a, rfl, ⟨vs, (same_ls S1.gh hq).sq⟩, k _ G1 H1 S1 g1 ⟨fun H' i hh hi => ?_, fun H' i x H'' hh hi y => ?_, fun H' hh => ⟨vs, (same_ls hh hq).sq, by rw [r.len]; exact Nat.le_refl _⟩⟩⟩
    · have hv : i < vs.length := by rw [r.len]; exact hi
      exact ⟨vs, vs[i], (same_ls hh hq).sq, List.getElem?_eq_getElem hv⟩
    · obtain ⟨e, y⟩ := y
      obtain ⟨d, e1, e2⟩ := r.atV (y vs (same_ls hh hq).sq)
      exact ⟨e, d, e1, e2⟩
  | tup es =>
    rw [hd] at e2 r1; cases e2
    obtain ⟨a, vs, rfl, hq, r⟩ := rep_tup r1
    refine .inr (.inl ⟨a, rfl, ⟨vs, same_sqT S1.gh hq⟩, k _ G1 H1 S1 g1 ⟨fun H' i hh hi => ?_, fun H' i x H'' hh hi y => ?_, fun H' hh => ⟨vs, same_sqT hh hq, by rw [r.len]; exact Nat.le_refl _⟩⟩⟩)
    · have hv : i < vs.length := by rw [r.len]; exact hi
      exact ⟨vs, vs[i], same_sqT hh hq, List.getElem?_eq_getElem hv⟩
    · obtain ⟨e, y⟩ := y
      obtain ⟨d, e1, e2⟩ := r.atV (y vs (same_sqT hh hq))
      exact ⟨e, d, e1, e2⟩
  | str z =>
    rw [hd] at e2 r1; cases e2
    cases rep_str r1
    have hl : (signsD z).length = z.cps.size := by simp [signsD]
    refine .inr (.inr ⟨z, rfl, k _ G1 H1 S1 g1 ⟨fun H' i hh hi => by rw [hl] at hi; exact hi, fun H' i x H'' hh hi y => ?_, fun H' hh => by rw [hl]; exact Nat.le_refl _⟩⟩)
    obtain ⟨e, c, hc, rfl⟩ := y
    refine ⟨e, D.str ⟨#[c]⟩, ?_, .str _⟩
    unfold signsD
    rw [List.getElem?_map]
    have : z.cps.toList[i]? = some c := by simpa using hc
    rw [this]; rfl
  | non => rw [hd] at e2; cases e2
  | bl _ => rw [hd] at e2; cases e2
  | int _ => rw [hd] at e2; cases e2
  | ty _ => rw [hd] at e2; cases e2
  | dct _ _ => rw [hd] at e2; cases e2
  | exc _ => rw [hd] at e2; cases e2
theorem di_any {X : Cx} {tg iter : Expr} {fe : FE} (h : DE X iter fe) : DI X tg iter (fItA fe) := let ⟨_, a1, a2⟩ := h; ⟨_, pi_any a1, snd_iAny a2⟩
/-! ### texts: slices, int(text), index -/
theorem part_of {v : Value} {o : Option Int} (h : IsPart v o) : ∃ l : Option (Int × Tok), v = partValue l ∧ l.map (·.1) = o := by
  cases h with
  | none => exact ⟨none, rfl, rfl⟩
  | int i t => exact ⟨some (i, t), rfl, rfl⟩
def cutS (z : Str) (lo hi : Option Int) : Str := if (Builtin.Str.strSliceIndices lo hi 1 z.length).length = z.length then z else ⟨((Builtin.Str.strSliceIndices lo hi 1 z.length).filterMap (z.cps[·]?)).toArray⟩
theorem sl_str {X : Cx} : SlR X (fun x lo hi H Q => ∃ z, x = .str z ∧ (cutS z lo hi).length ≤ sizeLine ∧ Q (.str (cutS z lo hi)) H) := by
  intro pins s σ H x v vl vu lo hi sl Q I rx hs pl pu h
  obtain ⟨z, rfl, hz, q⟩ := h
  obtain ⟨t, rfl⟩ := rx
  obtain ⟨l, rfl, rfl⟩ := part_of pl
  obtain ⟨u, rfl, rfl⟩ := part_of pu
  refine ⟨"str", _, F.slot_str_getitem.lookup, typeIs_str _ z t, wpAny_getItem_str_slice (l := l) (u := u) (st := none) ?_ rfl ?_⟩
  · obtain ⟨o, h1, h2, h3⟩ := hs
    exact ⟨o, h1, h2, h3⟩
  · unfold sliceMade slicePicked
    have e1 : ((Option.map (fun x => x.1) (none : Option (Int × Tok))).getD 1) = 1 := rfl
    rw [e1]
    by_cases hw : (Builtin.Str.strSliceIndices (l.map (·.1)) (u.map (·.1)) 1 z.length).length = z.length
    · rw [if_pos (by simp [hw])]
      refine ⟨.str z, H, I, ⟨t, rfl⟩, ?_⟩
      unfold cutS at q
      rw [if_pos hw] at q
      exact q
    · rw [if_neg (by simp [hw])]
      unfold cutS at q hz
      rw [if_neg hw] at q hz
      exact ⟨hz, .str _, H, I.tok _, ⟨_, rfl⟩, q⟩
def slSD (d : D) (lo hi : Option Int) : Option Sl := match d with
  | .lst ds => some (.own (.lst (cutD ds lo hi)))
  | .str z => if (cutS z lo hi).length ≤ sizeLine then some (.val (.str (cutS z lo hi))) else none
  | .tup ds => if ¬ (HT.sIx ds.length 0 lo = 0 ∧ HT.sIx ds.length ds.length hi = ds.length) then some (.val (.tup (cutD ds lo hi))) else none
  | _ => none
theorem s_any {K : PySem.W.Frag} : SndSl K (fun x lo hi H Q => rSlL K x lo hi H Q ∨ rSlT K x lo hi H Q ∨ ∃ z, x = .str z ∧ (cutS z lo hi).length ≤ sizeLine ∧ Q (.str (cutS z lo hi)) H) slSD := by
  intro M G0 H0 G H σ δ x d lo hi s Q S r e k
  unfold slSD at e
  split at e
  · cases e
    obtain ⟨l, xs, rfl, q1, l1⟩ := rep_lst r
    refine .inl ⟨l, xs, rfl, (same_ls S.gh q1).sq, fun p hp => ?_⟩
    obtain ⟨S2, g2, r⟩ := S.newLst hp (l1.cut lo hi)
    exact k _ _ _ S2 g2 r
  · split at e
    · rename_i hz
      cases e
      cases rep_str r
      exact .inr (.inr ⟨_, rfl, hz, k _ G H S (Gr.refl ..) (.val (.str _))⟩)
    · cases e
  · split at e
    · rename_i hw
      cases e
      obtain ⟨l, xs, rfl, q1, l1⟩ := rep_tup r
      refine .inr (.inl ⟨l, xs, rfl, same_sqT S.gh q1, by rw [l1.len]; exact hw, fun p hp => ?_⟩)
      obtain ⟨S2, g2, r⟩ := S.newTup hp (l1.cut lo hi)
      exact k _ _ _ S2 g2 r
    · cases e
  · cases e
section
variable {X : Cx} {e : Expr} {es : List Expr} {f1 : FE} {fl : FL} {pos p : Pos}
theorem de_slS {lo hi : Option Expr} {fl fh : FO} {p2 : Pos} (ha : DE X e f1) (hl : DP X lo fl) (hh : DP X hi fh) : DE X (.Subscript e (.Slice lo hi none p2) pos) (fSl slSD f1 fl fh) :=
  let ⟨_, a1, a2⟩ := ha; let ⟨_, b1, b2⟩ := hl; let ⟨_, y1, y2⟩ := hh; ⟨_, pe_slice (sl_list.or (sl_tup.or sl_str)) a1 b1 y1, snd_sl s_any a2 b2 y2⟩
end
end L4


namespace L4
open PySem PySem.Spec PyProof.Rows L2
/-! ### methods of a text -/
/-! ### all, any of a list of bools -/
def blsOf : List D → Option (List Bool)
  | [] => some []
  | .bl b :: r => (blsOf r).map (b :: ·)
  | _ => none
theorem rep_bls {K : PySem.W.Frag} {G : Hp} : ∀ {vs : List V} {ds : List D} {bs : List Bool}, RepL K G vs ds → blsOf ds = some bs → vs = bs.map V.bl
  | _, _, _, .nil, e => by cases e; rfl
  | _, _, _, .cons h r, e => by
    rename_i v vs d ds
    cases d with
    | bl b =>
      obtain ⟨bs, e1, e2⟩ := Option.map_eq_some_iff.mp (show (blsOf ds).map (b :: ·) = some _ from e)
      subst e2
      rw [rep_bl h, rep_bls r e1]
      rfl
    | _ => cases e
theorem truth_bools {prog : Program} {w : World} {A : Around} {bs : List Bool} {items : Array Value} (h : Vals (bs.map V.bl) items.toList) : TruthOf prog w A (fun i v => items[i]? = some v) (fun i => bs.getD i false) := by
  intro i v s Q E hv hQ
  have hv' : items.toList[i]? = some v := by simpa using hv
  have hi : i < bs.length := by
    have h1 := h.length
    have h2 := (List.getElem?_eq_some_iff.mp hv').1
    rw [List.length_map] at h1
    omega
  obtain ⟨u, e1, e2⟩ := h.get (i := i) (x := V.bl bs[i]) (by simp [hi])
  rw [hv'] at e1
  cases e1
  cases e2
  refine wpAny_truthy_bool ?_
  have hQ' : Q (bs.getD i false) s := hQ
  rw [show bs.getD i false = bs[i] from by simp [List.getD, hi]] at hQ'
  exact hQ'
theorem all_range (bs : List Bool) : ((List.range bs.length).all fun i => bs.getD i false) = bs.all id := by
  induction bs with
  | nil => rfl
  | cons b r ih =>
    rw [List.length_cons, List.range_succ_eq_map, List.all_cons, List.all_map, List.all_cons]
    have : ((fun i => (b :: r).getD i false) ∘ Nat.succ) = fun i => r.getD i false := by funext i; simp [List.getD]
    rw [this, ih]
    rfl
def rAll (K : PySem.W.Frag) (f : List Bool → Bool) : List V → Hp → VK → Prop := fun xs H Q => ∃ a bs, xs = [.ref a] ∧ LsK K H a (bs.map V.bl) ∧ Q (.bl (f bs)) H
theorem call_all {X : Cx} (hc : X.calm = true) : CallR X (.builtin "all") (rAll X.K fun bs => bs.all id) := by
  intro pins s σ H xs us Q I r h
  obtain ⟨a, bs, rfl, hl, q⟩ := h
  obtain ⟨u, rfl, ru⟩ := vals1 r
  cases ru
  obtain ⟨hz, its, n, rv, hlen, ho⟩ := Inv.lstR I hl
  have hL : s.heap.IsList a its.toArray := ⟨_, ho, rfl, n, rfl⟩
  refine call_all_walk (wpAny_pyIter_list hL ?_)
  have hne : a ≠ s.heap.objs.size := Nat.ne_of_lt (Heap.lt_size ho)
  have hh : X.A.in1.handled = none := I.ok.hd hc
  refine ⟨s.heap.objs.size, _, _, _, _, _, _, rfl, Walks.list hh s.heap.objs.size a hne its.toArray, ⟨⟨_, Heap.get?_push_size _ rfl, rfl, rfl⟩, hL.at fun o e => Heap.get?_push_of_some _ e⟩, truth_bools (bs := bs) (by simpa using rv), fun h' tk hk => ?_⟩
  have e1 : its.toArray.size = bs.length := by rw [List.size_toArray, ← hlen, List.length_map]
  rw [e1, all_range]
  exact ⟨.bl _, H, I.kept (t' := tk) fun b o e => hk b o (by simpa using Nat.ne_of_lt (Heap.lt_size e)) (Heap.get?_push_of_some _ e), rfl, q⟩
def allD (d : D) : Option Sl := match d with | .lst ds => (blsOf ds).map fun bs => .val (.bl (bs.all id)) | _ => none
theorem c_all {K : PySem.W.Frag} : SndN K (rAll K fun bs => bs.all id) (g1 allD) := by
  intro M G0 H0 G H σ δ xs ds s Q S r e k
  unfold g1 at e
  split at e
  · obtain ⟨x, rfl, rr⟩ := repL1 r
    unfold allD at e
    split at e
    · obtain ⟨bs, e1, e2⟩ := Option.map_eq_some_iff.mp e
      subst e2
      obtain ⟨a, vs, rfl, hq, l⟩ := rep_lst rr
      cases rep_bls l e1
      exact ⟨a, bs, rfl, same_ls S.gh hq, k _ G H S (Gr.refl ..) (.val (.bl _))⟩
    · cases e
  · cases e
/-! ### int of a text -/
def intSD (d : D) : Option Sl := match d with
  | .str z => if z.length ≤ 640 then (intText? z).map fun n => .val (.int n) else none
  | d => intD d
section
variable {X : Cx} {e o : Expr} {es : List Expr} {f1 fo : FE} {fl : FL} {pos p : Pos}
theorem bo_all : bootBuiltins "all" = some (.builtin "all") := by decide +kernel
theorem de_all (hc : X.calm = true) (hg : Gl X "all") (hm : X.mg "all" = none) (ha : DA X (e :: es) fl) (he : starEach (e :: es) X.env = (false, eval e X.env) :: starEach es X.env := by rfl) (hpl : (backTo pos (starEach es X.env)).any (·.1) = false := by rfl) :
    DE X (.Call (.Name "all" p) (e :: es) [] pos) (fArgs (g1 allD) fl) := de_blt (call_all hc) c_all hg hm bo_all ha (by decide) (by decide) he hpl
theorem snd_forI {X : Cx} {wi : TI} {fs : FL} {i : Nat} {tb : TS} {F : FS} (hi : SndI X wi fs) (hb : SndS X tb F) : SndS X (tFor wi (gName i) tb) (fFor fs i F) := by
  intro M G0 H0 G H σ δ o E S e k
  rcases thenS_inv e with ⟨ds, δ1, e1, e⟩ | ⟨x, δ1, e1, rfl⟩
  rotate_left
  · exact hi M G0 H0 G H σ δ _ _ _ S e1 k.toX
  refine hi M G0 H0 G H σ δ (.ok ds) δ1 _ S e1 fun J G1 H1 S1 g1 io => ?_
  have k1 := PostS.rebase S1 k
  refine ⟨fun n m σ' H' => m = ds.length - n ∧ n ≤ ds.length ∧ ∃ G' δ', StOk X.K M G1 H0 G' H' σ' δ' ∧ forD i F (ds.drop n) δ' = some o, ⟨ds.length, by simp, Nat.zero_le _, G1, δ1, S1.rebase, by simpa using e⟩, ?_⟩
  rintro n m σ' H' ⟨rfl, hn, G', δ', S', ef⟩
  by_cases hlt : n < ds.length
  · refine .inr ⟨io.go H' n (S'.g0.trans S'.gh) hlt, fun σ2 H2 => ∃ G2 δ2, StOk X.K M G1 H0 G2 H2 σ2 δ2 ∧ forD i F (ds.drop (n + 1)) δ2 = some o, fun σ2 H2 h => ⟨ds.length - (n + 1), by omega, rfl, hlt, h⟩, fun x H2 y => ?_⟩
    obtain ⟨rfl, d, hd, rd⟩ := io.yld H' n x H2 (S'.g0.trans S'.gh) hlt y
    have hde : ds[n] = d := by rw [List.getElem?_eq_getElem hlt] at hd; exact Option.some.inj hd
    rw [List.drop_eq_getElem_cons hlt, hde] at ef
    exact forD_turn hb S' (Rep.mono S'.g0 rd) ef k1 fun σ2 G2 H2 δ2 S2 e2 => ⟨G2, δ2, S2, e2⟩
  · have he : n = ds.length := by omega
    subst he
    rw [List.drop_length] at ef
    cases ef
    exact .inl ⟨io.stop H' (S'.g0.trans S'.gh), k1 σ' G' H' S'⟩
theorem ds_for {i : Nat} {x : Str} {iter : Expr} {body : List Stmt} {tp : Pos} {fs : FL} {F1 : FS} (hN : X.N.Nodup) (hi : X.N[i]? = some x) (hx : Loc X.env.scope x) (hc : X.calm = true) (h : DI X (.Name x tp) iter fs) (hb : DB X body F1) (hp : PassesOwn (model X.prog X.w) X.A X.env X.xe := by first | exact PassesOwn.never | exact PassesOwn.leaving | exact PassesOwn.looking) (hf : X.fn x = true ∨ X.env.scope.names.lookup x = some .local := by first | exact .inl rfl | exact .inr rfl | assumption)
    (hs : ∀ x, foldedSetIterable iter X.env x = pure x := by intro _; rfl) : DS X (.For (.Name x tp) iter body [] pos) (fFor fs i F1) :=
  let ⟨_, a1, a2⟩ := h; let ⟨_, b1, b2⟩ := hb; ⟨_, ps_for hp hc a1 (pg_name hN hi hx hf) b1 hs, snd_forI a2 b2⟩
end
end L4


namespace L4
open PySem PySem.Spec PyProof.Rows L2
def compChk (scope sc : Scope) (M N : List Str) (x : Str) : Bool :=
  (scope.kind == .function) && scope.names.all (fun p => p.2 != .cell) && (scope.names.lookup x == some .local) && scope.names.all (fun p => p.2 != .local || (scope.names.lookup p.1 == some .local && !M.contains p.1)) &&
    scope.names.all (fun p => p.2 != .free || (sc.names.lookup p.1 == some .cell || sc.names.lookup p.1 == some .free)) && scope.names.all (fun p => p.1 != "") && (M.length == N.length) && (M.zip N).all (fun p => p.1 == "" || p.1 == p.2) && decide ((x :: M).Nodup)
theorem comp_ok {X : Cx} {M : List Str} {scope : Scope} {x : Str} {sc : Scope} {N : List Str} (hsc : X.env.scope = sc) (hN : X.N = N) (chk : compChk scope sc M N x = true) : CompOk X M scope x := by
  subst hsc hN
  unfold compChk at chk
  simp only [Bool.and_eq_true] at chk
  obtain ⟨⟨⟨⟨⟨⟨⟨⟨h1, h2⟩, h3⟩, h4⟩, h5⟩, h6⟩, h7⟩, h8⟩, h9⟩ := chk
  have a4 : ∀ p ∈ scope.names, p.2 = .local → scope.names.lookup p.1 = some .local ∧ p.1 ∉ M := fun p hp hl => by
    have := List.all_eq_true.mp h4 p hp
    rw [Bool.or_eq_true] at this
    rcases this with z | z
    · rw [hl] at z; simp at z
    · rw [Bool.and_eq_true] at z
      exact ⟨eq_of_beq z.1, fun hm => by simp [hm] at z⟩
  refine ⟨eq_of_beq h1, fun p hp e => ?_, eq_of_beq h3, fun p hp hl => (a4 p hp hl).1, fun p hp hl => (a4 p hp hl).2, fun p hp hf => ?_, fun p hp e => ?_, eq_of_beq h7, fun p hp => ?_, of_decide_eq_true h9⟩
  · have := List.all_eq_true.mp h2 p hp
    rw [e] at this; simp at this
  · have := List.all_eq_true.mp h5 p hp
    rw [Bool.or_eq_true] at this
    rcases this with z | z
    · rw [hf] at z; simp at z
    · rw [Bool.or_eq_true] at z
      exact z.imp eq_of_beq eq_of_beq
  · have := List.all_eq_true.mp h6 p hp
    rw [e] at this; simp at this
  · have := List.all_eq_true.mp h8 p hp
    rw [Bool.or_eq_true] at this
    exact this.imp eq_of_beq eq_of_beq
theorem GlD.texts {K : PySem.W.Frag} {mg : Str → Option Value} {x : Str} {a : Addr} {ys : List Str} {od : Option Addr} {its : Array Value} {n : Nat} {sl : Array (Option Value)} (h : mg x = some (.ref a)) (hk : K.lookup a = some ⟨.type "tuple", od, .seq its n, sl⟩)
    (hs : its.size ≤ sizeLine) (hv : Vals (ys.map V.str) its.toList) : GlD K mg x (.tup (ys.map D.str)) :=
  ⟨.ref a, _, h, rfl, fun G => .tup (.inr ⟨_, its, n, hk, rfl, rfl, hs, hv⟩) (RepL.map (fun y => .str y) ys)⟩
end L4


namespace L4
open PySem PySem.Spec PyProof.Rows L2
/-! ### sum, max, min of a list of ints; insert -/
def intsOf : List D → Option (List Int)
  | [] => some []
  | .int i :: r => (intsOf r).map (i :: ·)
  | _ => none
theorem intsOf_map (ns : List Int) : intsOf (ns.map D.int) = some ns := by
  induction ns with
  | nil => rfl
  | cons n r ih => rw [List.map_cons]; unfold intsOf; rw [ih]; rfl
theorem rep_ints {K : PySem.W.Frag} {G : Hp} : ∀ {vs : List V} {ds : List D} {ns : List Int}, RepL K G vs ds → intsOf ds = some ns → vs = ns.map V.int
  | _, _, _, .nil, e => by cases e; rfl
  | _, _, _, .cons h r, e => by
    rename_i v vs d ds
    cases d with
    | int b =>
      obtain ⟨bs, e1, e2⟩ := Option.map_eq_some_iff.mp (show (intsOf ds).map (b :: ·) = some _ from e)
      subst e2
      rw [rep_int h, rep_ints r e1]
      rfl
    | _ => cases e
def maxI : List Int → Int
  | [] => 0
  | [n] => n
  | n :: r => max n (maxI r)
theorem maxI_ge : ∀ (ns : List Int) (a : Int), a ∈ ns → a ≤ maxI ns
  | [n], a, h => by simp at h; subst h; exact Int.le_refl _
  | n :: m :: r, a, h => by
    show a ≤ max n (maxI (m :: r))
    rcases List.mem_cons.mp h with rfl | h
    · exact Int.le_max_left _ _
    · exact Int.le_trans (maxI_ge (m :: r) a h) (Int.le_max_right _ _)
theorem maxI_mem : ∀ (ns : List Int), ns ≠ [] → maxI ns ∈ ns
  | [n], _ => by simp [maxI]
  | n :: m :: r, _ => by
    show max n (maxI (m :: r)) ∈ _
    rcases Int.le_total n (maxI (m :: r)) with h | h
    · rw [Int.max_eq_right h]; exact List.mem_cons_of_mem _ (maxI_mem (m :: r) (by simp))
    · rw [Int.max_eq_left h]; exact List.mem_cons_self
def rIntsL (K : PySem.W.Frag) (c : List Int → Bool) (f : List Int → Int) : List V → Hp → VK → Prop := fun xs H Q => ∃ a ns, xs = [.ref a] ∧ LsK K H a (ns.map V.int) ∧ c ns = true ∧ Q (.int (f ns)) H
theorem ints_at {X : Cx} {pins : List (Addr × Obj)} {s : Shared} {σ : L2.St} {H : Hp} {a : Addr} {ns : List Int} (I : Inv X pins σ H s) (hl : LsK X.K H a (ns.map V.int)) : ∃ xs : Array (Int × Tok), s.heap.IsList a (intItems xs) ∧ ns = xs.toList.map (·.1) := by
  obtain ⟨hz, its, n, rv, hlen, ho⟩ := Inv.lstR I hl
  have hi : IntsAre its ns := intsAre_of rv
  obtain ⟨xs, e⟩ := hi.allInts.items
  refine ⟨xs, ?_, ?_⟩
  · rw [← e]; exact ⟨_, ho, rfl, n, rfl⟩
  · rw [← hi.numsOf, ← nums_intItems, ← e]
theorem call_sumL {X : Cx} (hc : X.calm = true) : CallR X (.builtin "sum") (rIntsL X.K (fun _ => true) List.sum) := by
  intro pins s σ H xs us Q I r h
  obtain ⟨a, ns, rfl, hl, _, q⟩ := h
  obtain ⟨u, rfl, ru⟩ := vals1 r
  cases ru
  obtain ⟨zs, h1, h2⟩ := ints_at I hl
  refine sum_intListG (I.ok.hd hc) h1 fun h' tk t' hk => ⟨.int ns.sum, H, I.kept (t' := tk) hk, ⟨t', ?_⟩, q⟩
  rw [preSum_eq, List.take_of_length_le (by simp), h2]
theorem call_maxL {X : Cx} (hc : X.calm = true) : CallR X (.builtin "max") (rIntsL X.K (fun ns => !ns.isEmpty) maxI) := by
  intro pins s σ H xs us Q I r h
  obtain ⟨a, ns, rfl, hl, hne, q⟩ := h
  obtain ⟨u, rfl, ru⟩ := vals1 r
  cases ru
  obtain ⟨zs, h1, h2⟩ := ints_at I hl
  have hn : ns ≠ [] := by intro z; subst z; cases hne
  have hsz : 0 < zs.size := by
    have : 0 < ns.length := List.length_pos_iff.mpr hn
    rw [h2, List.length_map, Array.length_toList] at this
    exact this
  refine max_intList (I.ok.hd hc) h1 hsz fun v h' tk hv hk => ?_
  obtain ⟨t, rfl⟩ := intItems_at hv
  obtain ⟨b1, b2⟩ := argBest_gt (numAt zs) (zs.size - 1)
  have m1 : numAt zs (argBest (fun i j => decide (numAt zs i > numAt zs j)) (zs.size - 1)) ∈ ns := by
    rw [h2, numAt_eq]; exact getD_mem (by rw [List.length_map, Array.length_toList]; omega)
  have m2 : ∀ a, a ∈ ns → a ≤ numAt zs (argBest (fun i j => decide (numAt zs i > numAt zs j)) (zs.size - 1)) := fun a ha => by
    rw [h2] at ha
    obtain ⟨j, hj, rfl⟩ := mem_getD ha
    rw [List.length_map, Array.length_toList] at hj
    rw [← numAt_eq]; exact b2 j (by omega)
  refine ⟨.int (maxI ns), H, I.kept (t' := tk) hk, ⟨t, ?_⟩, q⟩
  rw [Int.le_antisymm (maxI_ge ns _ m1) (m2 _ (maxI_mem ns hn))]
def intsD (c : List Int → Bool) (f : List Int → Int) (d : D) : Option Sl := match d with
  | .lst ds => (match intsOf ds with | some ns => if c ns = true then some (.val (.int (f ns))) else none | none => none)
  | _ => none
def sumLD : D → Option Sl := intsD (fun _ => true) List.sum
def maxLD : D → Option Sl := intsD (fun ns => !ns.isEmpty) maxI
theorem c_intsL {K : PySem.W.Frag} {c : List Int → Bool} {f : List Int → Int} : SndN K (rIntsL K c f) (g1 (intsD c f)) := by
  intro M G0 H0 G H σ δ xs ds s Q S r e k
  unfold g1 at e
  split at e
  · obtain ⟨x, rfl, rr⟩ := repL1 r
    unfold intsD at e
    split at e
    · split at e
      · rename_i ns e1
        split at e
        · rename_i hc
          cases e
          obtain ⟨a, vs, rfl, hq, l⟩ := rep_lst rr
          cases rep_ints l e1
          exact ⟨a, ns, rfl, same_ls S.gh hq, hc, k _ G H S (Gr.refl ..) (.val (.int _))⟩
        · cases e
      · cases e
    · cases e
  · cases e
section
variable {X : Cx} {e : Expr} {es : List Expr} {fl : FL} {pos p : Pos}
theorem bo_sum : bootBuiltins "sum" = some (.builtin "sum") := by decide +kernel
theorem de_sumL (hc : X.calm = true) (hg : Gl X "sum") (hm : X.mg "sum" = none) (ha : DA X (e :: es) fl) (he : starEach (e :: es) X.env = (false, eval e X.env) :: starEach es X.env := by rfl) (hpl : (backTo pos (starEach es X.env)).any (·.1) = false := by rfl) :
    DE X (.Call (.Name "sum" p) (e :: es) [] pos) (fArgs (g1 sumLD) fl) := de_blt (call_sumL hc) c_intsL hg hm bo_sum ha (by decide) (by decide) he hpl
theorem de_maxL (hc : X.calm = true) (hg : Gl X "max") (hm : X.mg "max" = none) (ha : DA X (e :: es) fl) (he : starEach (e :: es) X.env = (false, eval e X.env) :: starEach es X.env := by rfl) (hpl : (backTo pos (starEach es X.env)).any (·.1) = false := by rfl) :
    DE X (.Call (.Name "max" p) (e :: es) [] pos) (fArgs (g1 maxLD) fl) := de_blt (call_maxL hc) c_intsL hg hm bo_max ha (by decide) (by decide) he hpl
end
/-! x.insert(k, v) -/
def insAt {α : Type} (xs : List α) (k : Nat) (x : α) : List α := xs.take k ++ x :: xs.drop k
def rInsert : V → List V → Hp → VK → Prop := fun x vs H Q => ∃ l xs i y, x = .ref l ∧ vs = [.int i, y] ∧ H l = some (.lst xs) ∧ 0 ≤ i ∧ i ≤ xs.length ∧ xs.length < sizeLine ∧ Q .non (upd H l (.lst (insAt xs i.toNat y)))
theorem Vals.ins {x : V} {u : Value} (r : RelV x u) {xs : List V} {us : List Value} (k : Nat) (h : Vals xs us) : Vals (insAt xs k x) (insAt us k u) := (h.take k).append (.cons r (h.drop k))
theorem insAt_length {α : Type} (xs : List α) (k : Nat) (x : α) : (insAt xs k x).length = xs.length + 1 := by
  unfold insAt
  rw [List.length_append, List.length_cons, List.length_take, List.length_drop]
  omega
theorem mt_insert {X : Cx} : MtM X "list.insert" rInsert := by
  intro pins s σ H x vs v us Q I rx rv h
  obtain ⟨l, xs, i, y, rfl, rfl, hH, h0, hi, hz, q⟩ := h
  cases rx
  obtain ⟨u1, u2, rfl, ⟨t, rfl⟩, r2⟩ := rv.two
  obtain ⟨z, its, n, r, hl, e⟩ := I.lstM hH
  have hf : Builtin.List.listFitsIndex i = true := by
    unfold Builtin.List.listFitsIndex
    have : sizeLine = 16777216 := by decide
    simp
    omega
  refine call_meets F.slot_list_insert ⟨_, e, rfl⟩ F.entry_list_insert (F.args_list_insert_3 _ _ _) (AutoSeq1.list_insert_list_int_val_1 l its.toArray n i t u2 (by simp [hf]) (by rw [List.size_toArray]; omega)) ⟨e, ?_⟩
  refine ⟨.non, _, I.lset (its' := insAt its i.toNat u2) hH e ?_ (L4.Vals.ins r2 _ r) ?_, rfl, q⟩
  · show (its.toArray.extract 0 (if i < 0 then (i + (its.toArray.size : Int)).toNat else min i.toNat its.toArray.size)).push u2 ++ its.toArray.extract (if i < 0 then (i + (its.toArray.size : Int)).toNat else min i.toNat its.toArray.size) = (insAt its i.toNat u2).toArray
    rw [if_neg (by omega), List.size_toArray, Nat.min_eq_left (by omega)]
    unfold insAt
    apply Array.ext'
    simp
    exact List.take_of_length_le (by rw [List.length_drop]; exact Nat.le_refl _)
  · rw [insAt_length]; omega
def gInsert (ds es : List D) : Option (List D × D) := match es with
  | [.int i, d] => if 0 ≤ i ∧ i ≤ ds.length ∧ ds.length < sizeLine then some (insAt ds i.toNat d, .non) else none
  | _ => none
theorem RepL.ins {K : PySem.W.Frag} {G : Hp} {v : V} {d : D} (h : Rep K G v d) {vs : List V} {ds : List D} (k : Nat) (r : RepL K G vs ds) : RepL K G (insAt vs k v) (insAt ds k d) := (RepL.take k r).app (.cons h (RepL.drop k r))
theorem m_insert {K : PySem.W.Frag} : SndM K rInsert gInsert := by
  intro G H p vs xs ds es ds' d Q S hp r1 r2 e k
  unfold gInsert at e
  split at e
  · split at e
    · rename_i i d' hl
      cases e
      obtain ⟨x, y, rfl, q1, q2⟩ := repL2 r2
      cases rep_int q1
      exact ⟨p, vs, i, y, rfl, rfl, hp, hl.1, by rw [r1.len]; exact hl.2.1, by rw [r1.len]; exact hl.2.2, k _ _ (RepL.ins q2 _ r1) .non⟩
    · cases e
  · cases e
section
variable {X : Cx} {e o : Expr} {es : List Expr} {fe : FE} {fl : FL} {pos p : Pos}
theorem de_insert (i : Nat) {x : Str} {apos cpos np : Pos} (h : DA X (e :: es) fl) (hN : X.N[i]? = some x := by rfl) (hv : Vis X.env.scope x := by first | exact Or.inl rfl | exact Or.inr (Or.inl rfl) | exact Or.inr (Or.inr rfl)) (hd : (x == ("__debug__" : Str)) = false := by decide) (hcd : (x == ("__classdict__" : Str)) = false := by decide)
    (hbase : attributeBase (.Name x np) "insert" X.env (eval (.Name x np) X.env) = eval (.Name x np) X.env := by rfl)
    (hfew : ((backTo cpos (starEach (e :: es) X.env)).all (fun x => !x.1) && (backToKw cpos (keywordEach [] X.env)).all (fun x => x.1.isSome)
      && decide ((e :: es).length + ([] : List Keyword).length + (if ([] : List Keyword).isEmpty then 0 else 1) < 30)) = true := by rfl)
    (hline : (apos.endLine == cpos.line) = true := by rfl) (hs : starEach (e :: es) X.env = (false, eval e X.env) :: starEach es X.env := by rfl) (hplain : (backTo cpos (starEach es X.env)).any (·.1) = false := by rfl) :
    DE X (.Call (.Attribute (.Name x np) "insert" apos) (e :: es) [] cpos) (fMut i gInsert fl) :=
  let ⟨_, a1, a2⟩ := h; ⟨_, pe_bm PySem.F.plainAttrs_list PySem.F.slot_list_insert PySem.F.type_list_insert mt_insert (pv i hN hv hd hcd) a1 hbase hfew hline hs hplain, snd_mut m_insert a2⟩
end
end L4


namespace L4
open PySem L2
/-! ### more values, for rewriting -/
theorem isi_str (x : Str) : isiD (.str x) (.ty "str") = some (.val (.bl true)) := rfl
end L4


namespace L4
open PySem PySem.Spec PyProof.Rows L2
section
variable {X : Cx} {pins : List (Addr × Obj)} {σ : L2.St} {H : Hp} {s : Shared}
theorem hok_there {P : Program} {w : World} {h : Heap} (hok : HOk P w H h) {b : Addr} {o : HO} (q : H b = some o) : ∃ ob, h.get? b = some ob := by
  have k := hok b o q
  cases o with
  | lst xs => obtain ⟨_, its, n, _, e⟩ := k; exact ⟨_, e⟩
  | tup xs => obtain ⟨_, its, _, ob, e, _⟩ := k; exact ⟨_, e⟩
  | dK kvs => obtain ⟨_, _, _, _, ob, _, _, e, _⟩ := k; exact ⟨_, e⟩
  | dT kvs => obtain ⟨_, _, _, _, ob, _, _, e, _⟩ := k; exact ⟨_, e⟩
  | set S n => obtain ⟨ob, _, _, _, e, _⟩ := k; exact ⟨_, e⟩
  | ins C dx fs => obtain ⟨_, _, _, e, _⟩ := k; exact ⟨_, e⟩
  | own y => obtain ⟨ob, e⟩ := k; exact ⟨_, e⟩
  | xd fs => obtain ⟨mA, ⟨od, _, _, e, _⟩, _⟩ := k; exact ⟨_, e⟩
  | rng lo hi => obtain ⟨_, _, _, e⟩ := k; exact ⟨_, e⟩
  | frz ob u => obtain ⟨e, _⟩ := k; exact ⟨_, e⟩
  | tbl ps => have e : h.get? b = some { cls := .none, data := .fields ps } := k; exact ⟨_, e⟩
  | met f y => have e : h.get? b = some (PySem.W.methodObj (.ref f) (.ref y)) := k; exact ⟨_, e⟩
  | ext φ => obtain ⟨_, ⟨ob, e⟩, _⟩ := k; exact ⟨_, e⟩
theorem Inv.new (I : Inv X pins σ H s) {b : Addr} (hb : s.heap.get? b = none) : New X pins b ∧ H b = none := by
  refine ⟨⟨fun hx => ?_, fun p hp z => ?_⟩, ?_⟩
  · cases q' : X.s₀.heap.get? b with
    | none => rfl
    | some o =>
      obtain ⟨o', z⟩ := I.base.there b o q' hx
      rw [hb] at z; cases z
  · have := (I.pin p hp).1
    rw [z, hb] at this; cases this
  · cases q : H b with
    | none => rfl
    | some o => obtain ⟨ob, z⟩ := hok_there I.hok q; rw [hb] at z; cases z
end
abbrev veBm : List Value := [.type "ValueError", .type "Exception", .type "BaseException", .type "object"]
structure ExC (K : PySem.W.Frag) (x : Str) (C : Addr) : Prop where
  at' : ExN K x (.ref C)
  is : PySem.W.excIn K C veBm "ValueError.__new__" = true
theorem ExC.obj {K : PySem.W.Frag} {x : Str} {C : Addr} {h : Heap} (c : ExC K x C) (KX : K.In h) :
    ∃ bm N nm q bs hdct sn sub ab col dd k0 k1 k2 k3 k5 mN, h.get? C = some (excClassObj nm q C N bs bm hdct sn sub ab col dd k0 k1 k2 k3 k5 "ValueError.__new__") ∧ h.Ns N mN ∧ mN "__init__" = none ∧ OwnTail h veBm bm := by
  have q := c.is
  unfold PySem.W.excIn at q
  split at q
  · rename_i dd cd sl ho
    split at q
    · rename_i C' bm k0 k1 k2 k3 n k5 hm hs
      simp only [Bool.and_eq_true, beq_iff_eq, Bool.not_eq_true'] at q
      obtain ⟨⟨⟨⟨⟨e1, e2⟩, e3⟩, e4⟩, e5⟩, e6⟩ := q
      subst e1 e2
      cases cd with
      | mk nm bs mro ns qn hd sn sub ab col del =>
        dsimp only at hm e3 e5 e6
        subst hm e3
        have es : sl = #[k0, k1, k2, k3, some (.builtin "ValueError.__new__"), k5] := by
          cases sl with
          | mk l => simp only at hs; rw [hs]
        subst es
        exact ⟨bm, ns, nm, qn, bs, hd, sn, sub, ab, col, dd, k0, k1, k2, k3, k5, _, KX _ _ ho, .of_isNs (PySem.W.isNs_of_in KX e5), PySem.W.nsMap_none_of_in KX e5 e6, PySem.W.tail_of_in KX e4⟩
    · cases q
  · cases q
section
variable {X : Cx} {x : Str} {C : Addr} {np cpos pos : Pos} {e : Expr} {es : List Expr} {t : TA} {fl : FL}
end
end L4


namespace L4
open PySem PySem.Spec PyProof.Rows L2
/-! ### try -/
abbrev _root_.L2.Cx.suite (X : Cx) (e : Addr) (E : Value → Shared → Prop) : Cx := { X with A := X.A.mark (some (.ref e)), calm := false, xe := E }
section
variable {X : Cx} {pins pins' pn : List (Addr × Obj)} {σ : L2.St} {H : Hp} {s : Shared} {e : Addr} {E E₁ : Value → Shared → Prop} {J : Value → Shared → Prop}
theorem _root_.L2.Inv.suite (I : Inv X pins σ H s) : Inv (X.suite e E) pins σ H s :=
  ⟨⟨I.ok.mod, I.ok.kind, I.ok.glob, I.ok.blt, I.ok.above, I.ok.inj, I.ok.has, I.ok.cab, (fun z => nomatch z), I.ok.frames, I.ok.stk, I.ok.exf, I.ok.bs, I.ok.bsz, I.ok.noex, I.ok.exfs, I.ok.funs, I.ok.frf⟩, I.os, I.bare, I.base, I.loc, I.cell, I.free, I.freeC, I.pin, I.hok, I.len⟩
theorem _root_.L2.Inv.unsuite {σ' : L2.St} {H' : Hp} {s' : Shared} (I : Inv X pins σ H s) (I' : Inv (X.suite e E) pins σ' H' s') : Inv X pins σ' H' s' := ⟨I.ok, I'.os, I'.bare, I'.base, I'.loc, I'.cell, I'.free, I'.freeC, I'.pin, I'.hok, I'.len⟩
theorem Air.sub {N N' : Addr → Prop} {h : Heap} {C : Value} (a : Air N H h e C) (k : ∀ b, N b → N' b) : Air N' H h e C := by
  refine ⟨k _ a.n, a.f, ?_⟩
  obtain ⟨oe, vs, e1, e2, e3, e4⟩ := a.ex
  refine ⟨oe, vs, e1, e2, e3, ?_⟩
  rcases e4 with e4 | ⟨T, oT, ts, y1, y2, y3⟩
  · exact .inl e4
  · exact .inr ⟨T, oT, ts, y1, k _ y2, y3⟩
theorem SP.unsuite {D : Ends} {f : Flow} {s' : Shared} (I : Inv X pins σ H s) (h : SP (X.suite e E) pins D f s') : SP X pins D f s' := by
  cases f with
  | next => obtain ⟨σ', H', I', q⟩ := h; exact ⟨σ', H', I.unsuite I', q⟩
  | brk => obtain ⟨σ', H', I', q⟩ := h; exact ⟨σ', H', I.unsuite I', q⟩
  | cont => obtain ⟨σ', H', I', q⟩ := h; exact ⟨σ', H', I.unsuite I', q⟩
  | ret u => obtain ⟨v, σ', H', I', r, q⟩ := h; exact ⟨v, σ', H', I.unsuite I', r, q⟩
theorem _root_.L2.Inv.track {C : Value} (I : Inv X pins σ H s) (a : Air (New X pins) H s.heap e C) (hex : X.ex = []) : Inv X pins σ (upd H e (.ext (XObj e C))) s := by
  obtain ⟨oe, vs, he, hC, hd, _⟩ := a.ex
  obtain ⟨y1, y2, y3⟩ := rec_ne I he hd
  have ne : ∀ b o, H b = some o → b ≠ e := fun b o q z => by rw [z, a.f] at q; cases q
  have n0 : ∀ b o, X.s₀.heap.get? b = some o → b ≠ e := fun b o q z => by rw [z, a.n.1 (by rw [hex]; simp)] at q; cases q
  refine ⟨I.ok, I.os, I.bare, ⟨I.base.keep, I.base.slot, fun b o q n hx => ?_, I.base.there, fun b xs q => ?_, fun b o u q => ?_, fun b ps q => ?_⟩, I.loc, I.cell, ?_, fun x c hc => ?_, fun p hp => ?_, fun b o q => ?_, I.len⟩
  · rw [upd_ne (n0 b o q)]; exact I.base.free b o q n hx
  · have z := I.base.tups b xs q
    rw [upd_ne (ne b _ z)]; exact z
  · have z := I.base.frzs b o u q
    rw [upd_ne (ne b _ z)]; exact z
  · obtain ⟨more, z⟩ := I.base.tbls b ps q
    exact ⟨more, by rw [upd_ne (ne b _ z)]; exact z⟩
  · rw [upd_ne (Ne.symm y1)]; exact I.free
  · rw [upd_ne (y2 x c hc)]; exact I.freeC x c hc
  · obtain ⟨q1, q2, q3⟩ := I.pin p hp
    exact ⟨q1, by rw [upd_ne (a.n.2 p hp)]; exact q2, q3⟩
  · by_cases hb : b = e
    · subst hb
      rw [upd_same] at q
      cases q
      refine ⟨⟨oe, vs, he, hC, hd⟩, ⟨oe, he⟩, fun h1 h2 ⟨o1, v1, z1, z2⟩ k => ⟨o1, v1, k _ z1, z2⟩⟩
    · rw [upd_ne hb] at q
      exact (I.hok b o q).stay (fun _ _ _ z => z) (fun c z => by rw [upd_ne (ne c _ z)]; exact z) fun c xs z => by rw [upd_ne (ne c _ z)]; exact z
theorem _root_.L2.Inv.unset {i : Nat} {n : Str} {h' : Heap} {v : Option Value} {t : Nat} (I : Inv X pins σ H s) (hN : X.N.Nodup) (hi : X.N[i]? = some n) {m : Str → Option Value} (hl : ∀ (i : Nat) (x : Str) (v : V), X.N[i]? = some x → σ[i]? = some (some v) → Vis X.env.scope x → ∃ u, RelV v u ∧ Look X.env s.heap m x u) (hn' : h'.Ns X.env.locals (fun x => if x = n then v else m x)) (hs : Heap.SameBut X.env.locals s.heap h') : Inv X pins (σ.set i none) H { s with heap := h', toks := t } := by
  have cne := I.cne
  have nl : ∀ b o, X.s₀.heap.get? b = some o → b ≠ X.env.locals := fun b o e => Nat.ne_of_lt (Nat.lt_of_lt_of_le (Heap.lt_size e) I.ok.above)
  refine ⟨I.ok, I.os, I.bare, ⟨fun b o e n hb hx => (hs.2 b (nl b o e)).trans (I.base.keep b o e n hb hx), fun b o e n hb hx => ?_, I.base.free, fun b o e hx => ?_, I.base.tups, I.base.frzs, I.base.tbls⟩, ⟨_, hn', fun j y v' e1 e2 e3 => ?_⟩, fun y c e => ?_, I.free, I.freeC, fun p hp => ?_, fun b o q => ?_, by simpa using I.len⟩
  · obtain ⟨sl, e1⟩ := I.base.slot b o e n hb hx
    exact ⟨sl, (hs.2 b (nl b o e)).trans e1⟩
  · obtain ⟨o', e1⟩ := I.base.there b o e hx
    exact ⟨o', (hs.2 b (nl b o e)).trans e1⟩
  · by_cases hj : j = i
    · subst hj
      by_cases hl' : j < σ.length
      · rw [List.getElem?_set_self hl'] at e2; cases e2
      · rw [List.getElem?_eq_none (by simpa using Nat.le_of_not_lt hl')] at e2; cases e2
    · rw [List.getElem?_set_ne (Ne.symm hj)] at e2
      obtain ⟨u', r', q⟩ := hl j y v' e1 e2 e3
      refine ⟨u', r', ?_⟩
      rcases q with ⟨k, e⟩ | ⟨k, c, e, z⟩
      · refine .inl ⟨k, ?_⟩
        have : y ≠ n := fun e => hj (nodup_ix hN e1 (e ▸ hi))
        simp [this, e]
      · exact .inr ⟨k, c, e, z.sameBut hs (cne y c e)⟩
  · obtain ⟨w', z⟩ := I.cell y c e
    exact ⟨w', z.sameBut hs (cne y c e)⟩
  · obtain ⟨e, n, ne, nf, d⟩ := I.pin p hp
    exact ⟨(hs.2 p.1 ne).trans e, n, ne, nf, d⟩
  · refine (I.hok b o q).stay (fun c w' hc z => (hs.2 c ?_).trans z) (fun _ z => z) fun _ _ z => z
    rintro rfl
    rcases hc with hc | hc
    · rw [← hc, I.free] at q; cases q
    · rw [I.free] at hc; cases hc
theorem name_goes {A : Around} {i : Nat} {n : Str} {pos : Pos} {Q : Unit → Shared → Prop} (I : Inv X pins σ H s) (hN : X.N.Nodup) (hi : X.N[i]? = some n) (hx : X.env.scope.names.lookup n = some .local) (k : ∀ s', Inv X pins (σ.set i none) H s' → Q () s') :
    wpAny (model X.prog X.w) A (do bindName X.env n .none; unbindBehindTheSuite X.env n pos) Q E s := by
  obtain ⟨m, hn, hl⟩ := id I.loc
  exact wpAny_nameGoes_keeps hx hn (by rw [I.ok.kind]; rfl) fun h' v hn' hs => k _ (I.unset hN hi hl hn' hs)
end
theorem StOk.unset {K : PySem.W.Frag} {M : Nat → Option Addr} {G0 H0 G H : Hp} {σ : L2.St} {δ : DEnv} (S : StOk K M G0 H0 G H σ δ) (i : Nat) : StOk K M G0 H0 G H (σ.set i none) (δ.set i none) ∧ ∀ p, Ow (σ.set i none) (δ.set i none) p → Ow σ δ p := by
  have at_ : ∀ (j : Nat) (s : Sl), (δ.set i none)[j]? = some (some s) → j ≠ i ∧ δ[j]? = some (some s) := fun j s z => by
    by_cases hj : j = i
    · subst hj
      by_cases hl : j < δ.length
      · rw [List.getElem?_set_self hl] at z; cases z
      · rw [List.getElem?_eq_none (by simpa using Nat.le_of_not_lt hl)] at z; cases z
    · rw [List.getElem?_set_ne (Ne.symm hj)] at z; exact ⟨hj, z⟩
  have ow : ∀ p, Ow (σ.set i none) (δ.set i none) p → Ow σ δ p := fun p ⟨j, s, z1, os, z2⟩ => by
    obtain ⟨hj, z1⟩ := at_ j s z1
    rw [List.getElem?_set_ne (Ne.symm hj)] at z2
    exact ⟨j, s, z1, os, z2⟩
  refine ⟨⟨S.gh, ⟨by simpa using S.env.len, fun j s z => ?_, fun j j' p a b z1 z2 oa ob z3 z4 => ?_⟩, S.h0, S.g0, S.fr, fun p z => S.own0 p (ow p z), fun j d z => ?_⟩, ow⟩
  · obtain ⟨hj, z⟩ := at_ j s z
    rw [List.getElem?_set_ne (Ne.symm hj)]
    exact S.env.at' j s z
  · obtain ⟨h1, z1⟩ := at_ j a z1
    obtain ⟨h2, z2⟩ := at_ j' b z2
    rw [List.getElem?_set_ne (Ne.symm h1)] at z3
    rw [List.getElem?_set_ne (Ne.symm h2)] at z4
    exact S.env.sep j j' p a b z1 z2 oa ob z3 z4
  · obtain ⟨hj, z⟩ := at_ j _ z
    rw [List.getElem?_set_ne (Ne.symm hj)]
    exact S.mt j d z
structure Hd where
  m : Str → Option Bool
  as : Option Nat
  f : FS
def Out.isEx : Out → Bool
  | .ex _ _ => true
  | _ => false
def Out.clear (i : Nat) : Out → Out
  | .next δ => .next (δ.set i none)
  | .brk δ => .brk (δ.set i none)
  | .cont δ => .cont (δ.set i none)
  | .ret s δ => .ret s (δ.set i none)
  | .ex x δ => .ex x δ
def suiteD (h : Hd) (x : XD) (δ : DEnv) : Option Out := match h.as with
  | none => (h.f δ).bind fun o => if o.isEx = true then none else some o
  | some i => (h.f (δ.set i (some (.val (.exc x.c))))).bind fun o => if o.isEx = true then none else some (o.clear i)
def hanD : List Hd → XD → DEnv → Option Out
  | [], _, _ => none
  | h :: r, x, δ => match h.m x.c with
    | some true => suiteD h x δ
    | some false => hanD r x δ
    | none => none
def Takes (K : PySem.W.Frag) (m : Str → Option Bool) (Cn : Value) : Prop := ∀ c b, m c = some b → ∀ C, ExN K c C → PySem.W.exmOne K C Cn = some b
inductive DH (X : Cx) : List ExceptHandler → List Hd → Prop where
  | nil : DH X [] []
  | plain {cn : Str} {np pos : Pos} {b₀ : Stmt} {suite : List Stmt} {rest : List ExceptHandler} {hs : List Hd} {m : Str → Option Bool} {f : FS} {Cn : Value} : Gl X cn → (cn == ("__debug__" : Str)) = false → ExN X.K cn Cn → Takes X.K m Cn →
      (∀ e, DB (X.suite e fun _ _ => False) (b₀ :: suite) f) → DH X rest hs → DH X (.ExceptHandler (some (.Name cn np)) none (b₀ :: suite) pos :: rest) (⟨m, none, f⟩ :: hs)
  | as {cn n : Str} {i : Nat} {np pos : Pos} {b₀ : Stmt} {suite : List Stmt} {rest : List ExceptHandler} {hs : List Hd} {m : Str → Option Bool} {f : FS} {Cn : Value} : Gl X cn → (cn == ("__debug__" : Str)) = false → ExN X.K cn Cn → Takes X.K m Cn →
      X.N.Nodup → X.N[i]? = some n → X.env.scope.names.lookup n = some .local →
      (∀ e, DB (X.suite e fun _ _ => False) (b₀ :: suite) f) → DH X rest hs → DH X (.ExceptHandler (some (.Name cn np)) (some n) (b₀ :: suite) pos :: rest) (⟨m, some i, f⟩ :: hs)
section
variable {X : Cx} {pins : List (Addr × Obj)} {e : Addr} {C : Value} {x : XD} {M : Nat → Option Addr} {G0 H0 : Hp} {D : Ends}
theorem handled (hex : X.ex = []) (nc : ExN X.K x.c C) {hs : List ExceptHandler} {ds : List Hd} (h : DH X hs ds) : ∀ {σ : L2.St} {δ : DEnv} {G H : Hp} {s : Shared} {o : Out}, StOk X.K M G0 H0 G H σ δ → Inv X pins σ H s → Air (New X pins) H s.heap e C → hanD ds x δ = some o → PostS X M G0 H0 D o →
    wpAny (model X.prog X.w) X.A (handleBy (.ref e) X.env hs) (SP X pins D) X.xe s := by
  induction h with
  | nil => intro σ δ G H s o _ _ _ q; cases q
  | @plain cn np pos b₀ suite rest hs m f Cn hg hdb hcn hm hb _ ih =>
    intro σ δ G H s o S I air q k
    obtain ⟨oe, vs, he, hC, hd, _⟩ := id air.ex
    refine wpAny_handleBy_cons (codeAny_handlers_test ?_) (by intro z; cases z)
    refine ld_glob (X := X.suite e fun _ _ => False) I.suite hg (PySem.W.mg_of I.mod.kin I.mod.glob hcn) ?_ hdb
    unfold hanD at q
    dsimp only at q
    have LT : PySem.W.Looks (model X.prog X.w) s.heap (typeOf (.ref e)) C := by
      rw [← hC]
      exact (PySem.W.Looks.ld he).andThen .now
    cases hb' : m x.c with
    | none => rw [hb'] at q; cases q
    | some b =>
      rw [hb'] at q
      refine (PySem.W.exm_one I.kIn LT (hm x.c b hb' C nc)).here ?_
      cases b with
      | false => exact ih S I air q k
      | true =>
        refine codeAny_handlers_suite ?_
        refine air_flight I air hex fun h' I' air' => ?_
        obtain ⟨t, pt, snd⟩ := hb e
        obtain ⟨o1, q1, q2⟩ := Option.bind_eq_some_iff.mp (show (f δ).bind _ = some o from q)
        by_cases hx1 : o1.isEx = true
        · rw [if_pos hx1] at q2; cases q2
        · rw [if_neg hx1] at q2
          have e12 : o1 = o := Option.some.inj q2
          subst e12
          refine wpAny_mono (pt pins _ σ H D I'.suite (snd M G0 H0 G H σ δ o1 D S q1 ?_)) (fun fl s2 z => ?_) fun _ _ z => z.elim
          · cases o1 with
            | ex x' δ' => exact absurd rfl hx1
            | _ => exact k
          · exact SP.unsuite I' z
  | @as cn n i np pos b₀ suite rest hs m f Cn hg hdb hcn hm hN hi hx hb _ ih =>
    intro σ δ G H s o S I air q k
    obtain ⟨oe, vs, he, hC, hd, _⟩ := id air.ex
    refine wpAny_handleBy_cons (codeAny_handlers_test ?_) (by intro z; cases z)
    refine ld_glob (X := X.suite e fun _ _ => False) I.suite hg (PySem.W.mg_of I.mod.kin I.mod.glob hcn) ?_ hdb
    unfold hanD at q
    dsimp only at q
    have LT : PySem.W.Looks (model X.prog X.w) s.heap (typeOf (.ref e)) C := by
      rw [← hC]
      exact (PySem.W.Looks.ld he).andThen .now
    cases hb' : m x.c with
    | none => rw [hb'] at q; cases q
    | some b =>
      rw [hb'] at q
      refine (PySem.W.exm_one I.kIn LT (hm x.c b hb' C nc)).here ?_
      cases b with
      | false => exact ih S I air q k
      | true =>
        refine codeAny_handlers_suite_as ?_
        refine air_flight I air hex fun h' I' air' => ?_
        obtain ⟨t, pt, snd⟩ := hb e
        obtain ⟨o1, q1, q2⟩ := Option.bind_eq_some_iff.mp (show (f (δ.set i (some (.val (.exc x.c))))).bind _ = some o from q)
        have I2 := I'.track air' hex
        obtain ⟨S1, g1, n1⟩ := S.new (o := .ext (XObj e C)) air.f
        obtain ⟨S2, hs2⟩ := S1.showAt (p := e) (o := .ext (XObj e C)) upd_same n1 (fun z => S.noOw air.f z) (Same.free S.h0 air.f)
        have S3 := S2.set i (v := .ref e) (s := .val (.exc x.c)) (.exc nc upd_same) fun z => nomatch z
        refine store_ok (X := X.suite e fun _ _ => False) I2.suite hN hi (.inl hx) (v := .ref e) rfl (fun s3 I3 => ?_) (.inr hx)
        by_cases hx1 : o1.isEx = true
        · rw [if_pos hx1] at q2; cases q2
        · rw [if_neg hx1] at q2
          cases q2
          refine wpAny_mono (pt pins _ _ _ { nx := fun σ H => D.nx (σ.set i none) H, rt := D.rt, bk := fun σ H => D.bk (σ.set i none) H, ct := fun σ H => D.ct (σ.set i none) H } I3 (snd M G0 H0 _ _ _ _ o1 _ S3 q1 ?_)) (fun fl s4 z => ?_) fun _ _ z => z.elim
          · cases o1 with
            | ex x' δ' => exact absurd rfl hx1
            | next δ' => intro σ' G' H' S'; exact k _ G' H' (S'.unset i).1
            | brk δ' => intro σ' G' H' S'; exact k _ G' H' (S'.unset i).1
            | cont δ' => intro σ' G' H' S'; exact k _ G' H' (S'.unset i).1
            | ret r δ' =>
              intro v σ' G' H' S' r'
              obtain ⟨S5, ow⟩ := S'.unset i
              exact k v _ G' H' S5 ⟨r'.1, fun z => let ⟨a, p, e1, e2, e3⟩ := r'.2 z; ⟨a, p, e1, e2, fun y => e3 (ow p y)⟩⟩
          · cases fl with
            | next => obtain ⟨σ', H', I4, q⟩ := z; exact name_goes (I2.unsuite I4) hN hi hx fun s5 I5 => ⟨_, H', I5, q⟩
            | brk => obtain ⟨σ', H', I4, q⟩ := z; exact name_goes (I2.unsuite I4) hN hi hx fun s5 I5 => ⟨_, H', I5, q⟩
            | cont => obtain ⟨σ', H', I4, q⟩ := z; exact name_goes (I2.unsuite I4) hN hi hx fun s5 I5 => ⟨_, H', I5, q⟩
            | ret u => obtain ⟨v, σ', H', I4, r, q⟩ := z; exact name_goes (I2.unsuite I4) hN hi hx fun s5 I5 => ⟨v, _, H', I5, r, q⟩
end
end L4


namespace L4
open PySem PySem.Spec PyProof.Rows PySem.W L2
/-! ### isinstance of an exception -/
def AreT (K : PySem.W.Frag) (cs : List Str) (T : String) : Prop := ∀ c, c ∈ cs → ∀ C, ExN K c C → PySem.W.kitOne K C (.type T) = some true
section
variable {X : Cx} {cs : List Str} {T : String}
end
end L4
namespace L4
open PySem PySem.Spec PyProof.Rows L2
/-! ### which classes a handler takes, by a table -/
def tblM (l : List (Str × Bool)) (c : Str) : Option Bool := l.lookup c
theorem Takes.nil {K : PySem.W.Frag} {Cn : Value} : Takes K (tblM []) Cn := fun c b h => by cases h
theorem Takes.cons {K : PySem.W.Frag} {Cn C : Value} {l : List (Str × Bool)} {a : Str} {b : Bool} (hn : ExN K a C) (he : PySem.W.exmOne K C Cn = some b) (h : Takes K (tblM l) Cn) : Takes K (tblM ((a, b) :: l)) Cn := fun c b' hb C' hc => by
  unfold tblM at hb
  rw [List.lookup_cons] at hb
  split at hb
  · rename_i e
    have e' : c = a := eq_of_beq e
    cases hb
    subst e'
    have := hn.symm.trans hc
    cases this
    exact he
  · exact h c b' hb C' hc
theorem AreT.nil {K : PySem.W.Frag} {T : String} : AreT K [] T := fun c h => by cases h
theorem AreT.cons {K : PySem.W.Frag} {T : String} {C : Value} {l : List Str} {a : Str} (hn : ExN K a C) (he : PySem.W.kitOne K C (.type T) = some true) (h : AreT K l T) : AreT K (a :: l) T := fun c hc C' hn' => by
  rcases List.mem_cons.mp hc with rfl | hc
  · have := hn.symm.trans hn'
    cases this
    exact he
  · exact h c hc C' hn'
section
variable {X : Cx} {cn n : Str} {np pos : Pos} {b₀ : Stmt} {suite : List Stmt} {rest : List ExceptHandler} {hs : List Hd} {m : Str → Option Bool} {f : FS}
end
/-! ### a text, so many times -/
end L4


namespace L4
open PySem PySem.Spec PyProof.Rows Builtin Builtin.Str L2
/-! ### text.lower(), sep.join(texts), f"{e!r}.." -/
section
variable {X : Cx} {o e a b : Expr} {es : List Expr} {fo f1 f2 : FE} {fl : FL} {pos : Pos}
end
end L4


namespace L4
open PySem L2 PySem.Spec PyProof.Rows
section
variable {X : Cx} {a b e : Expr} {es : List Expr} {f1 f2 fe fk : FE} {fl : FL} {p pos : Pos}
/-! ### abs, tuple -/
def tupleD (d : D) : Option Sl := match d with | .lst ds => some (.val (.tup ds)) | .tup ds => some (.val (.tup ds)) | _ => none
theorem c_tuple {K : PySem.W.Frag} : SndN K (fun xs H Q => ∃ p ys, xs = [.ref p] ∧ ((SqL K H p ys ∧ ∀ l, H l = none → Q (.ref l) (upd H l (.tup ys))) ∨ (SqT K H p ys ∧ Q (.ref p) H))) (g1 tupleD) := by
  intro M G0 H0 G H σ δ xs ds s Q S r e k
  unfold g1 at e
  split at e
  · rename_i d
    obtain ⟨x, rfl, rr⟩ := repL1 r
    unfold tupleD at e
    split at e
    · rename_i ds
      cases e
      obtain ⟨l, vs, rfl, q1, l1⟩ := rep_lst rr
      refine ⟨l, vs, rfl, .inl ⟨(same_ls S.gh q1).sq, fun q hq => ?_⟩⟩
      obtain ⟨S2, g2, r2⟩ := S.newTup hq l1
      exact k _ _ _ S2 g2 r2
    · rename_i ds
      cases e
      obtain ⟨l, vs, rfl, q1, l1⟩ := rep_tup rr
      exact ⟨l, vs, rfl, .inr ⟨same_sqT S.gh q1, k _ G H S (Gr.refl ..) (.val (.tup q1 l1))⟩⟩
    · cases e
  · cases e
theorem de_tuple_ (hg : Gl X "tuple") (hm : X.mg "tuple" = none) (ha : DA X (e :: es) fl) (he : starEach (e :: es) X.env = (false, eval e X.env) :: starEach es X.env := by rfl) (hpl : (backTo pos (starEach es X.env)).any (·.1) = false := by rfl) :
    DE X (.Call (.Name "tuple" p) (e :: es) [] pos) (fArgs (g1 tupleD) fl) := de_tyc call_tuple_of c_tuple hg hm bo_tuple ha (by decide) (by decide) he hpl
/-! ### tuples one behind the other -/
def catTD (a b : D) : Option Sl := match a, b with
  | .tup (x :: xs), .tup ys => if (x :: xs).length + ys.length ≤ sizeLine then some (.val (.tup (x :: xs ++ ys))) else none
  | _, _ => none
theorem RepL.nil_iff {K : PySem.W.Frag} {G : Hp} {vs : List V} {ds : List D} (r : RepL K G vs ds) : vs = [] ↔ ds = [] := by cases r <;> simp
theorem o_catT {K : PySem.W.Frag} : SndO K (rCatT K) catTD := by
  intro M G0 H0 G H σ δ x y d1 d2 s Q S r1 r2 e k
  unfold catTD at e
  split at e
  · rename_i z zs ys
    split at e
    · rename_i h
      cases e
      obtain ⟨l, xs, rfl, q1, l1⟩ := rep_tup r1
      obtain ⟨b, ws, rfl, q2, l2⟩ := rep_tup r2
      refine ⟨l, b, xs, ws, rfl, rfl, same_sqT S.gh q1, same_sqT S.gh q2, fun z => ?_, by rw [l1.len, l2.len]; exact h, fun hw => ?_, fun hw p hp => ?_⟩
      · cases l1.nil_iff.mp z
      · cases l2.nil_iff.mp hw
        refine k _ G H S (Gr.refl ..) (.val ?_)
        rw [List.append_nil]
        exact .tup q1 l1
      · obtain ⟨S2, g2, r⟩ := S.newTup hp (l1.app l2)
        exact k _ _ _ S2 g2 r
    · cases e
  · cases e
def addTD (a b : D) : Option Sl := match addD a b with | some s => some s | none => catTD a b
theorem de_addT (ha : DE X a f1) (hb : DE X b f2) : DE X (.BinOp a .Add b pos) (fOp addTD f1 f2) := de_bin ⟨_, (op_add.or (op_add_str.or op_catS)).or op_catT, ((o_int0 fun _ _ _ => .int _).or (o_addS.or o_cat)).or o_catT⟩ ha hb
/-! ### great numbers -/
def CMulB (i j : Int) : Prop := CMul i j ∨ (i.natAbs < 2 ^ 256 ∧ j.natAbs < 2 ^ 256)
theorem CMulB.ok {i j : Int} (h : CMulB i j) : IntMulOk i j := by
  rcases h with h | ⟨h1, h2⟩
  · exact h.ok
  · have b1 := intBits_le_iff.mpr h1
    have b2 := intBits_le_iff.mpr h2
    unfold IntMulOk
    have : Builtin.Int.intTooBig (Builtin.Int.intBits i + Builtin.Int.intBits j) = false := by
      unfold Builtin.Int.intTooBig
      exact decide_eq_false (by have : bitsLine = 134217728 := by decide
                                omega)
    rw [this]
    simp
/-! ### x += e, of ints -/
/-! ### xs[k] = e, of a list of one's own -/
def setD (j : Nat) (p : D) (k : D) (δ : DEnv) : Option Out := match δ[j]? with
  | some (some s) => if s.isO = true then (match s.fz, k with
    | .lst ds, .int k => (match ixN ds.length k with | some n => some (.next (δ.set j (some (s.now (.lst (ds.set n p)))))) | none => none)
    | _, _ => none) else none
  | _ => none
def fSetI (j : Nat) (fk fe : FE) : FS := fun δ => thenS (fe δ) fun p δ => match δ[j]? with
  | some (some _) => thenS (fk δ) fun q δ => setD j p.fz q.fz δ
  | _ => none
/-! ### x[lo:hi] of a list of one's own, which stays one's own -/
def fSlO (i : Nat) (l h : FO) : FE := fun δ => match δ[i]? with
  | some (some _) => (l δ).bind fun q δ => (h δ).bind fun r δ => (match δ[i]? with
    | some (some s) => if s.isO = true then (match s.fz with | .lst ds => some (.ok (.own (.lst (cutD ds q r))), δ) | _ => none) else none
    | _ => none)
  | _ => none
theorem snd_slO {i : Nat} {tl th : TO} {fl fh : FO} (hl : SndP X tl fl) (hh : SndP X th fh) : SndE X (tSl (rSlL X.K) (tVar i) tl th) (fSlO i fl fh) := by
  intro M G0 H0 G H σ δ q δ' Q S e k
  unfold fSlO at e
  split at e
  · rename_i s0 hi0
    obtain ⟨v, z1, _⟩ := S.env.at' i _ hi0
    refine ⟨v, z1, ?_⟩
    rcases Rs.inv e with ⟨lo, δ1, e1, e⟩ | ⟨x, e1, rfl⟩
    · refine hl M G0 H0 G H σ δ (.ok lo) δ1 _ S e1 fun G1 H1 S1 g1 => ?_
      rcases Rs.inv e with ⟨hi, δ2, e2, e⟩ | ⟨x, e2, rfl⟩
      · refine hh M G0 H0 G1 H1 σ δ1 (.ok hi) δ2 _ S1 e2 fun G2 H2 S2 g2 => ?_
        split at e
        · rename_i s hs
          split at e
          · rename_i os
            split at e
            · rename_i ds hds
              cases e
              obtain ⟨w, y1, r3⟩ := S2.env.at' i _ hs
              rw [z1] at y1; cases y1
              obtain ⟨p, rfl, y3, oo⟩ := r3.own os
              rw [hds] at oo
              obtain ⟨vs, y2, y4⟩ := oo
              refine ⟨p, vs, rfl, SqL.of y2, fun p' hp => ?_⟩
              obtain ⟨S3, g3, r⟩ := S2.newLst hp (y4.cut lo hi)
              exact k _ _ _ S3 (g1.trans (g2.trans g3)) (r.back (g1.trans g2))
            · cases e
          · cases e
        · cases e
      · exact hh M G0 H0 G1 H1 σ δ1 _ _ _ S1 e2 (PostX.after g1 k)
    · exact hl M G0 H0 G H σ δ _ _ _ S e1 k
  · cases e
theorem de_slO (i : Nat) {x : Str} {lo hi : Option Expr} {fl fh : FO} {p2 np : Pos} (hl : DP X lo fl) (hh : DP X hi fh) (hN : X.N[i]? = some x := by rfl) (hv : Vis X.env.scope x := by first | exact Or.inl rfl | exact Or.inr (Or.inl rfl) | exact Or.inr (Or.inr rfl)) (hd : (x == ("__debug__" : Str)) = false := by decide) (hcd : (x == ("__classdict__" : Str)) = false := by decide) :
    DE X (.Subscript (.Name x np) (.Slice lo hi none p2) pos) (fSlO i fl fh) :=
  let ⟨_, b1, b2⟩ := hl; let ⟨_, y1, y2⟩ := hh; ⟨_, pe_slice sl_list (pv i hN hv hd hcd) b1 y1, snd_slO b2 y2⟩
end
end L4


namespace L4
open PySem L2
/-! ### the values, for rewriting -/
theorem fz_val (d : D) : (Sl.val d).fz = d := rfl
theorem fz_own (d : D) : (Sl.own d).fz = d := rfl
theorem fz_lnt (d : D) : (Sl.lnt d).fz = d := rfl
theorem addD_int (i j : Int) : addD (.int i) (.int j) = some (.val (.int (i + j))) := rfl
theorem subD_int (i j : Int) : subD (.int i) (.int j) = some (.val (.int (i - j))) := rfl
theorem modD_int (i j : Int) (h : 0 < j) : modD (.int i) (.int j) = some (.val (.int (i % j))) := by
  show (if decide (0 < j) = true then some (Sl.val (D.int (i % j))) else none) = _
  rw [if_pos (decide_eq_true h)]
theorem fdivD_int (i j : Int) (h : 0 < j) (h2 : j < 1073741824) : fdivD (.int i) (.int j) = some (.val (.int (i / j))) := by
  show (if (decide (0 < j) && decide (j < 1073741824)) = true then some (Sl.val (D.int (i / j))) else none) = _
  rw [if_pos (by rw [decide_eq_true h, decide_eq_true h2]; rfl)]
theorem mulD_int (i j : Int) (h : (-(2 ^ 64) < i ∧ i < 2 ^ 64) ∨ (-(2 ^ 64) < j ∧ j < 2 ^ 64)) : mulD (.int i) (.int j) = some (.val (.int (i * j))) := by
  show (if cMul i j = true then some (Sl.val (D.int (i * j))) else none) = _
  rw [if_pos]
  unfold cMul
  rw [Bool.or_eq_true, Bool.and_eq_true, Bool.and_eq_true]
  exact h.imp (fun z => ⟨decide_eq_true z.1, decide_eq_true z.2⟩) fun z => ⟨decide_eq_true z.1, decide_eq_true z.2⟩
theorem ltD_int (i j : Int) : ltD (.int i) (.int j) = some (.val (.bl (decide (i < j)))) := rfl
theorem leD_int (i j : Int) : leD (.int i) (.int j) = some (.val (.bl (decide (i ≤ j)))) := rfl
theorem gtD_int (i j : Int) : gtD (.int i) (.int j) = some (.val (.bl (decide (j < i)))) := rfl
theorem geD_int (i j : Int) : geD (.int i) (.int j) = some (.val (.bl (decide (j ≤ i)))) := rfl
theorem negD_int (i : Int) : negD (.int i) = some (.val (.int (-i))) := rfl
theorem maxD_int (i j : Int) : maxD (.int i) (.int j) = some (.val (.int (if j > i then j else i))) := rfl
theorem minD_int (i j : Int) : minD (.int i) (.int j) = some (.val (.int (if j < i then j else i))) := rfl
theorem eqOp_int (n : Bool) (i j : Int) : eqOp n (.int i) (.int j) = some (.val (.bl (if n then !decide (i = j) else decide (i = j)))) := by
  unfold eqOp
  rw [if_pos (by rw [show depD (D.int i) = 0 by unfold depD; rfl, show plainD (.int i) = true by unfold plainD; rfl, show plainD (.int j) = true by unfold plainD; rfl]; decide)]
  rw [show eqD (.int i) (.int j) = decide (i = j) from by unfold eqD; by_cases h : i = j <;> simp [h]]
theorem eqOp_bl (n : Bool) (i j : Bool) : eqOp n (.bl i) (.bl j) = some (.val (.bl (if n then !(i == j) else (i == j)))) := by
  unfold eqOp
  rw [if_pos (by rw [show depD (D.bl i) = 0 by unfold depD; rfl, show plainD (.bl i) = true by unfold plainD; rfl, show plainD (.bl j) = true by unfold plainD; rfl]; decide)]
  rw [show eqD (.bl i) (.bl j) = (i == j) from by unfold eqD; rfl]
theorem atI_of {α : Type} {xs : List α} {k : Int} (h0 : 0 ≤ k) (h : k < xs.length) : atI xs k = xs[k.toNat]? := by
  unfold atI ixN
  rw [if_pos h0, if_pos h]
  rfl
theorem ix0_tup (a : D) (r : List D) : ixD (.tup (a :: r)) (.int 0) = some (.val a) := by
  show (atI (a :: r) 0).map Sl.val = _
  rw [show (atI (a :: r) (0 : Int)) = some a from by rw [atI_of (by decide) (by rw [List.length_cons]; omega)]; rfl]
  rfl
theorem ix1_tup (a b : D) (r : List D) : ixD (.tup (a :: b :: r)) (.int 1) = some (.val b) := by
  show (atI (a :: b :: r) 1).map Sl.val = _
  rw [show (atI (a :: b :: r) (1 : Int)) = some b from by rw [atI_of (by decide) (by rw [List.length_cons, List.length_cons]; omega)]; rfl]
  rfl
theorem isi_tup (ds : List D) : isiD (.tup ds) (.ty "tuple") = some (.val (.bl true)) := rfl
theorem isi_lst (ds : List D) : isiD (.lst ds) (.ty "list") = some (.val (.bl true)) := rfl
theorem isi_int (i : Int) : isiD (.int i) (.ty "int") = some (.val (.bl true)) := rfl
theorem isi_int_bool (i : Int) : isiD (.int i) (.ty "bool") = some (.val (.bl false)) := rfl
theorem isi_bl (i : Bool) : isiD (.bl i) (.ty "bool") = some (.val (.bl true)) := rfl
theorem len_lst (ds : List D) : lenD (.lst ds) = some (.val (.int ds.length)) := rfl
theorem gTup2 (a b : D) : gTupD [a, b] = some (.val (.tup [a, b])) := by
  unfold gTupD; rw [if_pos (by show 2 ≤ sizeLine; decide)]
theorem sizeLine_is : sizeLine = 16777216 := by decide
mutual
theorem eqD_refl : ∀ d : D, plainD d = true → eqD d d = true
  | .non, _ => rfl
  | .bl _, _ => by unfold eqD; exact beq_self_eq_true _
  | .int _, _ => by unfold eqD; exact beq_self_eq_true _
  | .str _, _ => by unfold eqD; exact beq_self_eq_true _
  | .tup ds, h => by unfold eqD; exact eqDs_refl ds (by unfold plainD at h; exact h)
  | .lst ds, h => by unfold eqD; exact eqDs_refl ds (by unfold plainD at h; exact h)
  | .ty e, h => by unfold plainD at h; cases h
  | .dct _ _, h => by unfold plainD at h; cases h
  | .exc _, h => by unfold plainD at h; cases h
theorem eqDs_refl : ∀ ds : List D, plainDs ds = true → eqDs ds ds = true
  | [], _ => by unfold eqDs; rfl
  | d :: ds, h => by
    unfold plainDs at h
    rw [Bool.and_eq_true] at h
    unfold eqDs
    rw [eqD_refl d h.1, eqDs_refl ds h.2]
    rfl
end
theorem cell_ix (ns : List Int) (k : Int) (h : 0 ≤ k) (hk : k < (ns.length : Int)) : ixD (.lst (ns.map D.int)) (.int k) = some (.val (.int (ns.getD k.toNat 0))) := by
  have hk' : k.toNat < ns.length := by omega
  show (atI (ns.map D.int) k).map Sl.val = _
  rw [atI_of h (by rw [List.length_map]; exact hk), List.getElem?_map, List.getElem?_eq_getElem hk']
  simp [List.getD, hk']
end L4


namespace Toy
open PySem L4
def ecls : List Str := []
def c_LEAF_KINDS : D := (.tup [(.str "num"), (.str "ref"), (.str "gone"), (.str "area")])
/-- _law_cell_at(_law_script, _law_k): slots 0 _law_script, 1 _law_k, 2 _law_number -/
def f_q_cell_at : FS := (fSeq (fIf (fTb (fOp (eqOp false) (fArgs (g1 lenD) (fCons (fVar 0) fNil)) (fC (.int 0)))) (fRet (fOp modD (fOp mulD (fVar 1) (fC (.int 7919))) (fC (.int 1000003)))) fNext)
    (fSeq (fAsg 2 (fOp ixD (fVar 0) (fOp modD (fVar 1) (fArgs (g1 lenD) (fCons (fVar 0) fNil)))))
    (fRet (fOp modD (fOp addD (fOp addD (fOp mulD (fVar 2) (fC (.int 48271))) (fOp mulD (fVar 1) (fC (.int 7919)))) (fOp mulD (fOp fdivD (fVar 1) (fArgs (g1 lenD) (fCons (fVar 0) fNil))) (fC (.int 104729)))) (fC (.int 1000003))))))
def r_q_cell_at : Fn := runD 3 2 [] f_q_cell_at
/-- _law_ref_by(_law_cell, _law_rows, _law_columns): slots 0 _law_cell, 1 _law_rows, 2 _law_columns, 3 _law_fixed -/
def f_q_ref_by : FS := (fSeq (fAsg 3 (fArgs gTupD (fCons (fOp (eqOp false) (fOp modD (fOp fdivD (fVar 0) (fC (.int 2574))) (fC (.int 2))) (fC (.int 1))) (fCons (fOp (eqOp false) (fOp modD (fOp fdivD (fVar 0) (fC (.int 5148))) (fC (.int 2))) (fC (.int 1))) fNil))))
    (fRet (fArgs gTupD (fCons (fC (.str "ref")) (fCons (fArgs gTupD (fCons (fOp modD (fVar 0) (fVar 1)) (fCons (fOp modD (fOp fdivD (fVar 0) (fC (.int 99))) (fVar 2)) fNil))) (fCons (fVar 3) fNil))))))
def r_q_ref_by : Fn := runD 4 3 [] f_q_ref_by
/-- _law_area_by(_law_cell, _law_other, _law_rows, _law_columns): slots 0 _law_cell, 1 _law_other, 2 _law_rows, 3 _law_columns, 4 _law_one, 5 _law_two, 6 _law_far, 7 _law_first, 8 _law_last -/
def f_q_area_by_7 : FS := (fRet (fArgs gTupD (fCons (fC (.str "area")) (fCons (fArgs gTupD (fCons (fC (.str "ref")) (fCons (fVar 7) (fCons (fOp ixD (fVar 4) (fC (.int 2))) fNil)))) (fCons (fArgs gTupD (fCons (fC (.str "ref")) (fCons (fVar 8) (fCons (fOp ixD (fVar 5) (fC (.int 2))) fNil)))) fNil)))))
def f_q_area_by_6 : FS := (fSeq (fAsg 8 (fArgs gTupD (fCons (fArgs (g2 maxD) (fCons (fOp ixD (fOp ixD (fVar 4) (fC (.int 1))) (fC (.int 0))) (fCons (fOp ixD (fVar 6) (fC (.int 0))) fNil))) (fCons (fArgs (g2 maxD) (fCons (fOp ixD (fOp ixD (fVar 4) (fC (.int 1))) (fC (.int 1))) (fCons (fOp ixD (fVar 6) (fC (.int 1))) fNil))) fNil))))
    f_q_area_by_7)
def f_q_area_by_5 : FS := (fSeq (fAsg 7 (fArgs gTupD (fCons (fArgs (g2 minD) (fCons (fOp ixD (fOp ixD (fVar 4) (fC (.int 1))) (fC (.int 0))) (fCons (fOp ixD (fVar 6) (fC (.int 0))) fNil))) (fCons (fArgs (g2 minD) (fCons (fOp ixD (fOp ixD (fVar 4) (fC (.int 1))) (fC (.int 1))) (fCons (fOp ixD (fVar 6) (fC (.int 1))) fNil))) fNil))))
    f_q_area_by_6)
def f_q_area_by_4 : FS := (fSeq (fIf (fTb (fOp (eqOp false) (fOp modD (fOp fdivD (fVar 0) (fC (.int 10296))) (fC (.int 4))) (fC (.int 2)))) (fAsg 6 (fArgs gTupD (fCons (fOp ixD (fVar 6) (fC (.int 0))) (fCons (fOp ixD (fOp ixD (fVar 4) (fC (.int 1))) (fC (.int 1))) fNil)))) fNext)
    f_q_area_by_5)
def f_q_area_by_3 : FS := (fSeq (fIf (fTb (fOp (eqOp false) (fOp modD (fOp fdivD (fVar 0) (fC (.int 10296))) (fC (.int 4))) (fC (.int 1)))) (fAsg 6 (fArgs gTupD (fCons (fOp ixD (fOp ixD (fVar 4) (fC (.int 1))) (fC (.int 0))) (fCons (fOp ixD (fVar 6) (fC (.int 1))) fNil)))) fNext)
    f_q_area_by_4)
def f_q_area_by_2 : FS := (fSeq (fAsg 6 (fOp ixD (fVar 5) (fC (.int 1))))
    f_q_area_by_3)
def f_q_area_by_1 : FS := (fSeq (fAsg 5 (fCall r_q_ref_by (fCons (fVar 1) (fCons (fVar 2) (fCons (fVar 3) fNil)))))
    f_q_area_by_2)
def f_q_area_by : FS := (fSeq (fAsg 4 (fCall r_q_ref_by (fCons (fVar 0) (fCons (fVar 2) (fCons (fVar 3) fNil)))))
    f_q_area_by_1)
def r_q_area_by : Fn := runD 9 4 [] f_q_area_by
/-- _law_leaf_by(_law_script, _law_k, _law_rows, _law_columns): slots 0 _law_script, 1 _law_k, 2 _law_rows, 3 _law_columns, 4 _law_cell, 5 _law_other, 6 _law_area -/
def f_q_leaf_by : FS := (fSeq (fAsg 4 (fCall r_q_cell_at (fCons (fVar 0) (fCons (fVar 1) fNil))))
    (fSeq (fAsg 5 (fCall r_q_cell_at (fCons (fVar 0) (fCons (fOp addD (fVar 1) (fC (.int 100))) fNil))))
    (fSeq (fIf (fTb (fOp (eqOp false) (fOp modD (fVar 4) (fC (.int 7))) (fC (.int 0)))) (fSeq (fIf (fTb (fOp (eqOp false) (fOp modD (fVar 5) (fC (.int 3))) (fC (.int 0)))) (fRet (fArgs gTupD (fCons (fArgs gTupD (fCons (fC (.str "num")) (fCons (fOp modD (fOp fdivD (fVar 5) (fC (.int 3))) (fC (.int 10))) fNil))) (fCons (fC (.int 1)) fNil)))) fNext)
    (fRet (fArgs gTupD (fCons (fArgs gTupD (fCons (fC (.str "num")) (fCons (fOp modD (fOp mulD (fVar 5) (fC (.int 1000003))) (fOp powD (fC (.int 10)) (fC (.int 12)))) fNil))) (fCons (fC (.int 1)) fNil))))) fNext)
    (fSeq (fIf (fTb (fOp (eqOp false) (fOp modD (fVar 4) (fC (.int 7))) (fC (.int 1)))) (fRet (fArgs gTupD (fCons (fArgs gTupD (fCons (fC (.str "gone")) fNil)) (fCons (fC (.int 1)) fNil)))) fNext)
    (fSeq (fIf (fTb (fOp (eqOp false) (fOp modD (fVar 4) (fC (.int 7))) (fC (.int 2)))) (fSeq (fAsg 6 (fCall r_q_area_by (fCons (fVar 5) (fCons (fCall r_q_cell_at (fCons (fVar 0) (fCons (fOp addD (fVar 1) (fC (.int 200))) fNil))) (fCons (fVar 2) (fCons (fVar 3) fNil))))))
    (fRet (fArgs gTupD (fCons (fArgs gTupD (fCons (fC (.str "over")) (fCons (fOp ixD (fArgs gLstD (fCons (fC (.str "SUM")) (fCons (fC (.str "COUNT")) (fCons (fC (.str "MAX")) fNil)))) (fOp modD (fOp fdivD (fVar 4) (fC (.int 7))) (fC (.int 3)))) (fCons (fArgs gLstD (fCons (fVar 6) fNil)) fNil)))) (fCons (fC (.int 2)) fNil))))) fNext)
    (fRet (fArgs gTupD (fCons (fCall r_q_ref_by (fCons (fVar 5) (fCons (fVar 2) (fCons (fVar 3) fNil)))) (fCons (fC (.int 1)) fNil)))))))))
def r_q_leaf_by : Fn := runD 7 4 [] f_q_leaf_by
/-- _law_joined(_law_script, _law_k, _law_cell, _law_made, _law_rows, _law_columns): slots 0 _law_script, 1 _law_k, 2 _law_cell, 3 _law_made, 4 _law_rows, 5 _law_columns, 6 _law_kind, 7 _law_told, 8 _law_many, 9 _law_turn, 10 _law_area -/
def lb_q_joined_1 : FS := (fSeq (fAsg 10 (fCall r_q_area_by (fCons (fCall r_q_cell_at (fCons (fVar 0) (fCons (fOp addD (fOp addD (fVar 1) (fC (.int 300))) (fVar 9)) fNil))) (fCons (fCall r_q_cell_at (fCons (fVar 0) (fCons (fOp addD (fOp addD (fVar 1) (fC (.int 400))) (fVar 9)) fNil))) (fCons (fVar 4) (fCons (fVar 5) fNil))))))
    (fDrop (fMut 7 gInsert (fCons (fPure (fOp modD (fOp fdivD (fVar 2) (fC (.int 81))) (fOp addD (fArgs (g1 lenD) (fCons (fVar 7) fNil)) (fC (.int 1))))) (fCons (fVar 10) fNil)))))
def f_q_joined_8 : FS := (fRet (fPure (fArgs gTupD (fCons (fC (.str "over")) (fCons (fOp ixD (fArgs gLstD (fCons (fC (.str "SUM")) (fCons (fC (.str "COUNT")) (fCons (fC (.str "MAX")) fNil)))) (fOp modD (fOp fdivD (fVar 2) (fC (.int 243))) (fC (.int 3)))) (fCons (fVar 7) fNil))))))
def f_q_joined_7 : FS := (fSeq (fFor (fRng1 (fCons (fVar 8) fNil)) 9 lb_q_joined_1)
    f_q_joined_8)
def f_q_joined_6 : FS := (fSeq (fIf (fTb (fOp (eqOp false) (fOp modD (fOp fdivD (fVar 2) (fC (.int 2187))) (fC (.int 16))) (fC (.int 1)))) (fAsg 8 (fPure (fOp subD (fC (.int 8)) (fArgs (g1 lenD) (fCons (fVar 7) fNil))))) fNext)
    f_q_joined_7)
def f_q_joined_5 : FS := (fSeq (fAsg 8 (fOp modD (fOp fdivD (fVar 2) (fC (.int 27))) (fC (.int 3))))
    f_q_joined_6)
def f_q_joined_4 : FS := (fSeq (fAsg 7 (fArgs (g1 listD) (fCons (fVar 3) fNil)))
    f_q_joined_5)
def f_q_joined_3 : FS := (fSeq (fIf (fTb (fOp (eqOp false) (fVar 6) (fC (.int 7)))) (fRet (fArgs gTupD (fCons (fC (.str "pick")) (fCons (fOp ixD (fVar 3) (fC (.int 0))) (fCons (fOp ixD (fVar 3) (fC (.int 1))) (fCons (fOp ixD (fVar 3) (fC (.int 2))) fNil)))))) fNext)
    f_q_joined_4)
def f_q_joined_2 : FS := (fSeq (fIf (fTb (fOp (eqOp false) (fVar 6) (fC (.int 6)))) (fRet (fArgs gTupD (fCons (fC (.str "two")) (fCons (fOp ixD (fC (.str "+-*/<=")) (fOp modD (fOp fdivD (fVar 2) (fC (.int 9))) (fC (.int 6)))) (fCons (fOp ixD (fVar 3) (fC (.int 0))) (fCons (fOp ixD (fVar 3) (fC (.int 1))) fNil)))))) fNext)
    f_q_joined_3)
def f_q_joined_1 : FS := (fSeq (fIf (fTb (fOp (eqOp false) (fVar 6) (fC (.int 5)))) (fRet (fArgs gTupD (fCons (fC (.str "minus")) (fCons (fOp ixD (fVar 3) (fC (.int 0))) fNil)))) fNext)
    f_q_joined_2)
def f_q_joined : FS := (fSeq (fAsg 6 (fOp modD (fVar 2) (fC (.int 9))))
    f_q_joined_1)
def r_q_joined : Fn := runD 11 6 [] f_q_joined
/-- _law_tree_by(_law_script, _law_many, _law_rows, _law_columns): slots 0 _law_script, 1 _law_many, 2 _law_rows, 3 _law_columns, 4 _law_stack, 5 _law_k, 6 _law_cell, 7 _law_taken, 8 _law_behind, 9 _law_much, 10 _law_leaf, 11 _law_tree -/
def el_q_tree_by_1 : FE := (fOp ixD (fVar 0) (fC (.int 2)))
def el_q_tree_by_2 : FE := (fOp ixD (fVar 0) (fC (.int 1)))
def el_q_tree_by_3 : FE := (fOp ixD (fVar 0) (fC (.int 0)))
def el_q_tree_by_4 : FE := (fOp ixD (fVar 0) (fC (.int 1)))
def lb_q_tree_by_1 : FS := (fSeq (fAsg 6 (fCall r_q_cell_at (fCons (fVar 0) (fCons (fOp addD (fC (.int 10)) (fVar 5)) fNil))))
    (fSeq (fAsg 7 (fOp ixD (fArgs gLstD (fCons (fC (.int 0)) (fCons (fC (.int 0)) (fCons (fC (.int 0)) (fCons (fC (.int 0)) (fCons (fC (.int 0)) (fCons (fC (.int 1)) (fCons (fC (.int 2)) (fCons (fC (.int 3)) (fCons (fOp addD (fC (.int 1)) (fOp modD (fOp fdivD (fVar 6) (fC (.int 9))) (fC (.int 3)))) fNil)))))))))) (fOp modD (fVar 6) (fC (.int 9)))))
    (fSeq (fAsg 8 (fSlO 4 (fPart (fPure (fOp subD (fArgs (g1 lenD) (fCons (fVar 4) fNil)) (fArgs (g2 minD) (fCons (fVar 7) (fCons (fArgs (g1 lenD) (fCons (fVar 4) fNil)) fNil)))))) fNoP))
    (fSeq (fAsg 9 (fOp addD (fArgs (g1 sumLD) (fCons (fComp (fItA (fVar 8)) none el_q_tree_by_1) fNil)) (fC (.int 8))))
    (fIf (fOrT (fTb (fOp (eqOp false) (fVar 7) (fC (.int 0)))) (fOrT (fTb (fOp ltD (fArgs (g1 lenD) (fCons (fVar 8) fNil)) (fVar 7))) (fOrT (fTb (fOp gtD (fVar 9) (fC (.int 60)))) (fTb (fOp gtD (fArgs (g1 maxLD) (fCons (fComp (fItA (fVar 8)) none el_q_tree_by_2) fNil)) (fC (.int 11))))))) (fSeq (fAsg 10 (fCall r_q_leaf_by (fCons (fVar 0) (fCons (fOp addD (fC (.int 10)) (fVar 5)) (fCons (fVar 2) (fCons (fVar 3) fNil))))))
    (fDrop (fMut 4 gAppend (fCons (fArgs gTupD (fCons (fOp ixD (fVar 10) (fC (.int 0))) (fCons (fOp ixD (fVar 10) (fC (.int 1))) (fCons (fC (.int 1)) fNil)))) fNil)))) (fSeq (fAsg 4 (fSlO 4 fNoP (fPart (fPure (fOp subD (fArgs (g1 lenD) (fCons (fVar 4) fNil)) (fVar 7))))))
    (fSeq (fAsg 11 (fCall r_q_joined (fCons (fVar 0) (fCons (fVar 5) (fCons (fVar 6) (fCons (fComp (fItA (fVar 8)) none el_q_tree_by_3) (fCons (fVar 2) (fCons (fVar 3) fNil))))))))
    (fDrop (fMut 4 gAppend (fCons (fArgs gTupD (fCons (fVar 11) (fCons (fOp addD (fC (.int 1)) (fArgs (g1 maxLD) (fCons (fComp (fItA (fVar 8)) none el_q_tree_by_4) fNil))) (fCons (fVar 9) fNil)))) fNil))))))))))
def f_q_tree_by : FS := (fSeq (fIf (fTb (fOp (eqOp false) (fOp modD (fCall r_q_cell_at (fCons (fVar 0) (fCons (fC (.int 9)) fNil))) (fC (.int 16))) (fC (.int 1)))) (fAsg 1 (fC (.int 60))) fNext)
    (fSeq (fAsg 4 (fArgs gLstD fNil))
    (fSeq (fFor (fRng1 (fCons (fVar 1) fNil)) 5 lb_q_tree_by_1)
    (fRet (fPure (fOp ixD (fOp ixD (fVar 4) (fUn negD (fC (.int 1)))) (fC (.int 0))))))))
def r_q_tree_by : Fn := runD 12 4 [] f_q_tree_by
/-- _law_copy(_law_tree): slots 0 _law_tree -/
def el_q_copy_1 (self_q_copy : Fn) : FE := (fCall self_q_copy (fCons (fVar 0) fNil))
def f_q_copy (self_q_copy : Fn) : FS := (fSeq (fIf (fTb (fOp (eqOp false) (fOp ixD (fVar 0) (fC (.int 0))) (fC (.str "over")))) (fRet (fArgs gTupD (fCons (fC (.str "over")) (fCons (fOp ixD (fVar 0) (fC (.int 1))) (fCons (fComp (fItA (fOp ixD (fVar 0) (fC (.int 2)))) none (el_q_copy_1 self_q_copy)) fNil))))) fNext)
    (fSeq (fIf (fTb (fOp (eqOp false) (fOp ixD (fVar 0) (fC (.int 0))) (fC (.str "minus")))) (fRet (fArgs gTupD (fCons (fC (.str "minus")) (fCons (fCall self_q_copy (fCons (fOp ixD (fVar 0) (fC (.int 1))) fNil)) fNil)))) fNext)
    (fSeq (fIf (fTb (fOp (eqOp false) (fOp ixD (fVar 0) (fC (.int 0))) (fC (.str "two")))) (fRet (fArgs gTupD (fCons (fC (.str "two")) (fCons (fOp ixD (fVar 0) (fC (.int 1))) (fCons (fCall self_q_copy (fCons (fOp ixD (fVar 0) (fC (.int 2))) fNil)) (fCons (fCall self_q_copy (fCons (fOp ixD (fVar 0) (fC (.int 3))) fNil)) fNil)))))) fNext)
    (fSeq (fIf (fTb (fOp (eqOp false) (fOp ixD (fVar 0) (fC (.int 0))) (fC (.str "pick")))) (fRet (fArgs gTupD (fCons (fC (.str "pick")) (fCons (fCall self_q_copy (fCons (fOp ixD (fVar 0) (fC (.int 1))) fNil)) (fCons (fCall self_q_copy (fCons (fOp ixD (fVar 0) (fC (.int 2))) fNil)) (fCons (fCall self_q_copy (fCons (fOp ixD (fVar 0) (fC (.int 3))) fNil)) fNil)))))) fNext)
    (fRetV 0)))))
def r_q_copy : Nat → Fn
  | 0 => fun _ => none
  | n + 1 => runD 1 1 [] (f_q_copy (r_q_copy n))
/-- with_number(place, axis, number): slots 0 place, 1 axis, 2 number -/
def f_with_number : FS := (fSeq (fIf (fTb (fOp (eqOp false) (fVar 1) (fC (.int 0)))) (fRet (fArgs gTupD (fCons (fVar 2) (fCons (fOp ixD (fVar 0) (fC (.int 1))) fNil)))) fNext)
    (fRet (fArgs gTupD (fCons (fOp ixD (fVar 0) (fC (.int 0))) (fCons (fVar 2) fNil)))))
def r_with_number : Fn := runD 3 3 [] f_with_number
/-- come_place(place, axis, at, many): slots 0 place, 1 axis, 2 at, 3 many -/
def f_come_place : FS := (fSeq (fIf (fTb (fOp ltD (fOp ixD (fVar 0) (fVar 1)) (fVar 2))) (fRetV 0) fNext)
    (fRet (fCall r_with_number (fCons (fVar 0) (fCons (fVar 1) (fCons (fOp addD (fOp ixD (fVar 0) (fVar 1)) (fVar 3)) fNil))))))
def r_come_place : Fn := runD 4 4 [] f_come_place
/-- with_parts(tree, others): slots 0 tree, 1 others, 2 kind -/
def f_with_parts : FS := (fSeq (fAsg 2 (fOp ixD (fVar 0) (fC (.int 0))))
    (fSeq (fIf (fTb (fOp (inOp false) (fVar 2) (fC c_LEAF_KINDS))) (fRetV 0) fNext)
    (fSeq (fIf (fTb (fOp (eqOp false) (fVar 2) (fC (.str "over")))) (fRet (fArgs gTupD (fCons (fC (.str "over")) (fCons (fOp ixD (fVar 0) (fC (.int 1))) (fCons (fArgs (g1 listD) (fCons (fVar 1) fNil)) fNil))))) fNext)
    (fSeq (fIf (fTb (fOp (eqOp false) (fVar 2) (fC (.str "two")))) (fRet (fArgs gTupD (fCons (fC (.str "two")) (fCons (fOp ixD (fVar 0) (fC (.int 1))) (fCons (fOp ixD (fVar 1) (fC (.int 0))) (fCons (fOp ixD (fVar 1) (fC (.int 1))) fNil)))))) fNext)
    (fRet (fOp addTD (fArgs gTupD (fCons (fVar 2) fNil)) (fArgs (g1 tupleD) (fCons (fVar 1) fNil))))))))
def r_with_parts : Fn := runD 3 2 [] f_with_parts
/-- parts(tree): slots 0 tree, 1 kind -/
def f_parts : FS := (fSeq (fAsg 1 (fOp ixD (fVar 0) (fC (.int 0))))
    (fSeq (fIf (fTb (fOp (inOp false) (fVar 1) (fC c_LEAF_KINDS))) (fRet (fArgs gLstD fNil)) fNext)
    (fSeq (fIf (fTb (fOp (eqOp false) (fVar 1) (fC (.str "over")))) (fRet (fArgs (g1 listD) (fCons (fOp ixD (fVar 0) (fC (.int 2))) fNil))) fNext)
    (fSeq (fIf (fTb (fOp (eqOp false) (fVar 1) (fC (.str "two")))) (fRet (fArgs gLstD (fCons (fOp ixD (fVar 0) (fC (.int 2))) (fCons (fOp ixD (fVar 0) (fC (.int 3))) fNil)))) fNext)
    (fRet (fArgs (g1 listD) (fCons (fSl slSD (fVar 0) (fPart (fC (.int 1))) fNoP) fNil)))))))
def r_parts : Fn := runD 2 1 [] f_parts
/-- come_tree(tree, axis, at, many): slots 0 tree, 1 axis, 2 at, 3 many -/
def el_come_tree_1 (self_come_tree : Fn) : FE := (fCall self_come_tree (fCons (fVar 0) (fCons (fVar 2) (fCons (fVar 3) (fCons (fVar 4) fNil)))))
def f_come_tree (self_come_tree : Fn) : FS := (fSeq (fIf (fTb (fOp (eqOp false) (fOp ixD (fVar 0) (fC (.int 0))) (fC (.str "ref")))) (fRet (fArgs gTupD (fCons (fC (.str "ref")) (fCons (fCall r_come_place (fCons (fOp ixD (fVar 0) (fC (.int 1))) (fCons (fVar 1) (fCons (fVar 2) (fCons (fVar 3) fNil))))) (fCons (fOp ixD (fVar 0) (fC (.int 2))) fNil))))) fNext)
    (fSeq (fIf (fTb (fOp (eqOp false) (fOp ixD (fVar 0) (fC (.int 0))) (fC (.str "area")))) (fRet (fArgs gTupD (fCons (fC (.str "area")) (fCons (fCall self_come_tree (fCons (fOp ixD (fVar 0) (fC (.int 1))) (fCons (fVar 1) (fCons (fVar 2) (fCons (fVar 3) fNil))))) (fCons (fCall self_come_tree (fCons (fOp ixD (fVar 0) (fC (.int 2))) (fCons (fVar 1) (fCons (fVar 2) (fCons (fVar 3) fNil))))) fNil))))) fNext)
    (fRet (fCall r_with_parts (fCons (fVar 0) (fCons (fComp (fItA (fCall r_parts (fCons (fVar 0) fNil))) none (el_come_tree_1 self_come_tree)) fNil))))))
def r_come_tree : Nat → Fn
  | 0 => fun _ => none
  | n + 1 => runD 4 4 [] (f_come_tree (r_come_tree n))
/-- _law_whole(_law_found): slots 0 _law_found -/
def f_q_whole : FS := (fRet (fAndV (fArgs (g2 isiD) (fCons (fVar 0) (fCons (fC (.ty "int")) fNil))) (fNotV (fArgs (g2 isiD) (fCons (fVar 0) (fCons (fC (.ty "bool")) fNil))))))
def r_q_whole : Fn := runD 1 1 [] f_q_whole
/-- _law_good_ref(_law_tree): slots 0 _law_tree, 1 _law_pair -/
def lb_q_good_ref_1 : FS := (fIf (fOrT (fNotT (fTr (fArgs (g2 isiD) (fCons (fVar 1) (fCons (fC (.ty "tuple")) fNil))))) (fTb (fOp (eqOp true) (fArgs (g1 lenD) (fCons (fVar 1) fNil)) (fC (.int 2))))) (fRet (fC (.bl false))) fNext)
def el_q_good_ref_1 : FE := (fCall r_q_whole (fCons (fVar 0) fNil))
def el_q_good_ref_2 : FE := (fArgs (g2 isiD) (fCons (fVar 0) (fCons (fC (.ty "bool")) fNil)))
def f_q_good_ref : FS := (fSeq (fIf (fOrT (fNotT (fTr (fArgs (g2 isiD) (fCons (fVar 0) (fCons (fC (.ty "tuple")) fNil))))) (fOrT (fTb (fOp (eqOp true) (fArgs (g1 lenD) (fCons (fVar 0) fNil)) (fC (.int 3)))) (fTb (fOp (eqOp true) (fOp ixD (fVar 0) (fC (.int 0))) (fC (.str "ref")))))) (fRet (fC (.bl false))) fNext)
    (fSeq (fFor (fItA (fSl slSD (fVar 0) (fPart (fC (.int 1))) fNoP)) 1 lb_q_good_ref_1)
    (fRet (fAndV (fArgs (g1 allD) (fCons (fComp (fItA (fOp ixD (fVar 0) (fC (.int 1)))) none el_q_good_ref_1) fNil)) (fArgs (g1 allD) (fCons (fComp (fItA (fOp ixD (fVar 0) (fC (.int 2)))) none el_q_good_ref_2) fNil))))))
def r_q_good_ref : Fn := runD 2 1 [] f_q_good_ref
/-- _law_good(_law_tree): slots 0 _law_tree -/
def el_q_good_1 (self_q_good : Fn) : FE := (fCall self_q_good (fCons (fVar 0) fNil))
def el_q_good_2 (self_q_good : Fn) : FE := (fCall self_q_good (fCons (fVar 0) fNil))
def f_q_good_9 (self_q_good : Fn) : FS := (fRet (fArgs (g1 allD) (fCons (fComp (fItA (fOp ixD (fVar 0) (fC (.int 2)))) none (el_q_good_2 self_q_good)) fNil)))
def f_q_good_8 (self_q_good : Fn) : FS := (fSeq (fIf (fOrT (fTb (fOp (eqOp true) (fOp ixD (fVar 0) (fC (.int 0))) (fC (.str "over")))) (fOrT (fTb (fOp (eqOp true) (fArgs (g1 lenD) (fCons (fVar 0) fNil)) (fC (.int 3)))) (fOrT (fNotT (fTr (fArgs (g2 isiD) (fCons (fOp ixD (fVar 0) (fC (.int 1))) (fCons (fC (.ty "str")) fNil))))) (fNotT (fTr (fArgs (g2 isiD) (fCons (fOp ixD (fVar 0) (fC (.int 2))) (fCons (fC (.ty "list")) fNil)))))))) (fRet (fC (.bl false))) fNext)
    (f_q_good_9 self_q_good))
def f_q_good_7 (self_q_good : Fn) : FS := (fSeq (fIf (fTb (fOp (eqOp false) (fOp ixD (fVar 0) (fC (.int 0))) (fC (.str "two")))) (fRet (fAndV (fOp (eqOp false) (fArgs (g1 lenD) (fCons (fVar 0) fNil)) (fC (.int 4))) (fAndV (fArgs (g2 isiD) (fCons (fOp ixD (fVar 0) (fC (.int 1))) (fCons (fC (.ty "str")) fNil))) (fAndV (fCall self_q_good (fCons (fOp ixD (fVar 0) (fC (.int 2))) fNil)) (fCall self_q_good (fCons (fOp ixD (fVar 0) (fC (.int 3))) fNil)))))) fNext)
    (f_q_good_8 self_q_good))
def f_q_good_6 (self_q_good : Fn) : FS := (fSeq (fIf (fTb (fOp (eqOp false) (fOp ixD (fVar 0) (fC (.int 0))) (fC (.str "pick")))) (fRet (fAndV (fOp (eqOp false) (fArgs (g1 lenD) (fCons (fVar 0) fNil)) (fC (.int 4))) (fArgs (g1 allD) (fCons (fComp (fItA (fSl slSD (fVar 0) (fPart (fC (.int 1))) fNoP)) none (el_q_good_1 self_q_good)) fNil)))) fNext)
    (f_q_good_7 self_q_good))
def f_q_good_5 (self_q_good : Fn) : FS := (fSeq (fIf (fTb (fOp (eqOp false) (fOp ixD (fVar 0) (fC (.int 0))) (fC (.str "minus")))) (fRet (fAndV (fOp (eqOp false) (fArgs (g1 lenD) (fCons (fVar 0) fNil)) (fC (.int 2))) (fCall self_q_good (fCons (fOp ixD (fVar 0) (fC (.int 1))) fNil)))) fNext)
    (f_q_good_6 self_q_good))
def f_q_good_4 (self_q_good : Fn) : FS := (fSeq (fIf (fTb (fOp (eqOp false) (fOp ixD (fVar 0) (fC (.int 0))) (fC (.str "area")))) (fRet (fAndV (fOp (eqOp false) (fArgs (g1 lenD) (fCons (fVar 0) fNil)) (fC (.int 3))) (fAndV (fCall r_q_good_ref (fCons (fOp ixD (fVar 0) (fC (.int 1))) fNil)) (fCall r_q_good_ref (fCons (fOp ixD (fVar 0) (fC (.int 2))) fNil))))) fNext)
    (f_q_good_5 self_q_good))
def f_q_good_3 (self_q_good : Fn) : FS := (fSeq (fIf (fTb (fOp (eqOp false) (fOp ixD (fVar 0) (fC (.int 0))) (fC (.str "ref")))) (fRet (fCall r_q_good_ref (fCons (fVar 0) fNil))) fNext)
    (f_q_good_4 self_q_good))
def f_q_good_2 (self_q_good : Fn) : FS := (fSeq (fIf (fTb (fOp (eqOp false) (fOp ixD (fVar 0) (fC (.int 0))) (fC (.str "gone")))) (fRet (fOp (eqOp false) (fArgs (g1 lenD) (fCons (fVar 0) fNil)) (fC (.int 1)))) fNext)
    (f_q_good_3 self_q_good))
def f_q_good_1 (self_q_good : Fn) : FS := (fSeq (fIf (fTb (fOp (eqOp false) (fOp ixD (fVar 0) (fC (.int 0))) (fC (.str "num")))) (fRet (fAndV (fOp (eqOp false) (fArgs (g1 lenD) (fCons (fVar 0) fNil)) (fC (.int 2))) (fCall r_q_whole (fCons (fOp ixD (fVar 0) (fC (.int 1))) fNil)))) fNext)
    (f_q_good_2 self_q_good))
def f_q_good (self_q_good : Fn) : FS := (fSeq (fIf (fOrT (fNotT (fTr (fArgs (g2 isiD) (fCons (fVar 0) (fCons (fC (.ty "tuple")) fNil))))) (fOrT (fTb (fOp (eqOp false) (fArgs (g1 lenD) (fCons (fVar 0) fNil)) (fC (.int 0)))) (fNotT (fTr (fArgs (g2 isiD) (fCons (fOp ixD (fVar 0) (fC (.int 0))) (fCons (fC (.ty "str")) fNil))))))) (fRet (fC (.bl false))) fNext)
    (f_q_good_1 self_q_good))
def r_q_good : Nat → Fn
  | 0 => fun _ => none
  | n + 1 => runD 1 1 [] (f_q_good (r_q_good n))
/-- _law_items(_law_tree): slots 0 _law_tree, 1 _law_found, 2 _law_part -/
def lb_q_items_1 (self_q_items : Fn) : FS := (fAsg 1 (fOp addD (fVar 1) (fCall self_q_items (fCons (fVar 2) fNil))))
def f_q_items (self_q_items : Fn) : FS := (fSeq (fIf (fTb (fOp (eqOp false) (fOp ixD (fVar 0) (fC (.int 0))) (fC (.str "minus")))) (fRet (fOp addD (fArgs gLstD (fCons (fArgs gTupD (fCons (fC (.str "minus")) fNil)) fNil)) (fCall self_q_items (fCons (fOp ixD (fVar 0) (fC (.int 1))) fNil)))) fNext)
    (fSeq (fIf (fTb (fOp (eqOp false) (fOp ixD (fVar 0) (fC (.int 0))) (fC (.str "two")))) (fRet (fOp addD (fOp addD (fArgs gLstD (fCons (fArgs gTupD (fCons (fC (.str "two")) (fCons (fOp ixD (fVar 0) (fC (.int 1))) fNil))) fNil)) (fCall self_q_items (fCons (fOp ixD (fVar 0) (fC (.int 2))) fNil))) (fCall self_q_items (fCons (fOp ixD (fVar 0) (fC (.int 3))) fNil)))) fNext)
    (fSeq (fIf (fTb (fOp (eqOp false) (fOp ixD (fVar 0) (fC (.int 0))) (fC (.str "pick")))) (fRet (fOp addD (fOp addD (fOp addD (fArgs gLstD (fCons (fArgs gTupD (fCons (fC (.str "pick")) fNil)) fNil)) (fCall self_q_items (fCons (fOp ixD (fVar 0) (fC (.int 1))) fNil))) (fCall self_q_items (fCons (fOp ixD (fVar 0) (fC (.int 2))) fNil))) (fCall self_q_items (fCons (fOp ixD (fVar 0) (fC (.int 3))) fNil)))) fNext)
    (fSeq (fIf (fTb (fOp (eqOp true) (fOp ixD (fVar 0) (fC (.int 0))) (fC (.str "over")))) (fRet (fArgs gLstD (fCons (fVar 0) fNil))) fNext)
    (fSeq (fAsg 1 (fArgs gLstD (fCons (fArgs gTupD (fCons (fC (.str "over")) (fCons (fOp ixD (fVar 0) (fC (.int 1))) (fCons (fArgs (g1 lenD) (fCons (fOp ixD (fVar 0) (fC (.int 2))) fNil)) fNil)))) fNil)))
    (fSeq (fFor (fItA (fOp ixD (fVar 0) (fC (.int 2)))) 2 (lb_q_items_1 self_q_items))
    (fRetV 1)))))))
def r_q_items : Nat → Fn
  | 0 => fun _ => none
  | n + 1 => runD 3 1 [] (f_q_items (r_q_items n))
/-- _law_come_by(_law_place, _law_axis, _law_at, _law_many): slots 0 _law_place, 1 _law_axis, 2 _law_at, 3 _law_many, 4 _law_row, 5 _law_column -/
def f_q_come_by : FS := (fSeq (fAsg 4 (fOp ixD (fVar 0) (fC (.int 0))))
    (fSeq (fAsg 5 (fOp ixD (fVar 0) (fC (.int 1))))
    (fSeq (fIf (fAndT (fTb (fOp (eqOp false) (fVar 1) (fC (.int 0)))) (fTb (fOp geD (fVar 4) (fVar 2)))) (fAsg 4 (fOp addD (fVar 4) (fVar 3))) fNext)
    (fSeq (fIf (fAndT (fTb (fOp (eqOp false) (fVar 1) (fC (.int 1)))) (fTb (fOp geD (fVar 5) (fVar 2)))) (fAsg 5 (fOp addD (fVar 5) (fVar 3))) fNext)
    (fRet (fArgs gTupD (fCons (fVar 4) (fCons (fVar 5) fNil))))))))
def r_q_come_by : Fn := runD 6 4 [] f_q_come_by
/-- _law_leaf_came(_law_found, _law_due, _law_axis, _law_at, _law_many): slots 0 _law_found, 1 _law_due, 2 _law_axis, 3 _law_at, 4 _law_many, 5 _law_first -/
def f_q_leaf_came : FS := (fSeq (fIf (fTb (fOp (eqOp false) (fOp ixD (fVar 1) (fC (.int 0))) (fC (.str "ref")))) (fRet (fOp (eqOp false) (fVar 0) (fArgs gTupD (fCons (fC (.str "ref")) (fCons (fCall r_q_come_by (fCons (fOp ixD (fVar 1) (fC (.int 1))) (fCons (fVar 2) (fCons (fVar 3) (fCons (fVar 4) fNil))))) (fCons (fOp ixD (fVar 1) (fC (.int 2))) fNil)))))) fNext)
    (fSeq (fIf (fTb (fOp (eqOp false) (fOp ixD (fVar 1) (fC (.int 0))) (fC (.str "area")))) (fSeq (fAsg 5 (fArgs gTupD (fCons (fC (.str "ref")) (fCons (fCall r_q_come_by (fCons (fOp ixD (fOp ixD (fVar 1) (fC (.int 1))) (fC (.int 1))) (fCons (fVar 2) (fCons (fVar 3) (fCons (fVar 4) fNil))))) (fCons (fOp ixD (fOp ixD (fVar 1) (fC (.int 1))) (fC (.int 2))) fNil)))))
    (fRet (fOp (eqOp false) (fVar 0) (fArgs gTupD (fCons (fC (.str "area")) (fCons (fVar 5) (fCons (fArgs gTupD (fCons (fC (.str "ref")) (fCons (fCall r_q_come_by (fCons (fOp ixD (fOp ixD (fVar 1) (fC (.int 2))) (fC (.int 1))) (fCons (fVar 2) (fCons (fVar 3) (fCons (fVar 4) fNil))))) (fCons (fOp ixD (fOp ixD (fVar 1) (fC (.int 2))) (fC (.int 2))) fNil)))) fNil))))))) fNext)
    (fRet (fOp (eqOp false) (fVar 0) (fVar 1)))))
def r_q_leaf_came : Fn := runD 6 5 [] f_q_leaf_came
/-- law(_law_script): slots 0 _law_script, 1 _law_limits, 2 _law_tree, 3 _law_axis, 4 _law_at, 5 _law_many, 6 _law_handed, 7 _law_found, 8 _law_items_here, 9 _law_due, 10 _law_other -/
def el_law_1 : FE := (fCall r_q_leaf_came (fCons (fOp ixD (fVar 9) (fVar 0)) (fCons (fOp ixD (fVar 10) (fVar 0)) (fCons (fVar 4) (fCons (fVar 5) (fCons (fVar 6) fNil))))))
def f_law_15 : FS := (fRet (fAndV (fOp (isND true) (fVar 10) (fC .non)) (fAndV (fOp (eqOp false) (fCall (r_come_tree 40) (fCons (fVar 6) (fCons (fVar 3) (fCons (fVar 4) (fCons (fVar 5) fNil))))) (fVar 7)) (fOp (eqOp false) (fVar 6) (fVar 2)))))
def f_law_14 : FS := (fSeq (fAsg 10 (fCall (r_come_tree 40) (fCons (fVar 6) (fCons (fOp subD (fC (.int 1)) (fVar 3)) (fCons (fC (.int 0)) (fCons (fC (.int 1)) fNil))))))
    f_law_15)
def f_law_13 : FS := (fSeq (fIf (fNotT (fTr (fArgs (g1 allD) (fCons (fComp (fRng1 (fCons (fArgs (g1 lenD) (fCons (fVar 9) fNil)) fNil)) none el_law_1) fNil)))) (fRet (fC (.bl false))) fNext)
    f_law_14)
def f_law_12 : FS := (fSeq (fIf (fTb (fOp (eqOp true) (fArgs (g1 lenD) (fCons (fVar 8) fNil)) (fArgs (g1 lenD) (fCons (fVar 9) fNil)))) (fRet (fC (.bl false))) fNext)
    f_law_13)
def f_law_11 : FS := (fSeq (fAsg 9 (fCall (r_q_items 40) (fCons (fVar 2) fNil)))
    f_law_12)
def f_law_10 : FS := (fSeq (fAsg 8 (fCall (r_q_items 40) (fCons (fVar 7) fNil)))
    f_law_11)
def f_law_9 : FS := (fSeq (fIf (fOrT (fNotT (fTr (fCall (r_q_good 40) (fCons (fVar 7) fNil)))) (fTb (fOp (eqOp true) (fVar 6) (fVar 2)))) (fRet (fC (.bl false))) fNext)
    f_law_10)
def f_law_8 : FS := (fSeq (fAsg 7 (fCall (r_come_tree 40) (fCons (fVar 6) (fCons (fVar 3) (fCons (fVar 4) (fCons (fVar 5) fNil))))))
    f_law_9)
def f_law_7 : FS := (fSeq (fAsg 6 (fCall (r_q_copy 40) (fCons (fVar 2) fNil)))
    f_law_8)
def f_law_6 : FS := (fSeq (fAsg 5 (fOp addD (fC (.int 1)) (fOp modD (fCall r_q_cell_at (fCons (fVar 0) (fCons (fC (.int 3)) fNil))) (fOp subD (fOp ixD (fArgs gLstD (fCons (fC (.int 99)) (fCons (fC (.int 26)) fNil))) (fVar 3)) (fOp ixD (fVar 1) (fVar 3))))))
    f_law_7)
def f_law_5 : FS := (fSeq (fAsg 4 (fOp modD (fCall r_q_cell_at (fCons (fVar 0) (fCons (fC (.int 2)) fNil))) (fOp addD (fOp ixD (fVar 1) (fVar 3)) (fC (.int 1)))))
    f_law_6)
def f_law_4 : FS := (fSeq (fAsg 3 (fOp modD (fCall r_q_cell_at (fCons (fVar 0) (fCons (fC (.int 1)) fNil))) (fC (.int 2))))
    f_law_5)
def f_law_3 : FS := (fSeq (fAsg 2 (fCall r_q_tree_by (fCons (fVar 0) (fCons (fOp addD (fC (.int 1)) (fOp modD (fCall r_q_cell_at (fCons (fVar 0) (fCons (fC (.int 0)) fNil))) (fC (.int 18)))) (fCons (fOp ixD (fVar 1) (fC (.int 0))) (fCons (fOp ixD (fVar 1) (fC (.int 1))) fNil))))))
    f_law_4)
def f_law_2 : FS := (fSeq (fIf (fTb (fOp (eqOp false) (fOp modD (fCall r_q_cell_at (fCons (fVar 0) (fCons (fC (.int 4)) fNil))) (fC (.int 8))) (fC (.int 2)))) (fAsg 1 (fArgs gTupD (fCons (fC (.int 5)) (fCons (fC (.int 3)) fNil)))) fNext)
    f_law_3)
def f_law_1 : FS := (fSeq (fIf (fTb (fOp (eqOp false) (fOp modD (fCall r_q_cell_at (fCons (fVar 0) (fCons (fC (.int 4)) fNil))) (fC (.int 4))) (fC (.int 1)))) (fAsg 1 (fArgs gTupD (fCons (fC (.int 98)) (fCons (fC (.int 25)) fNil)))) fNext)
    f_law_2)
def f_law : FS := (fSeq (fAsg 1 (fArgs gTupD (fCons (fC (.int 60)) (fCons (fC (.int 16)) fNil))))
    f_law_1)
def r_law : Fn := runD 11 1 [] f_law
end Toy

set_option maxHeartbeats 4000000

namespace Toy
open PySem L2 L4
abbrev sv (d : D) : Option Sl := some (.val d)
def fin : Option Out → Option (Except XD Sl × List D)
  | some (.ret s _) => some (.ok s, [])
  | some (.next _) => some (.ok (.val .non), [])
  | some (.ex x _) => some (.error x, [])
  | _ => none
theorem fin_ret (s : Sl) (δ : DEnv) : fin (some (.ret s δ)) = some (.ok s, []) := rfl
theorem fin_next (δ : DEnv) : fin (some (.next δ)) = some (.ok (.val .non), []) := rfl
theorem runE {n m : Nat} {f : FS} {ds : List D} {r : Option (Except XD Sl × List D)} (h : ds.length = m) (e : fin (f (startD n [] ds)) = r) : runD n m [] f ds = r := by
  rw [← e]; unfold runD; rw [if_pos h]
  match f (startD n [] ds) with
  | none => rfl
  | some (.ret s δ) => rfl
  | some (.next δ) => rfl
  | some (.ex x δ) => rfl
  | some (.brk δ) => rfl
  | some (.cont δ) => rfl
theorem eqOp_ii (i j : Int) : eqOp false (.int i) (.int j) = some (.val (.bl (decide (i = j)))) := eqOp_int false i j
theorem eqOp_nii (i j : Int) : eqOp true (.int i) (.int j) = some (.val (.bl (!decide (i = j)))) := eqOp_int true i j
theorem isN_non : isND false .non .non = some (.val (.bl true)) := rfl
theorem isN_int (i : Int) : isND false (.int i) .non = some (.val (.bl false)) := rfl
theorem isN_str (i : Str) : isND false (.str i) .non = some (.val (.bl false)) := rfl
theorem isN_tup (i : List D) : isND false (.tup i) .non = some (.val (.bl false)) := rfl
theorem notN_non : isND true .non .non = some (.val (.bl false)) := rfl
theorem notN_int (i : Int) : isND true (.int i) .non = some (.val (.bl true)) := rfl
theorem notN_str (i : Str) : isND true (.str i) .non = some (.val (.bl true)) := rfl
theorem notN_tup (i : List D) : isND true (.tup i) .non = some (.val (.bl true)) := rfl
theorem isi_str (z : Str) : isiD (.str z) (.ty "str") = some (.val (.bl true)) := rfl
theorem isi_str_int (z : Str) : isiD (.str z) (.ty "int") = some (.val (.bl false)) := rfl
theorem isi_int_str (z : Int) : isiD (.int z) (.ty "str") = some (.val (.bl false)) := rfl
theorem maxD_ii (i j : Int) : maxD (.int i) (.int j) = some (.val (.int (max i j))) := by
  rw [maxD_int]; congr 3; rw [Int.max_def]; split <;> split <;> omega
theorem minD_ii (i j : Int) : minD (.int i) (.int j) = some (.val (.int (min i j))) := by
  rw [minD_int]; congr 3; rw [Int.min_def]; split <;> split <;> omega
theorem gTup1 (a : D) : gTupD [a] = some (.val (.tup [a])) := by unfold gTupD; rw [if_pos (by show 1 ≤ sizeLine; decide)]
theorem gTup3 (a b c : D) : gTupD [a, b, c] = some (.val (.tup [a, b, c])) := by unfold gTupD; rw [if_pos (by show 3 ≤ sizeLine; decide)]
theorem gTup4 (a b c d : D) : gTupD [a, b, c, d] = some (.val (.tup [a, b, c, d])) := by unfold gTupD; rw [if_pos (by show 4 ≤ sizeLine; decide)]
theorem gLst_of (ds : List D) (h : ds.length ≤ 100) : gLstD ds = some (.own (.lst ds)) := by
  unfold gLstD; rw [if_pos (by rw [sizeLine_is]; omega)]
theorem ix2_tup (a b c : D) (r : List D) : ixD (.tup (a :: b :: c :: r)) (.int 2) = some (.val c) := by
  show (atI (a :: b :: c :: r) 2).map Sl.val = _
  rw [show (atI (a :: b :: c :: r) (2 : Int)) = some c from by rw [atI_of (by decide) (by simp only [List.length_cons]; omega)]; rfl]
  rfl
theorem ix3_tup (a b c d : D) (r : List D) : ixD (.tup (a :: b :: c :: d :: r)) (.int 3) = some (.val d) := by
  show (atI (a :: b :: c :: d :: r) 3).map Sl.val = _
  rw [show (atI (a :: b :: c :: d :: r) (3 : Int)) = some d from by rw [atI_of (by decide) (by simp only [List.length_cons]; omega)]; rfl]
  rfl
theorem g1E (g : D → Option Sl) (d : D) : g1 g [d] = g d := rfl
theorem g2E (g : D → D → Option Sl) (a b : D) : g2 g [a, b] = g a b := rfl
/-! one step at a time -/
def seqK (o : Option Out) (b : FS) : Option Out := o.bind fun o => match o with | .next δ' => b δ' | o => some o
theorem e_seq (a b : FS) (δ : DEnv) : fSeq a b δ = seqK (a δ) b := rfl
theorem k_seq1 (b : FS) (δ : DEnv) : seqK (some (.next δ)) b = b δ := rfl
theorem k_seq2 (b : FS) (s : Sl) (δ : DEnv) : seqK (some (.ret s δ)) b = some (.ret s δ) := rfl
theorem k_seq3 (b : FS) (x : XD) (δ : DEnv) : seqK (some (.ex x δ)) b = some (.ex x δ) := rfl
theorem k_seq4 (b : FS) (δ : DEnv) : seqK (some (.brk δ)) b = some (.brk δ) := rfl
theorem k_seq5 (b : FS) (δ : DEnv) : seqK (some (.cont δ)) b = some (.cont δ) := rfl
def ifK (o : Rs Bool) (a b : FS) : Option Out := thenS o fun p δ => if p then a δ else b δ
theorem e_if (c : FT) (a b : FS) (δ : DEnv) : fIf c a b δ = ifK (c δ) a b := rfl
theorem k_if1 (a b : FS) (δ : DEnv) : ifK (some (.ok true, δ)) a b = a δ := rfl
theorem k_if2 (a b : FS) (δ : DEnv) : ifK (some (.ok false, δ)) a b = b δ := rfl
theorem k_if3 (a b : FS) (x : XD) (δ : DEnv) : ifK (some (.error x, δ)) a b = some (.ex x δ) := rfl
def asgK (i : Nat) (o : Rs Sl) : Option Out := thenS o fun p δ => some (.next (δ.set i (some p)))
theorem e_asg (i : Nat) (f : FE) (δ : DEnv) : fAsg i f δ = asgK i (f δ) := rfl
theorem k_asg (i : Nat) (p : Sl) (δ : DEnv) : asgK i (some (.ok p, δ)) = some (.next (δ.set i (some p))) := rfl
theorem k_asgx (i : Nat) (x : XD) (δ : DEnv) : asgK i (some (.error x, δ)) = some (.ex x δ) := rfl
def dropK (o : Rs Sl) : Option Out := thenS o fun _ δ => some (.next δ)
theorem e_drop (f : FE) (δ : DEnv) : fDrop f δ = dropK (f δ) := rfl
theorem k_drop (p : Sl) (δ : DEnv) : dropK (some (.ok p, δ)) = some (.next δ) := rfl
def retK (o : Rs Sl) : Option Out := thenS o fun p δ => some (.ret p δ)
theorem e_ret (f : FE) (δ : DEnv) : fRet f δ = retK (f δ) := rfl
theorem k_ret (p : Sl) (δ : DEnv) : retK (some (.ok p, δ)) = some (.ret p δ) := rfl
theorem k_retx (x : XD) (δ : DEnv) : retK (some (.error x, δ)) = some (.ex x δ) := rfl
theorem e_retN (δ : DEnv) : fRetN δ = some (.ret (.val .non) δ) := rfl
theorem e_next (δ : DEnv) : fNext δ = some (.next δ) := rfl
theorem e_brk (δ : DEnv) : fBrk δ = some (.brk δ) := rfl
def retvK (i : Nat) (δ : DEnv) (o : Option (Option Sl)) : Option Out := match o with | some (some (.val d)) => some (.ret (.val d) δ) | some (some (.own d)) => some (.ret (.own d) (δ.set i none)) | _ => none
theorem e_retv (i : Nat) (δ : DEnv) : fRetV i δ = retvK i δ (δ[i]?) := rfl
theorem k_retv1 (i : Nat) (δ : DEnv) (d : D) : retvK i δ (some (some (.val d))) = some (.ret (.val d) δ) := rfl
theorem k_retv2 (i : Nat) (δ : DEnv) (d : D) : retvK i δ (some (some (.own d))) = some (.ret (.own d) (δ.set i none)) := rfl
def varK (i : Nat) (δ : DEnv) (o : Option (Option Sl)) : Rs Sl := match o with | some (some (.val d)) => some (.ok (.val d), δ) | some (some (.own d)) => some (.ok (.val d), δ.set i (some (.val d))) | _ => none
theorem e_var (i : Nat) (δ : DEnv) : fVar i δ = varK i δ (δ[i]?) := rfl
theorem k_var1 (i : Nat) (δ : DEnv) (d : D) : varK i δ (some (some (.val d))) = some (.ok (.val d), δ) := rfl
theorem k_var2 (i : Nat) (δ : DEnv) (d : D) : varK i δ (some (some (.own d))) = some (.ok (.val d), δ.set i (some (.val d))) := rfl
theorem e_c (d : D) (δ : DEnv) : fC d δ = some (.ok (.val d), δ) := rfl
def opK (g : D → D → Option Sl) (o : Rs Sl) (f2 : FE) : Rs Sl := o.bind fun p δ => (f2 δ).bind fun q δ => lift (g p.fz q.fz) δ
def opK2 (g : D → D → Option Sl) (p : D) (o : Rs Sl) : Rs Sl := o.bind fun q δ => lift (g p q.fz) δ
def liK (δ : DEnv) (o : Option Sl) : Rs Sl := lift o δ
theorem e_op (g : D → D → Option Sl) (f1 f2 : FE) (δ : DEnv) : fOp g f1 f2 δ = opK g (f1 δ) f2 := rfl
theorem k_op1 (g : D → D → Option Sl) (f2 : FE) (p : Sl) (δ : DEnv) : opK g (some (.ok p, δ)) f2 = opK2 g p.fz (f2 δ) := rfl
theorem k_op2 (g : D → D → Option Sl) (p : D) (q : Sl) (δ : DEnv) : opK2 g p (some (.ok q, δ)) = liK δ (g p q.fz) := rfl
theorem k_li (δ : DEnv) (s : Sl) : liK δ (some s) = some (.ok s, δ) := rfl
def unK (g : D → Option Sl) (o : Rs Sl) : Rs Sl := o.bind fun p δ => lift (g p.fz) δ
theorem e_un (g : D → Option Sl) (f : FE) (δ : DEnv) : fUn g f δ = unK g (f δ) := rfl
theorem k_un (g : D → Option Sl) (p : Sl) (δ : DEnv) : unK g (some (.ok p, δ)) = liK δ (g p.fz) := rfl
def argK (g : List D → Option Sl) (o : Rs (List D)) : Rs Sl := o.bind fun p δ => lift (g p) δ
theorem e_arg (g : List D → Option Sl) (r : FL) (δ : DEnv) : fArgs g r δ = argK g (r δ) := rfl
theorem k_arg (g : List D → Option Sl) (p : List D) (δ : DEnv) : argK g (some (.ok p, δ)) = liK δ (g p) := rfl
theorem e_nil (δ : DEnv) : fNil δ = some (.ok [], δ) := rfl
def consK (o : Rs Sl) (r : FL) : Rs (List D) := o.bind fun p δ => (r δ).bind fun q δ => some (.ok (p.fz :: q), δ)
def consK2 (d : D) (o : Rs (List D)) : Rs (List D) := o.bind fun q δ => some (.ok (d :: q), δ)
theorem e_cons (f : FE) (r : FL) (δ : DEnv) : fCons f r δ = consK (f δ) r := rfl
theorem k_cons1 (r : FL) (p : Sl) (δ : DEnv) : consK (some (.ok p, δ)) r = consK2 p.fz (r δ) := rfl
theorem k_cons2 (d : D) (q : List D) (δ : DEnv) : consK2 d (some (.ok q, δ)) = some (.ok (d :: q), δ) := rfl
def callK (F : Fn) (o : Rs (List D)) : Rs Sl := o.bind fun ds δ => match F ds with | some (q, []) => some (q, δ) | _ => none
def callK2 (δ : DEnv) (o : Option (Except XD Sl × List D)) : Rs Sl := match o with | some (q, []) => some (q, δ) | _ => none
theorem e_call (F : Fn) (r : FL) (δ : DEnv) : fCall F r δ = callK F (r δ) := rfl
theorem k_call (F : Fn) (ds : List D) (δ : DEnv) : callK F (some (.ok ds, δ)) = callK2 δ (F ds) := rfl
theorem k_call2 (δ : DEnv) (q : Except XD Sl) : callK2 δ (some (q, [])) = some (q, δ) := rfl
def tbK (o : Rs Sl) : Rs Bool := o.bind fun p δ => lift (blOf p.fz) δ
theorem e_tb (f : FE) (δ : DEnv) : fTb f δ = tbK (f δ) := rfl
theorem k_tb (b : Bool) (δ : DEnv) : tbK (some (.ok (.val (.bl b)), δ)) = some (.ok b, δ) := rfl
def trK (o : Rs Sl) : Rs Bool := o.bind fun p δ => lift (truD p.fz) δ
theorem e_tr (f : FE) (δ : DEnv) : fTr f δ = trK (f δ) := rfl
theorem k_tr (b : Bool) (δ : DEnv) : trK (some (.ok (.val (.bl b)), δ)) = some (.ok b, δ) := rfl
theorem k_tr2 (i : Int) (δ : DEnv) : trK (some (.ok (.val (.int i)), δ)) = some (.ok (decide (i ≠ 0)), δ) := rfl
theorem k_tr3 (ds : List D) (δ : DEnv) : trK (some (.ok (.val (.lst ds)), δ)) = some (.ok (!ds.isEmpty), δ) := rfl
def notK (o : Rs Bool) : Rs Bool := o.bind fun p δ => some (.ok (!p), δ)
theorem e_not (f : FT) (δ : DEnv) : fNotT f δ = notK (f δ) := rfl
theorem k_not (b : Bool) (δ : DEnv) : notK (some (.ok b, δ)) = some (.ok (!b), δ) := rfl
def andK (o : Rs Bool) (b : FT) : Rs Bool := o.bind fun p δ => if p then b δ else some (.ok false, δ)
theorem e_and (a b : FT) (δ : DEnv) : fAndT a b δ = andK (a δ) b := rfl
theorem k_and1 (b : FT) (δ : DEnv) : andK (some (.ok true, δ)) b = b δ := rfl
theorem k_and2 (b : FT) (δ : DEnv) : andK (some (.ok false, δ)) b = some (.ok false, δ) := rfl
def orK (o : Rs Bool) (b : FT) : Rs Bool := o.bind fun p δ => if p then some (.ok true, δ) else b δ
theorem e_or (a b : FT) (δ : DEnv) : fOrT a b δ = orK (a δ) b := rfl
theorem k_or1 (b : FT) (δ : DEnv) : orK (some (.ok true, δ)) b = some (.ok true, δ) := rfl
theorem k_or2 (b : FT) (δ : DEnv) : orK (some (.ok false, δ)) b = b δ := rfl
def andvK (o : Rs Sl) (b : FE) : Rs Sl := o.bind fun p δ => match blOf p.fz with | some true => b δ | some false => some (.ok (.val (.bl false)), δ) | none => none
theorem e_andv (a b : FE) (δ : DEnv) : fAndV a b δ = andvK (a δ) b := rfl
theorem k_andv1 (b : FE) (δ : DEnv) : andvK (some (.ok (.val (.bl true)), δ)) b = b δ := rfl
theorem k_andv2 (b : FE) (δ : DEnv) : andvK (some (.ok (.val (.bl false)), δ)) b = some (.ok (.val (.bl false)), δ) := rfl
def orvK (o : Rs Sl) (b : FE) : Rs Sl := o.bind fun p δ => match blOf p.fz with | some false => b δ | some true => some (.ok (.val (.bl true)), δ) | none => none
theorem e_orv (a b : FE) (δ : DEnv) : fOrV a b δ = orvK (a δ) b := rfl
theorem k_orv1 (b : FE) (δ : DEnv) : orvK (some (.ok (.val (.bl true)), δ)) b = some (.ok (.val (.bl true)), δ) := rfl
theorem k_orv2 (b : FE) (δ : DEnv) : orvK (some (.ok (.val (.bl false)), δ)) b = b δ := rfl
def notvK (o : Rs Sl) : Rs Sl := o.bind fun p δ => lift ((blOf p.fz).map fun k => .val (.bl (!k))) δ
theorem e_notv (a : FE) (δ : DEnv) : fNotV a δ = notvK (a δ) := rfl
theorem k_notv (b : Bool) (δ : DEnv) : notvK (some (.ok (.val (.bl b)), δ)) = some (.ok (.val (.bl (!b))), δ) := rfl
def ifeK (o : Rs Bool) (a b : FE) : Rs Sl := o.bind fun p δ => if p then a δ else b δ
theorem e_ife (c : FT) (a b : FE) (δ : DEnv) : fIfE c a b δ = ifeK (c δ) a b := rfl
theorem k_ife1 (a b : FE) (δ : DEnv) : ifeK (some (.ok true, δ)) a b = a δ := rfl
theorem k_ife2 (a b : FE) (δ : DEnv) : ifeK (some (.ok false, δ)) a b = b δ := rfl
def forK (i : Nat) (F : FS) (o : Rs (List D)) : Option Out := thenS o fun ds δ => forD i F ds δ
theorem e_for (src : FL) (i : Nat) (F : FS) (δ : DEnv) : fFor src i F δ = forK i F (src δ) := rfl
theorem k_for (i : Nat) (F : FS) (ds : List D) (δ : DEnv) : forK i F (some (.ok ds, δ)) = forD i F ds δ := rfl
def itK (o : Rs Sl) : Rs (List D) := o.bind fun p δ => lift (itemsD p.fz) δ
theorem e_it (f : FE) (δ : DEnv) : fItA f δ = itK (f δ) := rfl
theorem k_itl (ds : List D) (δ : DEnv) : itK (some (.ok (.val (.lst ds)), δ)) = some (.ok ds, δ) := rfl
theorem k_ito (ds : List D) (δ : DEnv) : itK (some (.ok (.own (.lst ds)), δ)) = some (.ok ds, δ) := rfl
theorem k_itt (ds : List D) (δ : DEnv) : itK (some (.ok (.val (.tup ds)), δ)) = some (.ok ds, δ) := rfl
theorem d_get0 (a : Option Sl) (l : DEnv) : (a :: l)[0]? = some a := rfl
theorem d_getS (a : Option Sl) (l : DEnv) (i : Nat) : (a :: l)[i + 1]? = l[i]? := rfl
theorem d_set0 (a b : Option Sl) (l : DEnv) : (a :: l).set 0 b = b :: l := rfl
theorem d_setS (a b : Option Sl) (l : DEnv) (i : Nat) : (a :: l).set (i + 1) b = a :: l.set i b := rfl
def evA := And.intro @fin_ret <| And.intro @fin_next <| And.intro @e_seq <| And.intro @k_seq1 <| And.intro @k_seq2 <| And.intro @k_seq3 <| And.intro @k_seq4 <| And.intro @k_seq5 <| And.intro @e_if <| And.intro @k_if1 <| And.intro @k_if2 <| And.intro @k_if3 <| And.intro @e_asg <| And.intro @k_asg <| And.intro @k_asgx <| And.intro @e_drop <| And.intro @k_drop <| And.intro @e_ret <| And.intro @k_ret <| And.intro @k_retx <| And.intro @e_retN <| And.intro @e_next <| And.intro @e_brk <| And.intro @e_retv <| And.intro @k_retv1 <| And.intro @k_retv2 <| And.intro @e_var <| And.intro @k_var1 <| And.intro @k_var2 <| And.intro @e_c <| And.intro @e_op <| And.intro @k_op1 <| And.intro @k_op2 <| And.intro @k_li <| And.intro @e_un <| And.intro @k_un <| And.intro @e_arg <| And.intro @k_arg <| And.intro @e_nil <| And.intro @e_cons <| And.intro @k_cons1 <| And.intro @k_cons2 <| And.intro @e_call <| And.intro @k_call <| And.intro @k_call2 <| And.intro @e_tb <| And.intro @k_tb <| And.intro @e_tr <| And.intro @k_tr <| And.intro @k_tr2 <| And.intro @k_tr3 <| And.intro @e_not <| And.intro @k_not <| And.intro @e_and <| And.intro @k_and1 <| And.intro @k_and2 <| And.intro @e_or <| And.intro @k_or1 <| And.intro @k_or2 <| And.intro @e_andv <| And.intro @k_andv1 <| And.intro @k_andv2 <| And.intro @e_orv <| And.intro @k_orv1 <| And.intro @k_orv2 <| And.intro @e_notv <| And.intro @k_notv <| And.intro @e_ife <| And.intro @k_ife1 <| And.intro @k_ife2 <| And.intro @e_for <| And.intro @k_for <| And.intro @e_it <| And.intro @k_itl <| And.intro @k_ito <| And.intro @k_itt <| And.intro @d_get0 <| And.intro @d_getS <| And.intro @d_set0 <| And.intro @d_setS <| And.intro @fz_val <| And.intro @fz_own <| And.intro @fz_lnt <| And.intro @addD_int <| And.intro @subD_int <| And.intro @modD_int <| And.intro @fdivD_int <| And.intro @ltD_int <| And.intro @leD_int <| And.intro @gtD_int <| And.intro @geD_int <| And.intro @negD_int <| And.intro @maxD_ii <| And.intro @minD_ii <| And.intro @eqOp_ii <| And.intro @eqOp_nii <| And.intro @ix0_tup <| And.intro @ix1_tup <| And.intro @ix2_tup <| And.intro @ix3_tup <| And.intro @isi_tup <| And.intro @isi_lst <| And.intro @isi_int <| And.intro @isi_int_bool <| And.intro @isi_bl <| And.intro @isi_str <| And.intro @isi_str_int <| And.intro @isi_int_str <| And.intro @gTup1 <| And.intro @gTup2 <| And.intro @gTup3 <| And.intro @gTup4 <| And.intro @g1E <| And.intro @g2E <| And.intro @isN_non <| And.intro @isN_int <| And.intro @isN_str <| And.intro @isN_tup <| And.intro @notN_non <| And.intro @notN_int <| And.intro @notN_str <| And.intro @notN_tup <| And.intro @decide_eq_true <| And.intro @decide_eq_false <| And.intro @decide_true <| And.intro @decide_false <| And.intro @Bool.not_true <| And.intro @Bool.not_false <| @mulD_int
end Toy
namespace Toy
open PySem L2 L4
def pureTK (δ : DEnv) (o : Rs Bool) : Rs Bool := match o with
  | some (.ok s, _) => some (.ok s, δ)
  | some (.error x, _) => if noLsts (x.fs.map (·.2)) = true then some (.error x, δ) else none
  | none => none
theorem e_pureT (c : FT) (δ : DEnv) : fPureT c δ = pureTK δ (c (frzE δ)) := rfl
theorem k_pureT (δ δ' : DEnv) (b : Bool) : pureTK δ (some (.ok b, δ')) = some (.ok b, δ) := rfl
def pureK (f : FE) (δ : DEnv) (o : Rs Sl) : Rs Sl := match o with
  | some (.ok s, _) => if s.flat = true then some (.ok s, δ) else f δ
  | some (.error x, _) => if noLsts (x.fs.map (·.2)) = true then some (.error x, δ) else none
  | none => none
theorem e_pure (f : FE) (δ : DEnv) : fPure f δ = pureK f δ (f (frzE δ)) := rfl
theorem k_pureV (f : FE) (δ δ' : DEnv) (d : D) (h : noLst d = true) : pureK f δ (some (.ok (.val d), δ')) = some (.ok (.val d), δ) := by
  show (if noLst d = true then _ else _) = _
  rw [if_pos h]
theorem k_pureI (f : FE) (δ δ' : DEnv) (i : Int) : pureK f δ (some (.ok (.val (.int i)), δ')) = some (.ok (.val (.int i)), δ) := k_pureV f δ δ' _ (by simp [noLst])
theorem k_pureB (f : FE) (δ δ' : DEnv) (i : Bool) : pureK f δ (some (.ok (.val (.bl i)), δ')) = some (.ok (.val (.bl i)), δ) := k_pureV f δ δ' _ (by simp [noLst])
theorem k_pureS (f : FE) (δ δ' : DEnv) (i : Str) : pureK f δ (some (.ok (.val (.str i)), δ')) = some (.ok (.val (.str i)), δ) := k_pureV f δ δ' _ (by simp [noLst])
theorem k_pureN (f : FE) (δ δ' : DEnv) : pureK f δ (some (.ok (.val .non), δ')) = some (.ok (.val .non), δ) := k_pureV f δ δ' _ (by simp [noLst])
theorem frz0 : frzE [] = [] := rfl
theorem frz2 (d : D) (l : DEnv) : frzE (some (.val d) :: l) = some (.val d) :: frzE l := rfl
theorem frz3 (d : D) (l : DEnv) : frzE (some (.own d) :: l) = some (.val d) :: frzE l := rfl
theorem frzC (o : Option Sl) (l : DEnv) : frzE (o :: l) = frzS o :: frzE l := rfl
theorem frzSn : frzS none = none := rfl
theorem frzSv (d : D) : frzS (some (.val d)) = some (.val d) := rfl
theorem frzSo (d : D) : frzS (some (.own d)) = some (.val d) := rfl
theorem frzSl (d : D) : frzS (some (.lnt d)) = some (.val d) := rfl
def forCK (i : Nat) (F : FS) (ds : List D) (o : Option Out) : Option Out := o.bind fun o => match o with
    | .next δ' => forD i F ds δ'
    | .cont δ' => forD i F ds δ'
    | .brk δ' => some (.next δ')
    | .ret s δ' => some (.ret s δ')
    | .ex x δ' => some (.ex x δ')
theorem e_forN (i : Nat) (F : FS) (δ : DEnv) : forD i F [] δ = some (.next δ) := rfl
theorem e_forC (i : Nat) (F : FS) (d : D) (ds : List D) (δ : DEnv) : forD i F (d :: ds) δ = forCK i F ds (F (δ.set i (some (.val d)))) := by rw [forD]; rfl
theorem k_forC1 (i : Nat) (F : FS) (ds : List D) (δ : DEnv) : forCK i F ds (some (.next δ)) = forD i F ds δ := rfl
theorem k_forC2 (i : Nat) (F : FS) (ds : List D) (δ : DEnv) : forCK i F ds (some (.cont δ)) = forD i F ds δ := rfl
theorem k_forC3 (i : Nat) (F : FS) (ds : List D) (δ : DEnv) : forCK i F ds (some (.brk δ)) = some (.next δ) := rfl
theorem k_forC4 (i : Nat) (F : FS) (ds : List D) (s : Sl) (δ : DEnv) : forCK i F ds (some (.ret s δ)) = some (.ret s δ) := rfl
def rngK (o : Rs (List D)) : Rs (List D) := o.bind fun p δ => lift (rng1D p) δ
theorem e_rng1 (r : FL) (δ : DEnv) : fRng1 r δ = rngK (r δ) := rfl
theorem k_rng1 (n : Int) (δ : DEnv) (h0 : 0 ≤ n) (h : n < 4000000000) : rngK (some (.ok [.int n], δ)) = some (.ok (rngD 0 n.toNat), δ) := by
  unfold rngK
  rw [Rs.bind_ok]
  have : rng1D [.int n] = some (rngD 0 n.toNat) := by
    unfold rng1D
    simp only []
    rw [if_pos (by constructor <;> omega)]
  rw [this]; rfl
def siK1 (j : Nat) (fk : FE) (o : Rs Sl) : Option Out := thenS o fun p δ => match δ[j]? with
  | some (some _) => thenS (fk δ) fun q δ => setD j p.fz q.fz δ
  | _ => none
def siK2 (j : Nat) (fk : FE) (p : D) (δ : DEnv) (o : Option (Option Sl)) : Option Out := match o with
  | some (some _) => thenS (fk δ) fun q δ => setD j p q.fz δ
  | _ => none
def siK3 (j : Nat) (p : D) (o : Rs Sl) : Option Out := thenS o fun q δ => setD j p q.fz δ
theorem e_si (j : Nat) (fk fe : FE) (δ : DEnv) : fSetI j fk fe δ = siK1 j fk (fe δ) := rfl
theorem k_si1 (j : Nat) (fk : FE) (p : Sl) (δ : DEnv) : siK1 j fk (some (.ok p, δ)) = siK2 j fk p.fz δ (δ[j]?) := rfl
theorem k_si2 (j : Nat) (fk : FE) (p : D) (δ : DEnv) (s : Sl) : siK2 j fk p δ (some (some s)) = siK3 j p (fk δ) := rfl
theorem k_si3 (j : Nat) (p : D) (q : Sl) (δ : DEnv) : siK3 j p (some (.ok q, δ)) = setD j p q.fz δ := rfl
theorem intS_int (i : Int) : intSD (.int i) = some (.val (.int i)) := rfl
theorem intS_bl (b : Bool) : intSD (.bl b) = some (.val (.int (if b then 1 else 0))) := rfl
theorem eqOp_bb (i j : Bool) : eqOp false (.bl i) (.bl j) = some (.val (.bl (i == j))) := eqOp_bl false i j
theorem eqOp_nbb (i j : Bool) : eqOp true (.bl i) (.bl j) = some (.val (.bl (!(i == j)))) := eqOp_bl true i j
theorem isi_non_str : isiD .non (.ty "str") = some (.val (.bl false)) := rfl
def evB := And.intro @e_pureT <| And.intro @k_pureT <| And.intro @e_pure <| And.intro @k_pureI <| And.intro @k_pureB <| And.intro @k_pureS <| And.intro @k_pureN <| And.intro @frz0 <| And.intro @frzC <| And.intro @frzSn <| And.intro @frzSv <| And.intro @frzSo <| And.intro @frzSl <| And.intro @e_forN <| And.intro @e_forC <| And.intro @k_forC1 <| And.intro @k_forC2 <| And.intro @k_forC3 <| And.intro @k_forC4 <| And.intro @e_rng1 <| And.intro @e_si <| And.intro @k_si1 <| And.intro @k_si2 <| And.intro @k_si3 <| And.intro @intS_int <| And.intro @intS_bl <| And.intro @eqOp_bb <| And.intro @eqOp_nbb <| @isi_non_str
end Toy
namespace Toy
open PySem L2 L4
/-! lists that are changed, slices -/
def mutK1 (i : Nat) (g : List D → List D → Option (List D × D)) (r : FL) (δ : DEnv) (o : Option (Option Sl)) : Rs Sl := match o with
  | some (some s) => if isL s.fz = true then (r δ).bind (mutD i g) else none
  | _ => none
def mutK2 (i : Nat) (g : List D → List D → Option (List D × D)) (o : Rs (List D)) : Rs Sl := o.bind (mutD i g)
def mutK3 (i : Nat) (g : List D → List D → Option (List D × D)) (es : List D) (δ : DEnv) (o : Option (Option Sl)) : Rs Sl := match o with
  | some (some s) => if s.isO = true then (match s.fz with
    | .lst ds => (match g ds es with | some q => some (.ok (.val q.2), δ.set i (some (s.now (.lst q.1)))) | none => none)
    | _ => none) else none
  | _ => none
def mutK4 (i : Nat) (δ : DEnv) (o : Option (List D × D)) : Rs Sl := match o with | some q => some (.ok (.val q.2), δ.set i (some (.own (.lst q.1)))) | none => none
theorem e_mut (i : Nat) (g : List D → List D → Option (List D × D)) (r : FL) (δ : DEnv) : fMut i g r δ = mutK1 i g r δ (δ[i]?) := rfl
theorem e_mut0 (i : Nat) (g : List D → List D → Option (List D × D)) (δ : DEnv) : fMut0 i g δ = mutK1 i g fNil δ (δ[i]?) := rfl
theorem k_mut1 (i : Nat) (g : List D → List D → Option (List D × D)) (r : FL) (δ : DEnv) (ds : List D) : mutK1 i g r δ (some (some (.own (.lst ds)))) = mutK2 i g (r δ) := rfl
theorem k_mut2 (i : Nat) (g : List D → List D → Option (List D × D)) (es : List D) (δ : DEnv) : mutK2 i g (some (.ok es, δ)) = mutK3 i g es δ (δ[i]?) := rfl
theorem k_mut3 (i : Nat) (g : List D → List D → Option (List D × D)) (es : List D) (δ : DEnv) (ds : List D) : mutK3 i g es δ (some (some (.own (.lst ds)))) = mutK4 i δ (g ds es) := by
  unfold mutK3 mutK4
  simp only [Sl.isO, fz_own, if_true]
  cases g ds es <;> rfl
theorem k_mut4 (i : Nat) (δ : DEnv) (q : List D) (d : D) : mutK4 i δ (some (q, d)) = some (.ok (.val d), δ.set i (some (.own (.lst q)))) := rfl
theorem gApp_of (ds : List D) (d : D) (h : ds.length ≤ 10000) : gAppend ds [d] = some (ds ++ [d], .non) := by
  show (if ds.length < sizeLine then _ else _) = _
  rw [if_pos (by rw [sizeLine_is]; omega)]
theorem gIns_of (ds : List D) (i : Int) (d : D) (h0 : 0 ≤ i) (h1 : i ≤ ds.length) (h : ds.length ≤ 10000) : gInsert ds [.int i, d] = some (insAt ds i.toNat d, .non) := by
  show (if 0 ≤ i ∧ i ≤ ds.length ∧ ds.length < sizeLine then _ else _) = _
  rw [if_pos ⟨h0, h1, by rw [sizeLine_is]; omega⟩]
def slK1 (i : Nat) (l h : FO) (δ : DEnv) (o : Option (Option Sl)) : Rs Sl := match o with
  | some (some _) => (l δ).bind fun q δ => (h δ).bind fun r δ => (match δ[i]? with
    | some (some s) => if s.isO = true then (match s.fz with | .lst ds => some (.ok (.own (.lst (cutD ds q r))), δ) | _ => none) else none
    | _ => none)
  | _ => none
def slK4 (q r : Option Int) (δ : DEnv) (o : Option (Option Sl)) : Rs Sl := match o with
  | some (some s) => if s.isO = true then (match s.fz with | .lst ds => some (.ok (.own (.lst (cutD ds q r))), δ) | _ => none) else none
  | _ => none
def slK2 (i : Nat) (h : FO) (o : Rs (Option Int)) : Rs Sl := o.bind fun q δ => (h δ).bind fun r δ => slK4 q r δ (δ[i]?)
def slK3 (i : Nat) (q : Option Int) (o : Rs (Option Int)) : Rs Sl := o.bind fun r δ => slK4 q r δ (δ[i]?)
theorem e_slO (i : Nat) (l h : FO) (δ : DEnv) : fSlO i l h δ = slK1 i l h δ (δ[i]?) := rfl
theorem k_slO1 (i : Nat) (l h : FO) (δ : DEnv) (s : Sl) : slK1 i l h δ (some (some s)) = slK2 i h (l δ) := rfl
theorem k_slO2 (i : Nat) (h : FO) (q : Option Int) (δ : DEnv) : slK2 i h (some (.ok q, δ)) = slK3 i q (h δ) := rfl
theorem k_slO3 (i : Nat) (q r : Option Int) (δ : DEnv) : slK3 i q (some (.ok r, δ)) = slK4 q r δ (δ[i]?) := rfl
theorem k_slO4 (q r : Option Int) (δ : DEnv) (ds : List D) : slK4 q r δ (some (some (.own (.lst ds)))) = some (.ok (.own (.lst (cutD ds q r))), δ) := rfl
def partK (o : Rs Sl) : Rs (Option Int) := o.bind fun p δ => lift (intOf p.fz) δ
theorem e_part (f : FE) (δ : DEnv) : fPart f δ = partK (f δ) := rfl
theorem k_part (i : Int) (δ : DEnv) : partK (some (.ok (.val (.int i)), δ)) = some (.ok (some i), δ) := rfl
theorem e_nop (δ : DEnv) : fNoP δ = some (.ok none, δ) := rfl
def gslK1 (g : D → Option Int → Option Int → Option Sl) (l h : FO) (o : Rs Sl) : Rs Sl := o.bind fun p δ => (l δ).bind fun q δ => (h δ).bind fun r δ => lift (g p.fz q r) δ
def gslK2 (g : D → Option Int → Option Int → Option Sl) (p : D) (h : FO) (o : Rs (Option Int)) : Rs Sl := o.bind fun q δ => (h δ).bind fun r δ => lift (g p q r) δ
def gslK3 (g : D → Option Int → Option Int → Option Sl) (p : D) (q : Option Int) (o : Rs (Option Int)) : Rs Sl := o.bind fun r δ => lift (g p q r) δ
theorem e_sl (g : D → Option Int → Option Int → Option Sl) (f : FE) (l h : FO) (δ : DEnv) : fSl g f l h δ = gslK1 g l h (f δ) := rfl
theorem k_sl1 (g : D → Option Int → Option Int → Option Sl) (l h : FO) (p : Sl) (δ : DEnv) : gslK1 g l h (some (.ok p, δ)) = gslK2 g p.fz h (l δ) := rfl
theorem k_sl2 (g : D → Option Int → Option Int → Option Sl) (p : D) (h : FO) (q : Option Int) (δ : DEnv) : gslK2 g p h (some (.ok q, δ)) = gslK3 g p q (h δ) := rfl
theorem k_sl3 (g : D → Option Int → Option Int → Option Sl) (p : D) (q r : Option Int) (δ : DEnv) : gslK3 g p q (some (.ok r, δ)) = liK δ (g p q r) := rfl
theorem listD_l (ds : List D) : listD (.lst ds) = some (.own (.lst ds)) := rfl
theorem listD_t (ds : List D) : listD (.tup ds) = some (.own (.lst ds)) := rfl
theorem tupD_l (ds : List D) : tupleD (.lst ds) = some (.val (.tup ds)) := rfl
theorem gLst0 : gLstD [] = some (.own (.lst [])) := gLst_of _ (by simp)
theorem gLst1 (a : D) : gLstD [a] = some (.own (.lst [a])) := gLst_of _ (by simp)
theorem gLst2 (a b : D) : gLstD [a, b] = some (.own (.lst [a, b])) := gLst_of _ (by simp)
theorem gLst3 (a b c : D) : gLstD [a, b, c] = some (.own (.lst [a, b, c])) := gLst_of _ (by simp)
def evC := And.intro @e_mut <| And.intro @e_mut0 <| And.intro @k_mut1 <| And.intro @k_mut2 <| And.intro @k_mut3 <| And.intro @k_mut4 <| And.intro @e_slO <| And.intro @k_slO1 <| And.intro @k_slO2 <| And.intro @k_slO3 <| And.intro @k_slO4 <| And.intro @e_part <| And.intro @k_part <| And.intro @e_nop <| And.intro @e_sl <| And.intro @k_sl1 <| And.intro @k_sl2 <| And.intro @k_sl3 <| And.intro @listD_l <| And.intro @listD_t <| And.intro @tupD_l <| And.intro @gLst0 <| And.intro @gLst1 <| And.intro @gLst2 <| And.intro @gLst3 <| @len_lst
end Toy
namespace Toy
open PySem L2 L4
def cell (ns : List Int) (k : Int) : Int := if ns.length = 0 then k * 7919 % 1000003 else (ns.getD (k % ns.length).toNat 0 * 48271 + k * 7919 + k / ns.length * 104729) % 1000003
theorem cell_0 (ns : List Int) (k : Int) : 0 ≤ cell ns k := by unfold cell; split <;> omega
theorem cell_1 (ns : List Int) (k : Int) : cell ns k < 1000003 := by unfold cell; split <;> omega
theorem run_cell (ns : List Int) (hn : ns.length ≤ 63) (k : Int) : r_q_cell_at [.lst (ns.map D.int), .int k] = some (.ok (.val (.int (cell ns k))), []) := by
  show fin (f_q_cell_at [sv (.lst (ns.map D.int)), sv (.int k), none]) = _
  unfold f_q_cell_at cell
  have e1 : lenD (.lst (ns.map D.int)) = some (.val (.int ns.length)) := by rw [len_lst, List.length_map]
  by_cases h : ns.length = 0
  · simp -implicitDefEqProofs (disch := omega) only [evA, if_pos, if_neg, if_true, if_false, e1]
  · have h1 : 0 ≤ k % (ns.length : Int) := Int.emod_nonneg _ (by omega)
    have h2 : k % (ns.length : Int) < (ns.length : Int) := Int.emod_lt_of_pos _ (by omega)
    have e2 := cell_ix ns _ h1 h2
    simp -implicitDefEqProofs (disch := omega) only [evA, if_pos, if_neg, if_true, if_false, e1, e2]
end Toy
namespace Toy
open PySem L2 L4
inductive T where
  | num (n : Int) | ref (r c : Int) (a b : Bool) | gone | area (r c : Int) (a b : Bool) (r' c' : Int) (a' b' : Bool)
  | minus (t : T) | two (s : Nat) (t u : T) | pick (t u v : T) | over (w : Nat) (ts : List T)
def sgS : Nat → Str
  | 0 => "+" | 1 => "-" | 2 => "*" | 3 => "/" | 4 => "<" | _ => "="
def wdS : Nat → Str
  | 0 => "SUM" | 1 => "COUNT" | _ => "MAX"
def refD (r c : Int) (a b : Bool) : D := .tup [.str "ref", .tup [.int r, .int c], .tup [.bl a, .bl b]]
mutual
def enc : T → D
  | .num n => .tup [.str "num", .int n]
  | .ref r c a b => refD r c a b
  | .gone => .tup [.str "gone"]
  | .area r c a b r' c' a' b' => .tup [.str "area", refD r c a b, refD r' c' a' b']
  | .minus t => .tup [.str "minus", enc t]
  | .two s t u => .tup [.str "two", .str (sgS s), enc t, enc u]
  | .pick t u v => .tup [.str "pick", enc t, enc u, enc v]
  | .over w ts => .tup [.str "over", .str (wdS w), .lst (encL ts)]
def encL : List T → List D
  | [] => []
  | t :: ts => enc t :: encL ts
end
theorem encL_map : ∀ ts, encL ts = ts.map enc
  | [] => by unfold encL; rfl
  | t :: ts => by unfold encL; rw [encL_map ts]; rfl
theorem encL_length (a : List T) : (encL a).length = a.length := by simp [encL_map]
def parts : T → List T
  | .minus t => [t]
  | .two _ t u => [t, u]
  | .pick t u v => [t, u, v]
  | .over _ ts => ts
  | _ => []
def isLeaf : T → Bool
  | .num _ => true | .ref .. => true | .gone => true | .area .. => true | _ => false
mutual
def dp : T → Nat
  | .minus t => dp t + 1
  | .two _ t u => max (dp t) (dp u) + 1
  | .pick t u v => max (dp t) (max (dp u) (dp v)) + 1
  | .over _ ts => dpL ts + 1
  | _ => 1
def dpL : List T → Nat
  | [] => 0
  | t :: ts => max (dp t) (dpL ts)
end
mutual
def lvs : T → Nat
  | .minus t => lvs t
  | .two _ t u => lvs t + lvs u
  | .pick t u v => lvs t + (lvs u + lvs v)
  | .over _ ts => lvsL ts
  | _ => 1
def lvsL : List T → Nat
  | [] => 0
  | t :: ts => lvs t + lvsL ts
end
mutual
def sz : T → Nat
  | .minus t => sz t + 1
  | .two _ t u => sz t + sz u + 1
  | .pick t u v => sz t + sz u + sz v + 1
  | .over _ ts => szL ts + 1
  | _ => 1
def szL : List T → Nat
  | [] => 0
  | t :: ts => sz t + szL ts
end
mutual
def wf : T → Bool
  | .minus t => wf t
  | .two _ t u => wf t && wf u
  | .pick t u v => wf t && wf u && wf v
  | .over _ ts => (!ts.isEmpty && decide (ts.length ≤ 100)) && wfL ts
  | _ => true
def wfL : List T → Bool
  | [] => true
  | t :: ts => wf t && wfL ts
end
theorem szL_append : ∀ a b : List T, szL (a ++ b) = szL a + szL b
  | [], b => by simp [szL]
  | t :: a, b => by rw [List.cons_append, szL, szL, szL_append a b]; omega
theorem dp_pos (t : T) : 0 < dp t := by cases t <;> simp [dp]
theorem sz_parts (t : T) : szL (parts t) < sz t := by cases t <;> simp [parts, sz, szL] <;> omega
theorem dp_parts (t : T) : dpL (parts t) + 1 = dp t := by cases t <;> simp [parts, dp, dpL] <;> omega
theorem wf_parts {t : T} (h : wf t = true) : wfL (parts t) = true := by cases t <;> simp_all [parts, wf, wfL]
mutual
theorem plain_enc : ∀ t : T, plainD (enc t) = true
  | .num n => by simp [enc, plainD, plainDs]; decide +kernel
  | .ref r c a b => by simp [enc, refD, plainD, plainDs]; decide +kernel
  | .gone => by simp [enc, plainD, plainDs]; decide +kernel
  | .area .. => by simp [enc, refD, plainD, plainDs]; decide +kernel
  | .minus t => by simp [enc, plainD, plainDs, plain_enc t]; decide +kernel
  | .two s t u => by
    have : strOkD (sgS s) = true := by unfold sgS; split <;> decide +kernel
    simp [enc, plainD, plainDs, plain_enc t, plain_enc u, this]; decide +kernel
  | .pick t u v => by simp [enc, plainD, plainDs, plain_enc t, plain_enc u, plain_enc v]; decide +kernel
  | .over w ts => by
    have : strOkD (wdS w) = true := by unfold wdS; split <;> decide +kernel
    simp [enc, plainD, plainDs, plain_encL ts, this]; decide +kernel
theorem plain_encL : ∀ ts : List T, plainDs (encL ts) = true
  | [] => by simp [encL, plainDs]
  | t :: ts => by simp [encL, plainDs, plain_enc t, plain_encL ts]
end
mutual
theorem dep_enc : ∀ t : T, depD (enc t) ≤ 2 * dp t + 1
  | .num n => by simp [enc, depD, depDs, dp]
  | .ref r c a b => by simp [enc, refD, depD, depDs, dp]
  | .gone => by simp [enc, depD, depDs, dp]
  | .area .. => by simp [enc, refD, depD, depDs, dp]
  | .minus t => by have := dep_enc t; simp [enc, depD, depDs, dp]; omega
  | .two s t u => by have := dep_enc t; have := dep_enc u; simp [enc, depD, depDs, dp]; omega
  | .pick t u v => by have := dep_enc t; have := dep_enc u; have := dep_enc v; simp [enc, depD, depDs, dp]; omega
  | .over w ts => by have := dep_encL ts; simp [enc, depD, depDs, dp]; omega
theorem dep_encL : ∀ ts : List T, depDs (encL ts) ≤ 2 * dpL ts + 1
  | [] => by simp [encL, depDs]
  | t :: ts => by have := dep_enc t; have := dep_encL ts; simp [encL, depDs, dpL]; omega
end
theorem eqOp_same (n : Bool) (d : D) (h1 : depD d ≤ 100) (h2 : plainD d = true) : eqOp n d d = some (.val (.bl (!n))) := by
  unfold eqOp
  rw [if_pos (by rw [decide_eq_true h1, h2]; rfl), eqD_refl d h2]
  cases n <;> rfl
/-! lists made turn by turn -/
end Toy
namespace Toy
open PySem L2 L4
mutual
def okT (R C : Int) : T → Prop
  | .num _ => True
  | .gone => True
  | .ref r c _ _ => 0 ≤ r ∧ r < R ∧ 0 ≤ c ∧ c < C
  | .area r c _ _ r' c' _ _ => 0 ≤ r ∧ r ≤ r' ∧ r' < R ∧ 0 ≤ c ∧ c ≤ c' ∧ c' < C
  | .minus t => okT R C t
  | .two _ t u => okT R C t ∧ okT R C u
  | .pick t u v => okT R C t ∧ okT R C u ∧ okT R C v
  | .over _ ts => okL R C ts
def okL (R C : Int) : List T → Prop
  | [] => True
  | t :: ts => okT R C t ∧ okL R C ts
end
theorem okL_all {R C : Int} : ∀ {ts : List T}, okL R C ts ↔ ∀ t ∈ ts, okT R C t
  | [] => by simp [okL]
  | t :: ts => by rw [okL, okL_all (ts := ts)]; simp
theorem dpL_le {n : Nat} : ∀ {ts : List T}, dpL ts ≤ n ↔ ∀ t ∈ ts, dp t ≤ n
  | [] => by simp [dpL]
  | t :: ts => by rw [dpL, Nat.max_le, dpL_le (ts := ts)]; simp
theorem run_ref (x R C : Int) (hR : 0 < R) (hC : 0 < C) : ∃ a b, r_q_ref_by [.int x, .int R, .int C] = some (.ok (.val (refD (x % R) (x / 99 % C) a b)), []) := by
  refine ⟨decide (x / 2574 % 2 = 1), decide (x / 5148 % 2 = 1), runE rfl ?_⟩
  show fin (f_q_ref_by [sv (.int x), sv (.int R), sv (.int C), none]) = _
  unfold f_q_ref_by refD
  simp -implicitDefEqProofs (disch := omega) only [evA, if_pos, if_neg, if_true, if_false]
theorem run_area (x y R C : Int) (hR : 0 < R) (hC : 0 < C) : ∃ r c a b r' c' a' b', r_q_area_by [.int x, .int y, .int R, .int C] = some (.ok (.val (enc (.area r c a b r' c' a' b'))), []) ∧ okT R C (.area r c a b r' c' a' b') := by
  obtain ⟨a, b, e1⟩ := run_ref x R C hR hC
  obtain ⟨a', b', e2⟩ := run_ref y R C hR hC
  have h1 := Int.emod_nonneg x (show R ≠ 0 by omega)
  have h2 := Int.emod_lt_of_pos x hR
  have h3 := Int.emod_nonneg y (show R ≠ 0 by omega)
  have h4 := Int.emod_lt_of_pos y hR
  have h5 := Int.emod_nonneg (x / 99) (show C ≠ 0 by omega)
  have h6 := Int.emod_lt_of_pos (x / 99) hC
  have h7 := Int.emod_nonneg (y / 99) (show C ≠ 0 by omega)
  have h8 := Int.emod_lt_of_pos (y / 99) hC
  generalize x % R = r at *
  generalize y % R = r' at *
  generalize x / 99 % C = c at *
  generalize y / 99 % C = c' at *
  have key : ∀ fr fc : Int, 0 ≤ fr → fr < R → 0 ≤ fc → fc < C → fin (f_q_area_by_5 [sv (.int x), sv (.int y), sv (.int R), sv (.int C), sv (refD r c a b), sv (refD r' c' a' b'), sv (.tup [.int fr, .int fc]), none, none]) = some (.ok (.val (enc (.area (min r fr) (min c fc) a b (max r fr) (max c fc) a' b'))), []) := by
    intro fr fc _ _ _ _
    unfold f_q_area_by_5 f_q_area_by_6 f_q_area_by_7 refD
    simp -implicitDefEqProofs (disch := omega) only [evA, if_pos, if_neg, if_true, if_false]
    simp [enc, refD]
  have ok : ∀ fr fc : Int, 0 ≤ fr → fr < R → 0 ≤ fc → fc < C → okT R C (.area (min r fr) (min c fc) a b (max r fr) (max c fc) a' b') := by
    intro fr fc _ _ _ _
    simp only [okT]
    omega
  have st : ∀ fr fc, fin (f_q_area_by_3 [sv (.int x), sv (.int y), sv (.int R), sv (.int C), sv (refD r c a b), sv (refD r' c' a' b'), sv (.tup [.int r', .int c']), none, none]) = fin (f_q_area_by_5 [sv (.int x), sv (.int y), sv (.int R), sv (.int C), sv (refD r c a b), sv (refD r' c' a' b'), sv (.tup [.int fr, .int fc]), none, none]) →
      r_q_area_by [.int x, .int y, .int R, .int C] = fin (f_q_area_by_5 [sv (.int x), sv (.int y), sv (.int R), sv (.int C), sv (refD r c a b), sv (refD r' c' a' b'), sv (.tup [.int fr, .int fc]), none, none]) := by
    intro fr fc e
    refine runE rfl ?_
    rw [← e]
    show fin (f_q_area_by [sv (.int x), sv (.int y), sv (.int R), sv (.int C), none, none, none, none, none]) = _
    unfold f_q_area_by f_q_area_by_1 f_q_area_by_2
    simp -implicitDefEqProofs (disch := omega) only [evA, if_pos, if_neg, if_true, if_false, e1, e2]
    unfold refD
    simp -implicitDefEqProofs (disch := omega) only [evA, if_pos, if_neg, if_true, if_false]
  by_cases q1 : x / 10296 % 4 = 1
  · refine ⟨_, _, _, _, _, _, _, _, (st r c' ?_).trans (key r c' h1 h2 h7 h8), ok r c' h1 h2 h7 h8⟩
    unfold f_q_area_by_3 f_q_area_by_4 refD
    simp -implicitDefEqProofs (disch := omega) only [evA, if_pos, if_neg, if_true, if_false]
  · by_cases q2 : x / 10296 % 4 = 2
    · refine ⟨_, _, _, _, _, _, _, _, (st r' c ?_).trans (key r' c h3 h4 h5 h6), ok r' c h3 h4 h5 h6⟩
      unfold f_q_area_by_3 f_q_area_by_4 refD
      simp -implicitDefEqProofs (disch := omega) only [evA, if_pos, if_neg, if_true, if_false]
    · refine ⟨_, _, _, _, _, _, _, _, (st r' c' ?_).trans (key r' c' h3 h4 h7 h8), ok r' c' h3 h4 h7 h8⟩
      unfold f_q_area_by_3 f_q_area_by_4 refD
      simp -implicitDefEqProofs (disch := omega) only [evA, if_pos, if_neg, if_true, if_false]
theorem ix_word (k : Int) (h : 0 ≤ k ∧ k < 3) : ∃ w, ixD (.lst [.str "SUM", .str "COUNT", .str "MAX"]) (.int k) = some (.val (.str (wdS w))) := by
  have : k = 0 ∨ k = 1 ∨ k = 2 := by omega
  rcases this with rfl | rfl | rfl
  · exact ⟨0, rfl⟩
  · exact ⟨1, rfl⟩
  · exact ⟨2, rfl⟩
theorem pow12 : powD (.int 10) (.int 12) = some (.val (.int 1000000000000)) := by kernel_rfl
theorem run_leaf (ns : List Int) (hn : ns.length ≤ 63) (k R C : Int) (hR : 0 < R) (hC : 0 < C) : ∃ t d, r_q_leaf_by [.lst (ns.map D.int), .int k, .int R, .int C] = some (.ok (.val (.tup [enc t, .int d])), []) ∧ okT R C t ∧ (dp t : Int) ≤ d ∧ 1 ≤ d ∧ d ≤ 2 ∧ wf t = true ∧ sz t ≤ 2 := by
  have hc := run_cell ns hn
  have h0 := cell_0 ns
  have h1 := cell_1 ns
  have c0 := h0 (k + 100)
  have c1 := h1 (k + 100)
  have c2 := h0 k
  generalize eS : D.lst (ns.map D.int) = S at hc ⊢
  by_cases q0 : cell ns k % 7 = 0
  · by_cases q1 : cell ns (k + 100) % 3 = 0
    · refine ⟨.num (cell ns (k + 100) / 3 % 10), 1, runE rfl ?_, by simp [okT], by simp [dp], by omega, by omega, by simp [wf], by simp [sz]⟩
      show fin (f_q_leaf_by [sv S, sv (.int k), sv (.int R), sv (.int C), none, none, none]) = _
      unfold f_q_leaf_by enc
      simp -implicitDefEqProofs (disch := omega) only [evA, if_pos, if_neg, if_true, if_false, hc]
    · refine ⟨.num (cell ns (k + 100) * 1000003 % 1000000000000), 1, runE rfl ?_, by simp [okT], by simp [dp], by omega, by omega, by simp [wf], by simp [sz]⟩
      show fin (f_q_leaf_by [sv S, sv (.int k), sv (.int R), sv (.int C), none, none, none]) = _
      unfold f_q_leaf_by enc
      simp -implicitDefEqProofs (disch := omega) only [evA, if_pos, if_neg, if_true, if_false, hc, pow12]
  · by_cases q1 : cell ns k % 7 = 1
    · refine ⟨.gone, 1, runE rfl ?_, by simp [okT], by simp [dp], by omega, by omega, by simp [wf], by simp [sz]⟩
      show fin (f_q_leaf_by [sv S, sv (.int k), sv (.int R), sv (.int C), none, none, none]) = _
      unfold f_q_leaf_by enc
      simp -implicitDefEqProofs (disch := omega) only [evA, if_pos, if_neg, if_true, if_false, hc]
    · by_cases q2 : cell ns k % 7 = 2
      · obtain ⟨r, c, a, b, r', c', a', b', e1, ok⟩ := run_area (cell ns (k + 100)) (cell ns (k + 200)) R C hR hC
        obtain ⟨w, e2⟩ := ix_word (cell ns k / 7 % 3) (by omega)
        refine ⟨.over w [.area r c a b r' c' a' b'], 2, runE rfl ?_, by simp only [okT, okL]; simp only [okT] at ok; exact ⟨ok, trivial⟩, by simp [dp, dpL], by omega, by omega, by simp [wf, wfL], by simp [sz, szL]⟩
        show fin (f_q_leaf_by [sv S, sv (.int k), sv (.int R), sv (.int C), none, none, none]) = _
        have e3 : enc (.over w [.area r c a b r' c' a' b']) = .tup [.str "over", .str (wdS w), .lst [enc (.area r c a b r' c' a' b')]] := by simp [enc, encL]
        rw [e3]
        unfold f_q_leaf_by
        simp -implicitDefEqProofs (disch := omega) only [evA, if_pos, if_neg, if_true, if_false, evC, hc, e1, e2]
      · obtain ⟨a, b, e1⟩ := run_ref (cell ns (k + 100)) R C hR hC
        have h1 := Int.emod_nonneg (cell ns (k + 100)) (show R ≠ 0 by omega)
        have h2 := Int.emod_lt_of_pos (cell ns (k + 100)) hR
        have h5 := Int.emod_nonneg (cell ns (k + 100) / 99) (show C ≠ 0 by omega)
        have h6 := Int.emod_lt_of_pos (cell ns (k + 100) / 99) hC
        refine ⟨.ref (cell ns (k + 100) % R) (cell ns (k + 100) / 99 % C) a b, 1, runE rfl ?_, by simp only [okT]; exact ⟨h1, h2, h5, h6⟩, by simp [dp], by omega, by omega, by simp [wf], by simp [sz]⟩
        show fin (f_q_leaf_by [sv S, sv (.int k), sv (.int R), sv (.int C), none, none, none]) = _
        unfold f_q_leaf_by enc
        simp -implicitDefEqProofs (disch := omega) only [evA, if_pos, if_neg, if_true, if_false, hc, e1]
end Toy
namespace Toy
open PySem L2 L4
theorem insAt_map {α β : Type} (f : α → β) (xs : List α) (k : Nat) (x : α) : insAt (xs.map f) k (f x) = (insAt xs k x).map f := by simp [insAt]
theorem insAt_enc (us : List T) (k : Nat) (a : T) : insAt (encL us) k (enc a) = encL (insAt us k a) := by rw [encL_map, encL_map, insAt_map]
theorem mem_insAt {α : Type} {xs : List α} {k : Nat} {x y : α} (h : y ∈ insAt xs k x) : y ∈ xs ∨ y = x := by
  unfold insAt at h
  rcases List.mem_append.mp h with h | h
  · exact .inl (List.mem_of_mem_take h)
  · rcases List.mem_cons.mp h with h | h
    · exact .inr h
    · exact .inl (List.mem_of_mem_drop h)
theorem len_insAt {α : Type} (xs : List α) (k : Nat) (x : α) : (insAt xs k x).length = xs.length + 1 := by
  unfold insAt; rw [List.length_append, List.length_cons, List.length_take, List.length_drop]; omega
theorem wfL_all : ∀ {ts : List T}, wfL ts = true ↔ ∀ t ∈ ts, wf t = true
  | [] => by simp [wfL]
  | t :: ts => by rw [wfL, Bool.and_eq_true, wfL_all (ts := ts)]; simp
structure GL (R C : Int) (n : Nat) (ts : List T) : Prop where
  ok : okL R C ts
  d : dpL ts ≤ n
  w : wfL ts = true
theorem GL.ins {R C : Int} {n : Nat} {ts : List T} (h : GL R C n ts) {a : T} (k : Nat) (o : okT R C a) (d : dp a ≤ n) (w : wf a = true) : GL R C n (insAt ts k a) :=
  ⟨okL_all.mpr fun t ht => (mem_insAt ht).elim (okL_all.mp h.ok t) (fun e => e ▸ o), dpL_le.mpr fun t ht => (mem_insAt ht).elim (dpL_le.mp h.d t) (fun e => e ▸ d), wfL_all.mpr fun t ht => (mem_insAt ht).elim (wfL_all.mp h.w t) (fun e => e ▸ w)⟩
theorem szL_ins (us : List T) (k : Nat) (a : T) : szL (insAt us k a) = szL us + sz a := by
  have h := congrArg szL (List.take_append_drop k us)
  rw [szL_append] at h
  unfold insAt
  rw [szL_append, szL]; omega
theorem ins_loop (ns : List Int) (hn : ns.length ≤ 63) (k c R C : Int) (hR : 0 < R) (hC : 0 < C) (hc0 : 0 ≤ c) (n : Nat) (hn1 : 1 ≤ n) (a3 a6 a8 : Option Sl) : ∀ (ks : List Int) (us : List T) (a9 a10 : Option Sl), GL R C n us → us.length + ks.length ≤ 100 →
    ∃ us' b9 b10, forD 9 lb_q_joined_1 (ks.map D.int) [sv (.lst (ns.map D.int)), sv (.int k), sv (.int c), a3, sv (.int R), sv (.int C), a6, some (.own (.lst (encL us))), a8, a9, a10] = some (.next [sv (.lst (ns.map D.int)), sv (.int k), sv (.int c), a3, sv (.int R), sv (.int C), a6, some (.own (.lst (encL us'))), a8, b9, b10]) ∧ GL R C n us' ∧ us'.length = us.length + ks.length ∧ szL us' = szL us + ks.length
  | [], us, a9, a10, h, _ => ⟨us, a9, a10, rfl, h, rfl, rfl⟩
  | j :: ks, us, a9, a10, h, hl => by
    have hc := run_cell ns hn
    obtain ⟨r, cc, a, b, r', c', a', b', e1, ok⟩ := run_area (cell ns (k + 300 + j)) (cell ns (k + 400 + j)) R C hR hC
    generalize eA : T.area r cc a b r' c' a' b' = ar at e1 ok
    have e2 : (encL us).length = us.length := encL_length us
    obtain ⟨i, ei⟩ : ∃ i, c / 81 % ((us.length : Int) + 1) = i := ⟨_, rfl⟩
    have i0 : 0 ≤ i := by rw [← ei]; exact Int.emod_nonneg _ (by omega)
    have i1 : i < (us.length : Int) + 1 := by rw [← ei]; exact Int.emod_lt_of_pos _ (by omega)
    rw [List.length_cons] at hl
    have h' : GL R C n (insAt us i.toNat ar) := h.ins _ ok (by rw [← eA]; simpa [dp] using hn1) (by rw [← eA]; simp [wf])
    obtain ⟨us', b9, b10, e3, h3, h4, h4s⟩ := ins_loop ns hn k c R C hR hC hc0 n hn1 a3 a6 a8 ks (insAt us i.toNat ar) (sv (.int j)) (sv (enc ar)) h' (by rw [len_insAt]; omega)
    refine ⟨us', b9, b10, ?_, h3, by rw [h4, len_insAt, List.length_cons]; omega, by rw [h4s, szL_ins, List.length_cons, ← eA]; simp only [sz]; omega⟩
    generalize eS : D.lst (ns.map D.int) = S at hc e3 ⊢
    rw [← e3, List.map_cons, e_forC]
    have e4 : lb_q_joined_1 [sv S, sv (.int k), sv (.int c), a3, sv (.int R), sv (.int C), a6, some (.own (.lst (encL us))), a8, sv (.int j), a10] = some (.next [sv S, sv (.int k), sv (.int c), a3, sv (.int R), sv (.int C), a6, some (.own (.lst (encL (insAt us i.toNat ar)))), a8, sv (.int j), sv (enc ar)]) := by
      unfold lb_q_joined_1
      have g := gIns_of (encL us) i (enc ar) i0 (by rw [e2]; omega) (by rw [e2]; omega)
      rw [insAt_enc] at g
      have f1 : ∀ (o : Option Sl) (l : DEnv), frzE (o :: l) = frzS o :: frzE l := fun _ _ => rfl
      have f2 : frzS (some (.own (.lst (encL us)))) = sv (.lst (encL us)) := rfl
      have f3 : ∀ d, frzS (sv d) = sv d := fun _ => rfl
      simp -implicitDefEqProofs (disch := omega) only [evA, if_pos, if_neg, if_true, if_false, f1, f2, f3, frz0, e_pure, k_pureI, evC, hc, e1, e2, ei, g]
    show forCK 9 lb_q_joined_1 (ks.map D.int) (lb_q_joined_1 [sv S, sv (.int k), sv (.int c), a3, sv (.int R), sv (.int C), a6, some (.own (.lst (encL us))), a8, sv (.int j), a10]) = _
    rw [e4, k_forC1]
theorem pure_over (f : FE) (δ δ' : DEnv) (z w : Str) (l : List D) : pureK f δ (some (.ok (.val (.tup [.str z, .str w, .lst l])), δ')) = f δ := by
  have : Sl.flat (.val (.tup [.str z, .str w, .lst l])) = false := by simp [Sl.flat, noLst, noLsts]
  unfold pureK
  simp only [this, Bool.false_eq_true, if_false]
theorem ix_sign (k : Int) (h : 0 ≤ k ∧ k < 6) : ∃ s, ixD (.str "+-*/<=") (.int k) = some (.val (.str (sgS s))) := by
  have : k = 0 ∨ k = 1 ∨ k = 2 ∨ k = 3 ∨ k = 4 ∨ k = 5 := by omega
  rcases this with rfl | rfl | rfl | rfl | rfl | rfl
  · exact ⟨0, by kernel_rfl⟩
  · exact ⟨1, by kernel_rfl⟩
  · exact ⟨2, by kernel_rfl⟩
  · exact ⟨3, by kernel_rfl⟩
  · exact ⟨4, by kernel_rfl⟩
  · exact ⟨5, by kernel_rfl⟩
theorem ixl_0 (a : D) (r : List D) : ixD (.lst (a :: r)) (.int 0) = some (.val a) := by
  show (atI (a :: r) 0).map Sl.val = _
  rw [show (atI (a :: r) (0 : Int)) = some a from by rw [atI_of (by decide) (by rw [List.length_cons]; omega)]; rfl]
  rfl
theorem ixl_1 (a b : D) (r : List D) : ixD (.lst (a :: b :: r)) (.int 1) = some (.val b) := by
  show (atI (a :: b :: r) 1).map Sl.val = _
  rw [show (atI (a :: b :: r) (1 : Int)) = some b from by rw [atI_of (by decide) (by rw [List.length_cons, List.length_cons]; omega)]; rfl]
  rfl
theorem ixl_2 (a b c : D) (r : List D) : ixD (.lst (a :: b :: c :: r)) (.int 2) = some (.val c) := by
  show (atI (a :: b :: c :: r) 2).map Sl.val = _
  rw [show (atI (a :: b :: c :: r) (2 : Int)) = some c from by rw [atI_of (by decide) (by simp only [List.length_cons]; omega)]; rfl]
  rfl
theorem rng_ints (n : Nat) : rngD 0 n = ((List.range n).map fun (k : Nat) => (0 + (k : Int))).map D.int := by unfold rngD; rw [List.map_map]; rfl
theorem run_joined (ns : List Int) (hn : ns.length ≤ 63) (k c R C : Int) (hR : 0 < R) (hC : 0 < C) (hc0 : 0 ≤ c) (n : Nat) (hn1 : 1 ≤ n) (ts : List T) (h : GL R C n ts)
    (hk : c % 9 = 5 ∧ ts.length = 1 ∨ c % 9 = 6 ∧ ts.length = 2 ∨ c % 9 = 7 ∧ ts.length = 3 ∨ c % 9 = 8 ∧ 1 ≤ ts.length ∧ ts.length ≤ 3) :
    ∃ t, r_q_joined [.lst (ns.map D.int), .int k, .int c, .lst (encL ts), .int R, .int C] = some (.ok (.val (enc t)), []) ∧ okT R C t ∧ dp t ≤ n + 1 ∧ wf t = true ∧ sz t ≤ szL ts + 9 := by
  have st : ∀ {r}, fin (f_q_joined [sv (.lst (ns.map D.int)), sv (.int k), sv (.int c), sv (.lst (encL ts)), sv (.int R), sv (.int C), none, none, none, none, none]) = r → r_q_joined [.lst (ns.map D.int), .int k, .int c, .lst (encL ts), .int R, .int C] = r := fun e => runE rfl e
  have hl := ins_loop ns hn k c R C hR hC hc0 n hn1
  generalize eS : D.lst (ns.map D.int) = S at st hl ⊢
  obtain ⟨ok, d, w⟩ := h
  rcases hk with ⟨hk, hl1⟩ | ⟨hk, hl1⟩ | ⟨hk, hl1⟩ | ⟨hk, hl1, hl2⟩
  · match ts, hl1 with
    | [t], _ =>
      simp only [okL, dpL, wfL, Bool.and_true, and_true, Nat.max_zero] at ok d w
      refine ⟨.minus t, st ?_, by simp only [okT]; exact ok, by simp only [dp]; omega, by simp only [wf]; exact w, by simp only [sz, szL]; omega⟩
      unfold f_q_joined f_q_joined_1 enc encL
      simp -implicitDefEqProofs (disch := omega) only [evA, if_pos, if_neg, if_true, if_false, ixl_0]
  · match ts, hl1 with
    | [t, u], _ =>
      simp only [okL, dpL, wfL, Bool.and_true, and_true, Nat.max_zero, Bool.and_eq_true] at ok d w
      obtain ⟨s, e1⟩ := ix_sign (c / 9 % 6) (by omega)
      refine ⟨.two s t u, st ?_, by simp only [okT]; exact ok, by simp only [dp]; omega, by simp only [wf, Bool.and_eq_true]; exact w, by simp only [sz, szL]; omega⟩
      unfold f_q_joined f_q_joined_1 f_q_joined_2 enc encL encL
      simp -implicitDefEqProofs (disch := omega) only [evA, if_pos, if_neg, if_true, if_false, ixl_0, ixl_1, e1]
  · match ts, hl1 with
    | [t, u, v], _ =>
      simp only [okL, dpL, wfL, Bool.and_true, and_true, Nat.max_zero, Bool.and_eq_true] at ok d w
      refine ⟨.pick t u v, st ?_, by simp only [okT]; exact ok, by simp only [dp]; omega, by simp only [wf, Bool.and_eq_true]; exact ⟨⟨w.1, w.2.1⟩, w.2.2⟩, by simp only [sz, szL]; omega⟩
      unfold f_q_joined f_q_joined_1 f_q_joined_2 f_q_joined_3 enc encL encL encL
      simp -implicitDefEqProofs (disch := omega) only [evA, if_pos, if_neg, if_true, if_false, ixl_0, ixl_1, ixl_2]
  · obtain ⟨m, hm, em⟩ : ∃ m : Nat, m ≤ 8 ∧ fin (f_q_joined [sv S, sv (.int k), sv (.int c), sv (.lst (encL ts)), sv (.int R), sv (.int C), none, none, none, none, none]) = fin (f_q_joined_7 [sv S, sv (.int k), sv (.int c), sv (.lst (encL ts)), sv (.int R), sv (.int C), sv (.int (c % 9)), some (.own (.lst (encL ts))), sv (.int m), none, none]) := by
      by_cases q : c / 2187 % 16 = 1
      · refine ⟨8 - ts.length, by omega, ?_⟩
        have e2 : (encL ts).length = ts.length := encL_length ts
        have e3 : ((8 - ts.length : Nat) : Int) = 8 - (ts.length : Int) := by omega
        unfold f_q_joined f_q_joined_1 f_q_joined_2 f_q_joined_3 f_q_joined_4 f_q_joined_5 f_q_joined_6
        simp -implicitDefEqProofs (disch := omega) only [evA, if_pos, if_neg, if_true, if_false, evB, evC, e2, e3]
      · refine ⟨(c / 27 % 3).toNat, by omega, ?_⟩
        have e3 : ((c / 27 % 3).toNat : Int) = c / 27 % 3 := by omega
        unfold f_q_joined f_q_joined_1 f_q_joined_2 f_q_joined_3 f_q_joined_4 f_q_joined_5 f_q_joined_6
        simp -implicitDefEqProofs (disch := omega) only [evA, if_pos, if_neg, if_true, if_false, evB, evC, e3]
    obtain ⟨us', b9, b10, e4, h5, h6, h7⟩ := hl (sv (.lst (encL ts))) (sv (.int (c % 9))) (sv (.int m)) ((List.range m).map fun (k : Nat) => (0 + (k : Int))) ts none none ⟨ok, d, w⟩ (by rw [List.length_map, List.length_range]; omega)
    rw [← rng_ints] at e4
    obtain ⟨wd, e5⟩ := ix_word (c / 243 % 3) (by omega)
    have k1 : ∀ δ, rngK (some (.ok [.int (m : Int)], δ)) = some (.ok (rngD 0 m), δ) := fun δ => k_rng1 m δ (by omega) (by omega)
    refine ⟨.over wd us', st ?_, by simp only [okT]; exact h5.ok, by simp only [dp]; have := h5.d; omega, ?_, by simp only [sz]; rw [h7, List.length_map, List.length_range]; omega⟩
    · rw [em]
      unfold f_q_joined_7 f_q_joined_8 enc
      simp -implicitDefEqProofs (disch := omega) only [evA, if_pos, if_neg, if_true, if_false, e_rng1, k1, e4, e_pure, frz0, frz2, frz3, pure_over, evC, e5]
    · simp only [wf, Bool.and_eq_true]
      refine ⟨⟨?_, decide_eq_true (by rw [h6, List.length_map, List.length_range]; omega)⟩, h5.w⟩
      cases us' with
      | nil => simp at h6; omega
      | cons _ _ => rfl

/-! the pile -/
abbrev P3 := T × Int × Int
def eP (x : P3) : D := .tup [enc x.1, .int x.2.1, .int x.2.2]
def encS (st : List P3) : List D := st.map eP
theorem encS_len (st : List P3) : (encS st).length = st.length := by simp [encS]
structure GP (R C : Int) (x : P3) : Prop where
  ok : okT R C x.1
  d : (dp x.1 : Int) ≤ x.2.1
  d0 : 1 ≤ x.2.1
  d1 : x.2.1 ≤ 12
  w : wf x.1 = true
  s : (sz x.1 : Int) ≤ 2 * x.2.2
  s1 : x.2.2 ≤ 60
theorem szL_sum : ∀ {bh : List P3}, (∀ x ∈ bh, (sz x.1 : Int) ≤ 2 * x.2.2) → (szL (bh.map (·.1)) : Int) ≤ 2 * (bh.map (·.2.2)).sum
  | [], _ => by simp [szL]
  | x :: bh, h => by
    have h1 := szL_sum (bh := bh) fun y hy => h y (List.mem_cons_of_mem _ hy)
    have h2 := h x List.mem_cons_self
    simp only [List.map_cons, List.sum_cons, szL]
    omega
def GS (R C : Int) (st : List P3) : Prop := ∀ x ∈ st, GP R C x
theorem sIx_in (n d : Nat) (i : Int) (h0 : 0 ≤ i) (h1 : i ≤ n) : HT.sIx n d (some i) = i.toNat := by
  have := HT.sIx_nat n d i.toNat
  rw [Int.toNat_of_nonneg h0] at this
  rw [this]; omega
theorem cut_lo (ds : List D) (i : Int) (h0 : 0 ≤ i) (h1 : i ≤ ds.length) : cutD ds (some i) none = ds.drop i.toNat := by
  unfold cutD
  rw [sIx_in _ _ i h0 h1, HT.sIx_none, List.take_of_length_le (by rw [List.length_drop]; omega)]
theorem cut_hi (ds : List D) (i : Int) (h0 : 0 ≤ i) (h1 : i ≤ ds.length) : cutD ds none (some i) = ds.take i.toNat := by
  unfold cutD
  rw [sIx_in _ _ i h0 h1, HT.sIx_none, List.drop_zero, Nat.sub_zero]
theorem fComp_of {src : FL} {fc : Option FT} {fe : FE} {δ δ' δ'' : DEnv} {ds r : List D} (e : src δ = some (.ok ds, δ')) (h : compD fc fe ds [] δ' = some (r, δ'')) : fComp src fc fe δ = some (.ok (.own (.lst r)), δ'') := by
  unfold fComp; rw [e, Rs.bind_ok]; simp only [h]
theorem comp_S {fe : FE} (g : P3 → D) (he : ∀ x δ, ∃ s, fe (sv (eP x) :: δ) = some (.ok s, sv (eP x) :: δ) ∧ s.fz = g x) (st : List P3) (hl : st.length ≤ 1000) (δ : DEnv) : compD none fe (encS st) [] δ = some (st.map g, δ) := by
  have key : ∀ (st : List P3) (acc : List D), acc.length + st.length ≤ 1000 → compD none fe (encS st) acc δ = some (acc ++ st.map g, δ) := by
    intro st
    induction st with
    | nil => intro acc _; simp [encS, compD]
    | cons x st ih =>
      intro acc hl
      rw [List.length_cons] at hl
      obtain ⟨s, e1, e2⟩ := he x δ
      show compD none fe (eP x :: encS st) acc δ = _
      unfold compD testD
      simp only [e1]
      rw [if_pos (by rw [sizeLine_is]; omega), List.tail_cons, ih _ (by rw [List.length_append, List.length_cons, List.length_nil]; omega), e2]
      simp
  have := key st [] (by simpa using hl)
  simpa using this
theorem el1 (x : P3) (δ : DEnv) : el_q_tree_by_1 (sv (eP x) :: δ) = some (.ok (.val (.int x.2.2)), sv (eP x) :: δ) := by unfold el_q_tree_by_1 eP; simp -implicitDefEqProofs (disch := omega) only [evA, if_pos, if_neg, if_true, if_false]
theorem el2 (x : P3) (δ : DEnv) : el_q_tree_by_2 (sv (eP x) :: δ) = some (.ok (.val (.int x.2.1)), sv (eP x) :: δ) := by unfold el_q_tree_by_2 eP; simp -implicitDefEqProofs (disch := omega) only [evA, if_pos, if_neg, if_true, if_false]
theorem el3 (x : P3) (δ : DEnv) : el_q_tree_by_3 (sv (eP x) :: δ) = some (.ok (.val (enc x.1)), sv (eP x) :: δ) := by unfold el_q_tree_by_3 eP; simp -implicitDefEqProofs (disch := omega) only [evA, if_pos, if_neg, if_true, if_false]
theorem el4 (x : P3) (δ : DEnv) : el_q_tree_by_4 (sv (eP x) :: δ) = some (.ok (.val (.int x.2.1)), sv (eP x) :: δ) := by unfold el_q_tree_by_4 eP; simp -implicitDefEqProofs (disch := omega) only [evA, if_pos, if_neg, if_true, if_false]
section
variable (a0 a1 a2 a3 a4 a5 a6 a7 a9 a10 a11 : Option Sl) (bh : List P3)
theorem cp1 (hl : bh.length ≤ 1000) : fComp (fItA (fVar 8)) none el_q_tree_by_1 [a0, a1, a2, a3, a4, a5, a6, a7, some (.own (.lst (encS bh))), a9, a10, a11] = some (.ok (.own (.lst (bh.map fun x => .int x.2.2))), [a0, a1, a2, a3, a4, a5, a6, a7, sv (.lst (encS bh)), a9, a10, a11]) :=
  fComp_of (ds := encS bh) (by simp -implicitDefEqProofs (disch := omega) only [evA, if_pos, if_neg, if_true, if_false]) (comp_S (fun x => .int x.2.2) (fun x δ => ⟨_, el1 x δ, rfl⟩) bh hl _)
theorem cp2 (hl : bh.length ≤ 1000) : fComp (fItA (fVar 8)) none el_q_tree_by_2 [a0, a1, a2, a3, a4, a5, a6, a7, sv (.lst (encS bh)), a9, a10, a11] = some (.ok (.own (.lst (bh.map fun x => .int x.2.1))), [a0, a1, a2, a3, a4, a5, a6, a7, sv (.lst (encS bh)), a9, a10, a11]) :=
  fComp_of (ds := encS bh) (by simp -implicitDefEqProofs (disch := omega) only [evA, if_pos, if_neg, if_true, if_false]) (comp_S (fun x => .int x.2.1) (fun x δ => ⟨_, el2 x δ, rfl⟩) bh hl _)
theorem cp3 (hl : bh.length ≤ 1000) : fComp (fItA (fVar 8)) none el_q_tree_by_3 [a0, a1, a2, a3, a4, a5, a6, a7, sv (.lst (encS bh)), a9, a10, a11] = some (.ok (.own (.lst (encL (bh.map (·.1))))), [a0, a1, a2, a3, a4, a5, a6, a7, sv (.lst (encS bh)), a9, a10, a11]) := by
  have : encL (bh.map (·.1)) = bh.map fun x => enc x.1 := by rw [encL_map, List.map_map]; rfl
  rw [this]
  exact fComp_of (ds := encS bh) (by simp -implicitDefEqProofs (disch := omega) only [evA, if_pos, if_neg, if_true, if_false]) (comp_S (fun x => enc x.1) (fun x δ => ⟨_, el3 x δ, rfl⟩) bh hl _)
theorem cp4 (hl : bh.length ≤ 1000) : fComp (fItA (fVar 8)) none el_q_tree_by_4 [a0, a1, a2, a3, a4, a5, a6, a7, sv (.lst (encS bh)), a9, a10, a11] = some (.ok (.own (.lst (bh.map fun x => .int x.2.1))), [a0, a1, a2, a3, a4, a5, a6, a7, sv (.lst (encS bh)), a9, a10, a11]) :=
  fComp_of (ds := encS bh) (by simp -implicitDefEqProofs (disch := omega) only [evA, if_pos, if_neg, if_true, if_false]) (comp_S (fun x => .int x.2.1) (fun x δ => ⟨_, el4 x δ, rfl⟩) bh hl _)
end
theorem ints_map {α : Type} (f : α → Int) (l : List α) : intsOf (l.map fun x => D.int (f x)) = some (l.map f) := by
  rw [show (l.map fun x => D.int (f x)) = (l.map f).map D.int by rw [List.map_map]; rfl, intsOf_map]
theorem sumS (bh : List P3) : sumLD (.lst (bh.map fun x => .int x.2.2)) = some (.val (.int (bh.map (·.2.2)).sum)) := by
  show (match intsOf (bh.map fun x => D.int x.2.2) with | some ns => if true = true then some (Sl.val (D.int ns.sum)) else none | none => none) = _
  rw [ints_map (fun x : P3 => x.2.2)]; rfl
theorem maxS (bh : List P3) (h : bh ≠ []) : maxLD (.lst (bh.map fun x => .int x.2.1)) = some (.val (.int (maxI (bh.map (·.2.1))))) := by
  show (match intsOf (bh.map fun x => D.int x.2.1) with | some ns => if (!ns.isEmpty) = true then some (Sl.val (D.int (maxI ns))) else none | none => none) = _
  rw [ints_map (fun x : P3 => x.2.1)]
  show (if (!(bh.map (·.2.1)).isEmpty) = true then _ else _) = _
  rw [if_pos (by cases bh with | nil => exact absurd rfl h | cons _ _ => rfl)]
theorem ix_taken (c : Int) (h : 0 ≤ c) : ∃ tk : Int, ixD (.lst [.int 0, .int 0, .int 0, .int 0, .int 0, .int 1, .int 2, .int 3, .int (1 + c / 9 % 3)]) (.int (c % 9)) = some (.val (.int tk)) ∧ (c % 9 < 5 ∧ tk = 0 ∨ c % 9 = 5 ∧ tk = 1 ∨ c % 9 = 6 ∧ tk = 2 ∨ c % 9 = 7 ∧ tk = 3 ∨ c % 9 = 8 ∧ 1 ≤ tk ∧ tk ≤ 3) := by
  have : c % 9 = 0 ∨ c % 9 = 1 ∨ c % 9 = 2 ∨ c % 9 = 3 ∨ c % 9 = 4 ∨ c % 9 = 5 ∨ c % 9 = 6 ∨ c % 9 = 7 ∨ c % 9 = 8 := by omega
  rcases this with e | e | e | e | e | e | e | e | e <;> rw [e]
  · exact ⟨0, rfl, by omega⟩
  · exact ⟨0, rfl, by omega⟩
  · exact ⟨0, rfl, by omega⟩
  · exact ⟨0, rfl, by omega⟩
  · exact ⟨0, rfl, by omega⟩
  · exact ⟨1, rfl, by omega⟩
  · exact ⟨2, rfl, by omega⟩
  · exact ⟨3, rfl, by omega⟩
  · exact ⟨_, rfl, by omega⟩
theorem gLst9 (a b c d e f g h i : D) : gLstD [a, b, c, d, e, f, g, h, i] = some (.own (.lst [a, b, c, d, e, f, g, h, i])) := gLst_of _ (by simp)
theorem tree_step (ns : List Int) (hn : ns.length ≤ 63) (k R C : Int) (hR : 0 < R) (hC : 0 < C) (st : List P3) (hs : GS R C st) (hl : st.length ≤ 100) (a1 a6 a7 a8 a9 a10 a11 : Option Sl) :
    ∃ st' b6 b7 b8 b9 b10 b11, lb_q_tree_by_1 [sv (.lst (ns.map D.int)), a1, sv (.int R), sv (.int C), some (.own (.lst (encS st))), sv (.int k), a6, a7, a8, a9, a10, a11] = some (.next [sv (.lst (ns.map D.int)), a1, sv (.int R), sv (.int C), some (.own (.lst (encS st'))), sv (.int k), b6, b7, b8, b9, b10, b11]) ∧ GS R C st' ∧ st' ≠ [] ∧ st'.length ≤ st.length + 1 := by
  have hc := run_cell ns hn
  obtain ⟨c, ec⟩ : ∃ c, cell ns (10 + k) = c := ⟨_, rfl⟩
  have c0 : 0 ≤ c := ec ▸ cell_0 ns _
  obtain ⟨tk, et, htk⟩ := ix_taken c c0
  obtain ⟨lt, ld, el, lok, l1, l2, l3, lw, ls⟩ := run_leaf ns hn (10 + k) R C hR hC
  have hj := run_joined ns hn k c R C hR hC c0
  generalize eS : D.lst (ns.map D.int) = S at hc el hj ⊢
  obtain ⟨m, em⟩ : ∃ m, min tk (st.length : Int) = m := ⟨_, rfl⟩
  obtain ⟨bh, eb⟩ : ∃ bh, st.drop ((st.length : Int) - m).toNat = bh := ⟨_, rfl⟩
  have hbl : bh.length = m.toNat := by rw [← eb, List.length_drop]; omega
  have hcut : cutD (encS st) (some ((st.length : Int) - m)) none = encS bh := by
    rw [cut_lo _ _ (by omega) (by rw [encS_len]; omega), ← eb]; simp [encS]
  obtain ⟨mu, emu⟩ : ∃ mu, (bh.map (·.2.2)).sum = mu := ⟨_, rfl⟩
  have hsum := sumS bh
  rw [emu] at hsum
  have gl1 := gApp_of (encS st) (.tup [enc lt, .int ld, .int 1]) (by rw [encS_len]; omega)
  have el1 : encS st ++ [.tup [enc lt, .int ld, .int 1]] = encS (st ++ [(lt, ld, 1)]) := by simp [encS, eP]
  rw [el1] at gl1
  have good : GS R C (st ++ [(lt, ld, 1)]) := by
    intro x hx
    rcases List.mem_append.mp hx with hx | hx
    · exact hs x hx
    · rw [List.mem_singleton.mp hx]; exact ⟨lok, l1, l2, by show ld ≤ 12; omega, lw, by show (sz lt : Int) ≤ 2 * 1; omega, by show (1 : Int) ≤ 60; omega⟩
  have gl : (st ++ [(lt, ld, 1)]).length ≤ st.length + 1 := by simp
  have ne : st ++ [(lt, ld, 1)] ≠ [] := by simp
  by_cases h1 : tk = 0
  · refine ⟨st ++ [(lt, ld, 1)], sv (.int c), sv (.int tk), sv (.lst (encS bh)), sv (.int (mu + 8)), sv (.tup [enc lt, .int ld]), a11, ?_, good, ne, gl⟩
    unfold lb_q_tree_by_1
    simp -implicitDefEqProofs (disch := omega) only [evA, if_pos, if_neg, if_true, if_false, evB, evC, hc, ec, gLst9, et, encS_len, em, hcut, cp1, hsum, el, gl1]
  · by_cases h2 : (bh.length : Int) < tk
    · refine ⟨st ++ [(lt, ld, 1)], sv (.int c), sv (.int tk), sv (.lst (encS bh)), sv (.int (mu + 8)), sv (.tup [enc lt, .int ld]), a11, ?_, good, ne, gl⟩
      unfold lb_q_tree_by_1
      simp -implicitDefEqProofs (disch := omega) only [evA, if_pos, if_neg, if_true, if_false, evB, evC, hc, ec, gLst9, et, encS_len, em, hcut, cp1, hsum, el, gl1]
    · by_cases h3 : mu + 8 > 60
      · refine ⟨st ++ [(lt, ld, 1)], sv (.int c), sv (.int tk), sv (.lst (encS bh)), sv (.int (mu + 8)), sv (.tup [enc lt, .int ld]), a11, ?_, good, ne, gl⟩
        unfold lb_q_tree_by_1
        simp -implicitDefEqProofs (disch := omega) only [evA, if_pos, if_neg, if_true, if_false, evB, evC, hc, ec, gLst9, et, encS_len, em, hcut, cp1, hsum, el, gl1]
      · have hbne : bh ≠ [] := by intro z; rw [z] at hbl h2; simp at hbl h2; omega
        have hmx := maxS bh hbne
        obtain ⟨mx, emx⟩ : ∃ mx, maxI (bh.map (·.2.1)) = mx := ⟨_, rfl⟩
        rw [emx] at hmx
        by_cases h4 : mx > 11
        · refine ⟨st ++ [(lt, ld, 1)], sv (.int c), sv (.int tk), sv (.lst (encS bh)), sv (.int (mu + 8)), sv (.tup [enc lt, .int ld]), a11, ?_, good, ne, gl⟩
          unfold lb_q_tree_by_1
          simp -implicitDefEqProofs (disch := omega) only [evA, if_pos, if_neg, if_true, if_false, evB, evC, hc, ec, gLst9, et, encS_len, em, hcut, cp1, hsum, cp2, hmx, el, gl1]
        · have hlen : (st.length : Int) ≥ tk := by omega
          have sub : ∀ x ∈ bh, x ∈ st := fun x hx => by rw [← eb] at hx; exact List.mem_of_mem_drop hx
          have mxge : ∀ x ∈ bh, x.2.1 ≤ mx := fun x hx => by rw [← emx]; exact maxI_ge _ _ (List.mem_map.mpr ⟨x, hx, rfl⟩)
          have mx1 : 1 ≤ mx := by
            cases hb : bh with
            | nil => exact absurd hb hbne
            | cons y _ =>
              have hy : y ∈ bh := by rw [hb]; exact List.mem_cons_self
              have := mxge y hy
              have := (hs y (sub y hy)).d0
              omega
          obtain ⟨t, e5, tok, td, tw, tz⟩ := hj mx.toNat (by omega) (bh.map (·.1))
            ⟨okL_all.mpr fun t ht => (by obtain ⟨x, hx, rfl⟩ := List.mem_map.mp ht; exact (hs x (sub x hx)).ok),
             dpL_le.mpr fun t ht => (by obtain ⟨x, hx, rfl⟩ := List.mem_map.mp ht; have := (hs x (sub x hx)).d; have := mxge x hx; omega),
             wfL_all.mpr fun t ht => (by obtain ⟨x, hx, rfl⟩ := List.mem_map.mp ht; exact (hs x (sub x hx)).w)⟩ (by rw [List.length_map]; omega)
          have hcut2 : cutD (encS st) none (some ((st.length : Int) - tk)) = encS (st.take ((st.length : Int) - tk).toNat) := by
            rw [cut_hi _ _ (by omega) (by rw [encS_len]; omega)]; simp [encS]
          have g := gApp_of (encS (st.take ((st.length : Int) - tk).toNat)) (.tup [enc t, .int (1 + mx), .int (mu + 8)]) (by rw [encS_len, List.length_take]; omega)
          have e6 : encS (st.take ((st.length : Int) - tk).toNat) ++ [.tup [enc t, .int (1 + mx), .int (mu + 8)]] = encS (st.take ((st.length : Int) - tk).toNat ++ [(t, 1 + mx, mu + 8)]) := by simp [encS, eP]
          rw [e6] at g
          refine ⟨st.take ((st.length : Int) - tk).toNat ++ [(t, 1 + mx, mu + 8)], sv (.int c), sv (.int tk), sv (.lst (encS bh)), sv (.int (mu + 8)), a10, sv (enc t), ?_, ?_, by simp, by rw [List.length_append, List.length_take]; simp; omega⟩
          · unfold lb_q_tree_by_1
            simp -implicitDefEqProofs (disch := omega) only [evA, if_pos, if_neg, if_true, if_false, evB, evC, hc, ec, gLst9, et, encS_len, em, hcut, cp1, hsum, cp2, cp3, cp4, hmx, hcut2, e5, g]
          · intro x hx
            rcases List.mem_append.mp hx with hx | hx
            · exact hs x (List.mem_of_mem_take hx)
            · rw [List.mem_singleton.mp hx]; exact ⟨tok, by show (dp t : Int) ≤ 1 + mx; omega, by show 1 ≤ 1 + mx; omega, by show 1 + mx ≤ 12; omega, tw, by
                have := szL_sum (bh := bh) fun x hx => (hs x (sub x hx)).s
                rw [emu] at this
                show (sz t : Int) ≤ 2 * (mu + 8)
                omega, by show mu + 8 ≤ 60; omega⟩

theorem tree_loop (ns : List Int) (hn : ns.length ≤ 63) (R C : Int) (hR : 0 < R) (hC : 0 < C) (a1 : Option Sl) : ∀ (ks : List Int) (st : List P3) (a5 a6 a7 a8 a9 a10 a11 : Option Sl), GS R C st → st.length + ks.length ≤ 100 →
    ∃ st' b5 b6 b7 b8 b9 b10 b11, forD 5 lb_q_tree_by_1 (ks.map D.int) [sv (.lst (ns.map D.int)), a1, sv (.int R), sv (.int C), some (.own (.lst (encS st))), a5, a6, a7, a8, a9, a10, a11] = some (.next [sv (.lst (ns.map D.int)), a1, sv (.int R), sv (.int C), some (.own (.lst (encS st'))), b5, b6, b7, b8, b9, b10, b11]) ∧ GS R C st' ∧ (ks ≠ [] → st' ≠ []) ∧ (ks = [] → st' = st) ∧ st'.length ≤ 100
  | [], st, a5, a6, a7, a8, a9, a10, a11, h, hl => ⟨st, a5, a6, a7, a8, a9, a10, a11, rfl, h, fun z => absurd rfl z, fun _ => rfl, by simpa using hl⟩
  | k :: ks, st, a5, a6, a7, a8, a9, a10, a11, h, hl => by
    rw [List.length_cons] at hl
    obtain ⟨st1, b6, b7, b8, b9, b10, b11, e1, h1, n1, l1⟩ := tree_step ns hn k R C hR hC st h (by omega) a1 a6 a7 a8 a9 a10 a11
    obtain ⟨st2, d5, d6, d7, d8, d9, d10, d11, e2, h2, n2, n3, l2⟩ := tree_loop ns hn R C hR hC a1 ks st1 (sv (.int k)) b6 b7 b8 b9 b10 b11 h1 (by omega)
    refine ⟨st2, d5, d6, d7, d8, d9, d10, d11, ?_, h2, fun _ => ?_, (fun z => by cases z), l2⟩
    · rw [List.map_cons, e_forC]
      show forCK 5 lb_q_tree_by_1 (ks.map D.int) (lb_q_tree_by_1 [sv (.lst (ns.map D.int)), a1, sv (.int R), sv (.int C), some (.own (.lst (encS st))), sv (.int k), a6, a7, a8, a9, a10, a11]) = _
      rw [e1, k_forC1, e2]
    · by_cases hk : ks = []
      · rw [n3 hk]; exact n1
      · exact n2 hk
theorem ix_last (xs : List D) (x : D) : ixD (.lst (xs ++ [x])) (.int (-1)) = some (.val x) := by
  show (atI (xs ++ [x]) (-1)).map Sl.val = _
  have : atI (xs ++ [x]) (-1) = some x := by
    unfold atI ixN
    rw [if_neg (by omega), if_pos (by rw [List.length_append, List.length_singleton]; omega), Option.bind_some]
    have e : ((-1 : Int) + ((xs ++ [x]).length : Nat)).toNat = xs.length := by rw [List.length_append, List.length_singleton]; omega
    rw [e]
    simp
  rw [this]; rfl
theorem run_tree (ns : List Int) (hn : ns.length ≤ 63) (m R C : Int) (hm : 1 ≤ m ∧ m ≤ 60) (hR : 0 < R) (hC : 0 < C) : ∃ t, r_q_tree_by [.lst (ns.map D.int), .int m, .int R, .int C] = some (.ok (.val (enc t)), []) ∧ okT R C t ∧ dp t ≤ 12 ∧ wf t = true ∧ sz t ≤ 120 := by
  have hc := run_cell ns hn
  have key : ∀ m : Int, 1 ≤ m → m ≤ 60 → ∃ t, (∀ (ff : FS), ff = (fSeq (fAsg 4 (fArgs gLstD fNil)) (fSeq (fFor (fRng1 (fCons (fVar 1) fNil)) 5 lb_q_tree_by_1) (fRet (fPure (fOp ixD (fOp ixD (fVar 4) (fUn negD (fC (.int 1)))) (fC (.int 0))))))) → fin (ff [sv (.lst (ns.map D.int)), sv (.int m), sv (.int R), sv (.int C), none, none, none, none, none, none, none, none]) = some (.ok (.val (enc t)), [])) ∧ okT R C t ∧ dp t ≤ 12 ∧ wf t = true ∧ sz t ≤ 120 := by
    intro m m1 m2
    obtain ⟨st, b5, b6, b7, b8, b9, b10, b11, e1, h1, n1, _, l1⟩ := tree_loop ns hn R C hR hC (sv (.int m)) ((List.range m.toNat).map fun (k : Nat) => (0 + (k : Int))) [] none none none none none none none (fun x hx => nomatch hx) (by simp; omega)
    rw [← rng_ints] at e1
    have hne : st ≠ [] := n1 (by intro z; have := congrArg List.length z; simp at this; omega)
    obtain ⟨xs, x, rfl⟩ : ∃ xs x, st = xs ++ [x] := ⟨st.dropLast, st.getLast hne, (List.dropLast_concat_getLast hne).symm⟩
    have gx := h1 x (by simp)
    refine ⟨x.1, fun ff hff => ?_, gx.ok, by have := gx.d; have := gx.d1; omega, gx.w, by have := gx.s; have := gx.s1; omega⟩
    have e2 : ixD (.lst (encS (xs ++ [x]))) (.int (-1)) = some (.val (eP x)) := by
      have : encS (xs ++ [x]) = encS xs ++ [eP x] := by simp [encS]
      rw [this]; exact ix_last _ _
    have e3 : ixD (eP x) (.int 0) = some (.val (enc x.1)) := by unfold eP; exact ix0_tup _ _
    have k1 : ∀ δ, rngK (some (.ok [.int m], δ)) = some (.ok (rngD 0 m.toNat), δ) := fun δ => k_rng1 m δ (by omega) (by omega)
    have e4 : encS [] = [] := rfl
    rw [e4] at e1
    have last : fin ((fRet (fPure (fOp ixD (fOp ixD (fVar 4) (fUn negD (fC (.int 1)))) (fC (.int 0))))) [sv (.lst (ns.map D.int)), sv (.int m), sv (.int R), sv (.int C), some (.own (.lst (encS (xs ++ [x])))), b5, b6, b7, b8, b9, b10, b11]) = some (.ok (.val (enc x.1)), []) := by
      have p1 : ∀ δ δ' : DEnv, pureK (fOp ixD (fOp ixD (fVar 4) (fUn negD (fC (.int 1)))) (fC (.int 0))) δ (some (.ok (.val (enc x.1)), δ')) = if noLst (enc x.1) = true then some (.ok (.val (enc x.1)), δ) else (fOp ixD (fOp ixD (fVar 4) (fUn negD (fC (.int 1)))) (fC (.int 0))) δ := fun δ δ' => rfl
      by_cases q : noLst (enc x.1) = true
      · simp only [q, if_true] at p1
        simp -implicitDefEqProofs (disch := omega) only [evA, if_pos, if_neg, if_true, if_false, e_pure, frzC, frzSn, frzSv, frzSo, frz0, p1, e2, e3]
      · simp only [q, Bool.false_eq_true, if_false] at p1
        simp -implicitDefEqProofs (disch := omega) only [evA, if_pos, if_neg, if_true, if_false, e_pure, frzC, frzSn, frzSv, frzSo, frz0, p1, e2, e3]
    subst hff
    simp -implicitDefEqProofs (disch := omega) only [evA, if_pos, if_neg, if_true, if_false, evC, e_rng1, k1, e1]
    exact last
  have st : ∀ {r}, fin (f_q_tree_by [sv (.lst (ns.map D.int)), sv (.int m), sv (.int R), sv (.int C), none, none, none, none, none, none, none, none]) = r → r_q_tree_by [.lst (ns.map D.int), .int m, .int R, .int C] = r := fun e => runE rfl e
  by_cases q : cell ns 9 % 16 = 1
  · obtain ⟨t, e, h⟩ := key 60 (by omega) (by omega)
    refine ⟨t, st ?_, h⟩
    have e := e _ rfl
    rw [← e]
    unfold f_q_tree_by
    rw [e_seq]
    have : fIf (fTb (fOp (eqOp false) (fOp modD (fCall r_q_cell_at (fCons (fVar 0) (fCons (fC (.int 9)) fNil))) (fC (.int 16))) (fC (.int 1)))) (fAsg 1 (fC (.int 60))) fNext [sv (.lst (ns.map D.int)), sv (.int m), sv (.int R), sv (.int C), none, none, none, none, none, none, none, none] = some (.next [sv (.lst (ns.map D.int)), sv (.int 60), sv (.int R), sv (.int C), none, none, none, none, none, none, none, none]) := by
      simp -implicitDefEqProofs (disch := omega) only [evA, if_pos, if_neg, if_true, if_false, hc]
    rw [this, k_seq1]
  · obtain ⟨t, e, h⟩ := key m hm.1 hm.2
    refine ⟨t, st ?_, h⟩
    have e := e _ rfl
    rw [← e]
    unfold f_q_tree_by
    rw [e_seq]
    have : fIf (fTb (fOp (eqOp false) (fOp modD (fCall r_q_cell_at (fCons (fVar 0) (fCons (fC (.int 9)) fNil))) (fC (.int 16))) (fC (.int 1)))) (fAsg 1 (fC (.int 60))) fNext [sv (.lst (ns.map D.int)), sv (.int m), sv (.int R), sv (.int C), none, none, none, none, none, none, none, none] = some (.next [sv (.lst (ns.map D.int)), sv (.int m), sv (.int R), sv (.int C), none, none, none, none, none, none, none, none]) := by
      simp -implicitDefEqProofs (disch := omega) only [evA, if_pos, if_neg, if_true, if_false, hc]
    rw [this, k_seq1]
end Toy
namespace Toy
open PySem L2 L4
theorem wf_over {w : Nat} {ts : List T} (h : wf (.over w ts) = true) : ts ≠ [] ∧ ts.length ≤ 100 ∧ wfL ts = true := by
  simp only [wf, Bool.and_eq_true] at h
  exact ⟨fun z => by rw [z] at h; simp at h, of_decide_eq_true h.1.2, h.2⟩
theorem comp_T {fe : FE} {δ : DEnv} (g : T → T) : ∀ (ts : List T) (acc : List D), (∀ t ∈ ts, ∃ s, fe (sv (enc t) :: δ) = some (.ok s, sv (enc t) :: δ) ∧ s.fz = enc (g t)) → acc.length + ts.length ≤ 1000 → compD none fe (encL ts) acc δ = some (acc ++ encL (ts.map g), δ)
  | [], acc, _, _ => by simp [encL, compD]
  | t :: ts, acc, h, hl => by
    rw [List.length_cons] at hl
    obtain ⟨s, e1, e2⟩ := h t List.mem_cons_self
    rw [encL]
    unfold compD testD
    simp only [e1]
    rw [if_pos (by rw [sizeLine_is]; omega), List.tail_cons, comp_T g ts _ (fun u hu => h u (List.mem_cons_of_mem _ hu)) (by rw [List.length_append, List.length_cons, List.length_nil]; omega), e2]
    simp [encL]
theorem kd_over : eqOp false (.str "over") (.str "over") = some (.val (.bl true)) ∧ eqOp false (.str "over") (.str "minus") = some (.val (.bl false)) ∧ eqOp false (.str "over") (.str "two") = some (.val (.bl false)) ∧ eqOp false (.str "over") (.str "pick") = some (.val (.bl false)) ∧ eqOp false (.str "over") (.str "ref") = some (.val (.bl false)) ∧ eqOp false (.str "over") (.str "area") = some (.val (.bl false)) ∧ inOp false (.str "over") c_LEAF_KINDS = some (.val (.bl false)) := by
  refine ⟨?_, ?_, ?_, ?_, ?_, ?_, ?_⟩ <;> kernel_rfl
theorem kd_minus : eqOp false (.str "minus") (.str "over") = some (.val (.bl false)) ∧ eqOp false (.str "minus") (.str "minus") = some (.val (.bl true)) ∧ eqOp false (.str "minus") (.str "two") = some (.val (.bl false)) ∧ eqOp false (.str "minus") (.str "pick") = some (.val (.bl false)) ∧ eqOp false (.str "minus") (.str "ref") = some (.val (.bl false)) ∧ eqOp false (.str "minus") (.str "area") = some (.val (.bl false)) ∧ inOp false (.str "minus") c_LEAF_KINDS = some (.val (.bl false)) := by
  refine ⟨?_, ?_, ?_, ?_, ?_, ?_, ?_⟩ <;> kernel_rfl
theorem kd_two : eqOp false (.str "two") (.str "over") = some (.val (.bl false)) ∧ eqOp false (.str "two") (.str "minus") = some (.val (.bl false)) ∧ eqOp false (.str "two") (.str "two") = some (.val (.bl true)) ∧ eqOp false (.str "two") (.str "pick") = some (.val (.bl false)) ∧ eqOp false (.str "two") (.str "ref") = some (.val (.bl false)) ∧ eqOp false (.str "two") (.str "area") = some (.val (.bl false)) ∧ inOp false (.str "two") c_LEAF_KINDS = some (.val (.bl false)) := by
  refine ⟨?_, ?_, ?_, ?_, ?_, ?_, ?_⟩ <;> kernel_rfl
theorem kd_pick : eqOp false (.str "pick") (.str "over") = some (.val (.bl false)) ∧ eqOp false (.str "pick") (.str "minus") = some (.val (.bl false)) ∧ eqOp false (.str "pick") (.str "two") = some (.val (.bl false)) ∧ eqOp false (.str "pick") (.str "pick") = some (.val (.bl true)) ∧ eqOp false (.str "pick") (.str "ref") = some (.val (.bl false)) ∧ eqOp false (.str "pick") (.str "area") = some (.val (.bl false)) ∧ inOp false (.str "pick") c_LEAF_KINDS = some (.val (.bl false)) := by
  refine ⟨?_, ?_, ?_, ?_, ?_, ?_, ?_⟩ <;> kernel_rfl
theorem kd_ref : eqOp false (.str "ref") (.str "over") = some (.val (.bl false)) ∧ eqOp false (.str "ref") (.str "minus") = some (.val (.bl false)) ∧ eqOp false (.str "ref") (.str "two") = some (.val (.bl false)) ∧ eqOp false (.str "ref") (.str "pick") = some (.val (.bl false)) ∧ eqOp false (.str "ref") (.str "ref") = some (.val (.bl true)) ∧ eqOp false (.str "ref") (.str "area") = some (.val (.bl false)) ∧ inOp false (.str "ref") c_LEAF_KINDS = some (.val (.bl true)) := by
  refine ⟨?_, ?_, ?_, ?_, ?_, ?_, ?_⟩ <;> kernel_rfl
theorem kd_area : eqOp false (.str "area") (.str "over") = some (.val (.bl false)) ∧ eqOp false (.str "area") (.str "minus") = some (.val (.bl false)) ∧ eqOp false (.str "area") (.str "two") = some (.val (.bl false)) ∧ eqOp false (.str "area") (.str "pick") = some (.val (.bl false)) ∧ eqOp false (.str "area") (.str "ref") = some (.val (.bl false)) ∧ eqOp false (.str "area") (.str "area") = some (.val (.bl true)) ∧ inOp false (.str "area") c_LEAF_KINDS = some (.val (.bl true)) := by
  refine ⟨?_, ?_, ?_, ?_, ?_, ?_, ?_⟩ <;> kernel_rfl
theorem kd_num : eqOp false (.str "num") (.str "over") = some (.val (.bl false)) ∧ eqOp false (.str "num") (.str "minus") = some (.val (.bl false)) ∧ eqOp false (.str "num") (.str "two") = some (.val (.bl false)) ∧ eqOp false (.str "num") (.str "pick") = some (.val (.bl false)) ∧ eqOp false (.str "num") (.str "ref") = some (.val (.bl false)) ∧ eqOp false (.str "num") (.str "area") = some (.val (.bl false)) ∧ inOp false (.str "num") c_LEAF_KINDS = some (.val (.bl true)) := by
  refine ⟨?_, ?_, ?_, ?_, ?_, ?_, ?_⟩ <;> kernel_rfl
theorem kd_gone : eqOp false (.str "gone") (.str "over") = some (.val (.bl false)) ∧ eqOp false (.str "gone") (.str "minus") = some (.val (.bl false)) ∧ eqOp false (.str "gone") (.str "two") = some (.val (.bl false)) ∧ eqOp false (.str "gone") (.str "pick") = some (.val (.bl false)) ∧ eqOp false (.str "gone") (.str "ref") = some (.val (.bl false)) ∧ eqOp false (.str "gone") (.str "area") = some (.val (.bl false)) ∧ inOp false (.str "gone") c_LEAF_KINDS = some (.val (.bl true)) := by
  refine ⟨?_, ?_, ?_, ?_, ?_, ?_, ?_⟩ <;> kernel_rfl
def kd := And.intro kd_over <| And.intro kd_minus <| And.intro kd_two <| And.intro kd_pick <| And.intro kd_ref <| And.intro kd_area <| And.intro kd_num kd_gone
/-! parts, with_parts -/
theorem slT1 (a b : D) (r : List D) : slSD (.tup (a :: b :: r)) (some 1) none = some (.val (.tup (b :: r))) := by
  show (if ¬ (HT.sIx (a :: b :: r).length 0 (some 1) = 0 ∧ HT.sIx (a :: b :: r).length (a :: b :: r).length none = (a :: b :: r).length) then some (Sl.val (.tup (cutD (a :: b :: r) (some 1) none))) else none) = _
  have e : HT.sIx (a :: b :: r).length 0 (some 1) = 1 := sIx_in _ _ 1 (by decide) (by simp only [List.length_cons]; omega)
  rw [if_pos (by rw [e]; omega), cut_lo _ 1 (by decide) (by simp only [List.length_cons]; omega)]
  rfl
theorem run_parts (t : T) : r_parts [enc t] = some (.ok (.own (.lst (encL (parts t)))), []) := by
  refine runE rfl ?_
  show fin (f_parts [sv (enc t), none]) = _
  unfold f_parts
  cases t with
  | num n => unfold enc parts encL; simp -implicitDefEqProofs (disch := omega) only [evA, if_pos, if_neg, if_true, if_false, kd, evC]
  | gone => unfold enc parts encL; simp -implicitDefEqProofs (disch := omega) only [evA, if_pos, if_neg, if_true, if_false, kd, evC]
  | ref r c a b => unfold enc parts encL refD; simp -implicitDefEqProofs (disch := omega) only [evA, if_pos, if_neg, if_true, if_false, kd, evC]
  | area r c a b r' c' a' b' => unfold enc parts encL refD; simp -implicitDefEqProofs (disch := omega) only [evA, if_pos, if_neg, if_true, if_false, kd, evC]
  | minus t => unfold parts; simp only [enc, encL]; simp -implicitDefEqProofs (disch := omega) only [evA, if_pos, if_neg, if_true, if_false, kd, evC, slT1]
  | two s t u => unfold parts; simp only [enc, encL]; simp -implicitDefEqProofs (disch := omega) only [evA, if_pos, if_neg, if_true, if_false, kd, evC]
  | pick t u v => unfold parts; simp only [enc, encL]; simp -implicitDefEqProofs (disch := omega) only [evA, if_pos, if_neg, if_true, if_false, kd, evC, slT1]
  | over w ts => unfold parts; simp only [enc]; simp -implicitDefEqProofs (disch := omega) only [evA, if_pos, if_neg, if_true, if_false, kd, evC]
def withP (t : T) (us : List T) : T := match t, us with
  | .minus _, [a] => .minus a
  | .two s _ _, [a, b] => .two s a b
  | .pick _ _ _, [a, b, c] => .pick a b c
  | .over w _, us => .over w us
  | t, _ => t
theorem catT (a : D) (xs : List D) (h : xs.length ≤ 100) : addTD (.tup [a]) (.tup xs) = some (.val (.tup (a :: xs))) := by
  show (if ([a] : List D).length + xs.length ≤ sizeLine then some (Sl.val (.tup ([a] ++ xs))) else none) = _
  rw [if_pos (by rw [sizeLine_is, List.length_singleton]; omega)]; rfl
theorem run_with (t : T) (us : List T) (h : us.length = (parts t).length) (hw : wf t = true) : r_with_parts [enc t, .lst (encL us)] = some (.ok (.val (enc (withP t us))), []) := by
  refine runE rfl ?_
  show fin (f_with_parts [sv (enc t), sv (.lst (encL us)), none]) = _
  unfold f_with_parts
  cases t with
  | num n => unfold withP enc; simp -implicitDefEqProofs (disch := omega) only [evA, if_pos, if_neg, if_true, if_false, kd, evC]
  | gone => unfold withP enc; simp -implicitDefEqProofs (disch := omega) only [evA, if_pos, if_neg, if_true, if_false, kd, evC]
  | ref r c a b => unfold withP enc refD; simp -implicitDefEqProofs (disch := omega) only [evA, if_pos, if_neg, if_true, if_false, kd, evC]
  | area r c a b r' c' a' b' => unfold withP enc refD; simp -implicitDefEqProofs (disch := omega) only [evA, if_pos, if_neg, if_true, if_false, kd, evC]
  | minus t =>
    match us, h with
    | [a], _ => unfold withP; simp only [enc, encL]; simp -implicitDefEqProofs (disch := omega) only [evA, if_pos, if_neg, if_true, if_false, kd, evC, catT _ [enc a] (by simp)]
  | two s t u =>
    match us, h with
    | [a, b], _ => unfold withP; simp only [enc, encL]; simp -implicitDefEqProofs (disch := omega) only [evA, if_pos, if_neg, if_true, if_false, kd, evC, ixl_0, ixl_1]
  | pick t u v =>
    match us, h with
    | [a, b, c], _ => unfold withP; simp only [enc, encL]; simp -implicitDefEqProofs (disch := omega) only [evA, if_pos, if_neg, if_true, if_false, kd, evC, catT _ [enc a, enc b, enc c] (by simp)]
  | over w ts => unfold withP; simp only [enc]; simp -implicitDefEqProofs (disch := omega) only [evA, if_pos, if_neg, if_true, if_false, kd, evC]
end Toy
namespace Toy
open PySem L2 L4
abbrev pl (r c : Int) : D := .tup [.int r, .int c]
theorem run_with0 (r c m : Int) : r_with_number [pl r c, .int 0, .int m] = some (.ok (.val (pl m c)), []) := by
  show fin (f_with_number [sv (pl r c), sv (.int 0), sv (.int m)]) = _
  unfold f_with_number; simp -implicitDefEqProofs (disch := omega) only [evA, if_pos, if_neg, if_true, if_false]
theorem run_with1 (r c m : Int) : r_with_number [pl r c, .int 1, .int m] = some (.ok (.val (pl r m)), []) := by
  show fin (f_with_number [sv (pl r c), sv (.int 1), sv (.int m)]) = _
  unfold f_with_number; simp -implicitDefEqProofs (disch := omega) only [evA, if_pos, if_neg, if_true, if_false]

/-! rows or columns that come -/
def cz (a m x : Int) : Int := if x < a then x else x + m
mutual
def comeT (ax a m : Int) : T → T
  | .num n => .num n
  | .gone => .gone
  | .ref r c f g => .ref (if ax = 0 then cz a m r else r) (if ax = 0 then c else cz a m c) f g
  | .area r c f g r' c' f' g' => .area (if ax = 0 then cz a m r else r) (if ax = 0 then c else cz a m c) f g (if ax = 0 then cz a m r' else r') (if ax = 0 then c' else cz a m c') f' g'
  | .minus t => .minus (comeT ax a m t)
  | .two s t u => .two s (comeT ax a m t) (comeT ax a m u)
  | .pick t u v => .pick (comeT ax a m t) (comeT ax a m u) (comeT ax a m v)
  | .over w ts => .over w (comeL ax a m ts)
def comeL (ax a m : Int) : List T → List T
  | [] => []
  | t :: ts => comeT ax a m t :: comeL ax a m ts
end
theorem comeL_map (ax a m : Int) : ∀ ts, comeL ax a m ts = ts.map (comeT ax a m)
  | [] => by unfold comeL; rfl
  | t :: ts => by unfold comeL; rw [comeL_map ax a m ts]; rfl
theorem run_co (ax r c a m : Int) (h : ax = 0 ∨ ax = 1) : r_come_place [pl r c, .int ax, .int a, .int m] = some (.ok (.val (pl (if ax = 0 then cz a m r else r) (if ax = 0 then c else cz a m c))), []) := by
  refine runE rfl ?_
  show fin (f_come_place [sv (pl r c), sv (.int ax), sv (.int a), sv (.int m)]) = _
  unfold f_come_place cz
  rcases h with h | h <;> subst h
  · by_cases h1 : r < a <;> simp -implicitDefEqProofs (disch := omega) only [evA, if_pos, if_neg, if_true, if_false, run_with0]
  · by_cases h1 : c < a <;> simp -implicitDefEqProofs (disch := omega) only [evA, if_pos, if_neg, if_true, if_false, run_with1]
theorem come_ref (ax a m : Int) (hax : ax = 0 ∨ ax = 1) (n : Nat) (r c : Int) (f g : Bool) : r_come_tree (n + 1) [refD r c f g, .int ax, .int a, .int m] = some (.ok (.val (enc (comeT ax a m (.ref r c f g)))), []) := by
  show runD 4 4 [] (f_come_tree (r_come_tree n)) _ = _
  refine runE rfl ?_
  show fin (f_come_tree (r_come_tree n) [sv (refD r c f g), sv (.int ax), sv (.int a), sv (.int m)]) = _
  simp only [enc, comeT]
  unfold f_come_tree refD
  have e1 := run_co ax r c a m hax
  simp -implicitDefEqProofs (disch := omega) only [evA, if_pos, if_neg, if_true, if_false, kd, e1]
theorem kids_of {t : T} {n : Nat} (hd : dp t ≤ n + 1) (hw : wf t = true) : ∀ u ∈ parts t, dp u ≤ n ∧ wf u = true := fun u hu => ⟨by
  have h1 := dp_parts t
  have h2 := dpL_le.mp (Nat.le_refl (dpL (parts t))) u hu
  omega, wfL_all.mp (wf_parts hw) u hu⟩
theorem kidl {t : T} (hw : wf t = true) : (parts t).length ≤ 100 := by
  cases t with
  | over w ts => exact (wf_over hw).2.1
  | _ => simp [parts]
theorem withP_come' (ax a m : Int) (t : T) (hw : wf t = true) (h : ∀ r c f g, t ≠ .ref r c f g) (h' : ∀ r c f g r' c' f' g', t ≠ .area r c f g r' c' f' g') : withP t ((parts t).map (comeT ax a m)) = comeT ax a m t := by
  cases t with
  | ref r c f g => exact absurd rfl (h r c f g)
  | area r c f g r' c' f' g' => exact absurd rfl (h' r c f g r' c' f' g')
  | num n => rfl
  | gone => rfl
  | over w ts => simp [parts, withP, comeT, comeL_map]
  | minus t => simp [parts, withP, comeT]
  | two s t u => simp [parts, withP, comeT]
  | pick t u v => simp [parts, withP, comeT]
theorem run_come (ax a m : Int) (hax : ax = 0 ∨ ax = 1) : ∀ (n : Nat) (t : T), dp t ≤ n → wf t = true → r_come_tree (n + 1) [enc t, .int ax, .int a, .int m] = some (.ok (.val (enc (comeT ax a m t))), [])
  | 0, t, h, _ => by have := dp_pos t; omega
  | n + 1, t, hd, hw => by
    have ih := run_come ax a m hax n
    show runD 4 4 [] (f_come_tree (r_come_tree (n + 1))) _ = _
    refine runE rfl ?_
    show fin (f_come_tree (r_come_tree (n + 1)) [sv (enc t), sv (.int ax), sv (.int a), sv (.int m)]) = _
    have hk := kids_of hd hw
    have ep := run_parts t
    have e1 : fComp (fItA (fCall r_parts (fCons (fVar 0) fNil))) none (el_come_tree_1 (r_come_tree (n + 1))) [sv (enc t), sv (.int ax), sv (.int a), sv (.int m)] = some (.ok (.own (.lst (encL ((parts t).map (comeT ax a m))))), [sv (enc t), sv (.int ax), sv (.int a), sv (.int m)]) := by
      refine fComp_of (ds := encL (parts t)) (δ' := [sv (enc t), sv (.int ax), sv (.int a), sv (.int m)]) ?_ ?_
      · simp -implicitDefEqProofs (disch := omega) only [evA, if_pos, if_neg, if_true, if_false, ep]
      · have := comp_T (fe := el_come_tree_1 (r_come_tree (n + 1))) (δ := [sv (enc t), sv (.int ax), sv (.int a), sv (.int m)]) (comeT ax a m) (parts t) [] (fun u hu => ⟨.val (enc (comeT ax a m u)), by
          unfold el_come_tree_1
          simp -implicitDefEqProofs (disch := omega) only [evA, if_pos, if_neg, if_true, if_false, ih u (hk u hu).1 (hk u hu).2], rfl⟩) (by have := kidl hw; simp; omega)
        simpa using this
    have e2 := run_with t ((parts t).map (comeT ax a m)) (by rw [List.length_map]) hw
    have e3 := withP_come' ax a m t hw
    cases t with
    | ref r c f g => exact (runE rfl rfl : _ = _).symm.trans (come_ref ax a m hax (n + 1) r c f g)
    | area r c f g r' c' f' g' =>
      have e1 := come_ref ax a m hax n r c f g
      have e2 := come_ref ax a m hax n r' c' f' g'
      simp only [enc, comeT] at e1 e2 ⊢
      unfold f_come_tree
      simp -implicitDefEqProofs (disch := omega) only [evA, if_pos, if_neg, if_true, if_false, kd, e1, e2]
    | num k =>
      rw [e3 (by simp) (by simp)] at e2
      simp only [enc] at e1 e2 ⊢
      unfold f_come_tree
      simp -implicitDefEqProofs (disch := omega) only [evA, if_pos, if_neg, if_true, if_false, kd, e1, e2]
    | gone =>
      rw [e3 (by simp) (by simp)] at e2
      simp only [enc] at e1 e2 ⊢
      unfold f_come_tree
      simp -implicitDefEqProofs (disch := omega) only [evA, if_pos, if_neg, if_true, if_false, kd, e1, e2]
    | minus t =>
      rw [e3 (by simp) (by simp)] at e2
      generalize comeT ax a m (.minus t) = z at e2 ⊢
      simp only [enc] at e1 e2 ⊢
      unfold f_come_tree
      simp -implicitDefEqProofs (disch := omega) only [evA, if_pos, if_neg, if_true, if_false, kd, e1, e2]
    | two s t u =>
      rw [e3 (by simp) (by simp)] at e2
      generalize comeT ax a m (.two s t u) = z at e2 ⊢
      simp only [enc] at e1 e2 ⊢
      unfold f_come_tree
      simp -implicitDefEqProofs (disch := omega) only [evA, if_pos, if_neg, if_true, if_false, kd, e1, e2]
    | pick t u v =>
      rw [e3 (by simp) (by simp)] at e2
      generalize comeT ax a m (.pick t u v) = z at e2 ⊢
      simp only [enc] at e1 e2 ⊢
      unfold f_come_tree
      simp -implicitDefEqProofs (disch := omega) only [evA, if_pos, if_neg, if_true, if_false, kd, e1, e2]
    | over w ts =>
      rw [e3 (by simp) (by simp)] at e2
      generalize comeT ax a m (.over w ts) = z at e2 ⊢
      simp only [enc] at e1 e2 ⊢
      unfold f_come_tree
      simp -implicitDefEqProofs (disch := omega) only [evA, if_pos, if_neg, if_true, if_false, kd, e1, e2]
/-! a copy -/
theorem run_copy : ∀ (n : Nat) (t : T), dp t ≤ n → wf t = true → r_q_copy n [enc t] = some (.ok (.val (enc t)), [])
  | 0, t, h, _ => by have := dp_pos t; omega
  | n + 1, t, hd, hw => by
    have ih := run_copy n
    show runD 1 1 [] (f_q_copy (r_q_copy n)) _ = _
    refine runE rfl ?_
    show fin (f_q_copy (r_q_copy n) [sv (enc t)]) = _
    have hk := kids_of hd hw
    cases t with
    | num k => simp only [enc]; unfold f_q_copy; simp -implicitDefEqProofs (disch := omega) only [evA, if_pos, if_neg, if_true, if_false, kd]
    | gone => simp only [enc]; unfold f_q_copy; simp -implicitDefEqProofs (disch := omega) only [evA, if_pos, if_neg, if_true, if_false, kd]
    | ref r c f g => simp only [enc]; unfold f_q_copy refD; simp -implicitDefEqProofs (disch := omega) only [evA, if_pos, if_neg, if_true, if_false, kd]
    | area r c f g r' c' f' g' => simp only [enc]; unfold f_q_copy refD; simp -implicitDefEqProofs (disch := omega) only [evA, if_pos, if_neg, if_true, if_false, kd]
    | minus t =>
      have e1 := ih t (hk t (by simp [parts])).1 (hk t (by simp [parts])).2
      simp only [enc]; unfold f_q_copy; simp -implicitDefEqProofs (disch := omega) only [evA, if_pos, if_neg, if_true, if_false, kd, e1]
    | two s t u =>
      have e1 := ih t (hk t (by simp [parts])).1 (hk t (by simp [parts])).2
      have e2 := ih u (hk u (by simp [parts])).1 (hk u (by simp [parts])).2
      simp only [enc]; unfold f_q_copy; simp -implicitDefEqProofs (disch := omega) only [evA, if_pos, if_neg, if_true, if_false, kd, e1, e2]
    | pick t u v =>
      have e1 := ih t (hk t (by simp [parts])).1 (hk t (by simp [parts])).2
      have e2 := ih u (hk u (by simp [parts])).1 (hk u (by simp [parts])).2
      have e3 := ih v (hk v (by simp [parts])).1 (hk v (by simp [parts])).2
      simp only [enc]; unfold f_q_copy; simp -implicitDefEqProofs (disch := omega) only [evA, if_pos, if_neg, if_true, if_false, kd, e1, e2, e3]
    | over w ts =>
      have e1 : fComp (fItA (fOp ixD (fVar 0) (fC (.int 2)))) none (el_q_copy_1 (r_q_copy n)) [sv (enc (.over w ts))] = some (.ok (.own (.lst (encL ts))), [sv (enc (.over w ts))]) := by
        refine fComp_of (ds := encL ts) (δ' := [sv (enc (.over w ts))]) ?_ ?_
        · simp only [enc]; simp -implicitDefEqProofs (disch := omega) only [evA, if_pos, if_neg, if_true, if_false]
        · have := comp_T (fe := el_q_copy_1 (r_q_copy n)) (δ := [sv (enc (.over w ts))]) id ts [] (fun u hu => ⟨.val (enc u), by
            unfold el_q_copy_1
            simp -implicitDefEqProofs (disch := omega) only [evA, if_pos, if_neg, if_true, if_false, ih u (hk u hu).1 (hk u hu).2], rfl⟩) (by have := (wf_over hw).2.1; simp; omega)
          simpa using this
      simp only [enc] at e1 ⊢; unfold f_q_copy; simp -implicitDefEqProofs (disch := omega) only [evA, if_pos, if_neg, if_true, if_false, kd, e1]
end Toy
namespace Toy
open PySem L2 L4
/-! what stays: how deep, how many -/
mutual
theorem come_dw (ax a m : Int) : ∀ t, dp (comeT ax a m t) = dp t ∧ wf (comeT ax a m t) = wf t
  | .num _ => by simp [comeT]
  | .gone => by simp [comeT]
  | .ref .. => by simp [comeT, dp, wf]
  | .area .. => by simp [comeT, dp, wf]
  | .minus t => by have := come_dw ax a m t; simp [comeT, dp, wf, this]
  | .two _ t u => by have h1 := come_dw ax a m t; have h2 := come_dw ax a m u; simp [comeT, dp, wf, h1, h2]
  | .pick t u v => by have h1 := come_dw ax a m t; have h2 := come_dw ax a m u; have h3 := come_dw ax a m v; simp [comeT, dp, wf, h1, h2, h3]
  | .over w ts => by have h := come_dwL ax a m ts; simp [comeT, dp, wf, h]
theorem come_dwL (ax a m : Int) : ∀ ts, dpL (comeL ax a m ts) = dpL ts ∧ wfL (comeL ax a m ts) = wfL ts ∧ (comeL ax a m ts).length = ts.length ∧ (comeL ax a m ts).isEmpty = ts.isEmpty
  | [] => by simp [comeL]
  | t :: ts => by have h1 := come_dw ax a m t; have h2 := come_dwL ax a m ts; simp [comeL, dpL, wfL, h1, h2]
end
end Toy
namespace Toy
open PySem L2 L4
theorem len_t1 (a : D) : lenD (.tup [a]) = some (.val (.int 1)) := rfl
theorem len_t2 (a b : D) : lenD (.tup [a, b]) = some (.val (.int 2)) := rfl
theorem len_t3 (a b c : D) : lenD (.tup [a, b, c]) = some (.val (.int 3)) := rfl
theorem len_t4 (a b c d : D) : lenD (.tup [a, b, c, d]) = some (.val (.int 4)) := rfl
theorem run_whole (i : Int) : r_q_whole [.int i] = some (.ok (.val (.bl true)), []) := by
  refine runE rfl ?_
  show fin (f_q_whole [sv (.int i)]) = _
  unfold f_q_whole; simp -implicitDefEqProofs (disch := omega) only [evA, if_pos, if_neg, if_true, if_false]
theorem comp_two {fe : FE} {δ : DEnv} {d1 d2 : D} {s1 s2 : Sl} (h1 : fe (sv d1 :: δ) = some (.ok s1, sv d1 :: δ)) (h2 : fe (sv d2 :: δ) = some (.ok s2, sv d2 :: δ)) : compD none fe [d1, d2] [] δ = some ([s1.fz, s2.fz], δ) := by
  have hz := sizeLine_is
  unfold compD testD
  simp only [h1]
  rw [if_pos (by rw [hz]; simp), List.tail_cons]
  unfold compD testD
  simp only [h2]
  rw [if_pos (by rw [hz]; simp), List.tail_cons]
  unfold compD
  rfl
theorem bls_true {α : Type} : ∀ l : List α, blsOf (l.map fun _ => D.bl true) = some (l.map fun _ => true)
  | [] => rfl
  | _ :: l => by rw [List.map_cons, blsOf, bls_true l]; rfl
theorem all_true {α : Type} (l : List α) : allD (.lst (l.map fun _ => D.bl true)) = some (.val (.bl true)) := by
  show (blsOf (l.map fun _ => D.bl true)).map (fun bs => Sl.val (.bl (bs.all id))) = _
  rw [bls_true]
  have : (l.map fun _ => true).all id = true := by simp
  rw [Option.map_some, this]
theorem comp_B {fe : FE} {δ : DEnv} : ∀ (ts : List T) (acc : List D), (∀ t ∈ ts, fe (sv (enc t) :: δ) = some (.ok (.val (.bl true)), sv (enc t) :: δ)) → acc.length + ts.length ≤ 1000 → compD none fe (encL ts) acc δ = some (acc ++ ts.map (fun _ => D.bl true), δ)
  | [], acc, _, _ => by simp [encL, compD]
  | t :: ts, acc, h, hl => by
    rw [List.length_cons] at hl
    have e1 := h t List.mem_cons_self
    rw [encL]
    unfold compD testD
    simp only [e1]
    rw [if_pos (by rw [sizeLine_is]; omega), List.tail_cons, comp_B ts _ (fun u hu => h u (List.mem_cons_of_mem _ hu)) (by rw [List.length_append, List.length_cons, List.length_nil]; omega)]
    simp [fz_val]
theorem ne_ref : eqOp true (.str "ref") (.str "ref") = some (.val (.bl false)) := by kernel_rfl
theorem run_goodref (r c : Int) (a b : Bool) : r_q_good_ref [refD r c a b] = some (.ok (.val (.bl true)), []) := by
  refine runE rfl ?_
  show fin (f_q_good_ref [sv (refD r c a b), none]) = _
  unfold refD
  have cA : ∀ z, fComp (fItA (fOp ixD (fVar 0) (fC (.int 1)))) none el_q_good_ref_1 [sv (.tup [.str "ref", .tup [.int r, .int c], .tup [.bl a, .bl b]]), z] = some (.ok (.own (.lst [.bl true, .bl true])), [sv (.tup [.str "ref", .tup [.int r, .int c], .tup [.bl a, .bl b]]), z]) := fun z =>
    fComp_of (ds := [.int r, .int c]) (by simp -implicitDefEqProofs (disch := omega) only [evA, if_pos, if_neg, if_true, if_false]) (comp_two (s1 := .val (.bl true)) (s2 := .val (.bl true)) (by unfold el_q_good_ref_1; simp -implicitDefEqProofs (disch := omega) only [evA, if_pos, if_neg, if_true, if_false, run_whole]) (by unfold el_q_good_ref_1; simp -implicitDefEqProofs (disch := omega) only [evA, if_pos, if_neg, if_true, if_false, run_whole]))
  have cB : ∀ z, fComp (fItA (fOp ixD (fVar 0) (fC (.int 2)))) none el_q_good_ref_2 [sv (.tup [.str "ref", .tup [.int r, .int c], .tup [.bl a, .bl b]]), z] = some (.ok (.own (.lst [.bl true, .bl true])), [sv (.tup [.str "ref", .tup [.int r, .int c], .tup [.bl a, .bl b]]), z]) := fun z =>
    fComp_of (ds := [.bl a, .bl b]) (by simp -implicitDefEqProofs (disch := omega) only [evA, if_pos, if_neg, if_true, if_false]) (comp_two (s1 := .val (.bl true)) (s2 := .val (.bl true)) (by unfold el_q_good_ref_2; simp -implicitDefEqProofs (disch := omega) only [evA, if_pos, if_neg, if_true, if_false]) (by unfold el_q_good_ref_2; simp -implicitDefEqProofs (disch := omega) only [evA, if_pos, if_neg, if_true, if_false]))
  have al : allD (.lst [.bl true, .bl true]) = some (.val (.bl true)) := rfl
  unfold f_q_good_ref lb_q_good_ref_1
  simp -implicitDefEqProofs (disch := omega) only [evA, if_pos, if_neg, if_true, if_false, len_t3, len_t2, ne_ref, evC, slT1, e_forC, e_forN, k_forC1, cA, cB, al]
theorem kg_num : eqOp false (.str "num") (.str "num") = some (.val (.bl true)) := by kernel_rfl
theorem kg_gone : eqOp false (.str "gone") (.str "num") = some (.val (.bl false)) ∧ eqOp false (.str "gone") (.str "gone") = some (.val (.bl true)) := by constructor <;> kernel_rfl
theorem kg_ref : eqOp false (.str "ref") (.str "num") = some (.val (.bl false)) ∧ eqOp false (.str "ref") (.str "gone") = some (.val (.bl false)) := by constructor <;> kernel_rfl
theorem kg_area : eqOp false (.str "area") (.str "num") = some (.val (.bl false)) ∧ eqOp false (.str "area") (.str "gone") = some (.val (.bl false)) := by constructor <;> kernel_rfl
theorem kg_minus : eqOp false (.str "minus") (.str "num") = some (.val (.bl false)) ∧ eqOp false (.str "minus") (.str "gone") = some (.val (.bl false)) := by constructor <;> kernel_rfl
theorem kg_two : eqOp false (.str "two") (.str "num") = some (.val (.bl false)) ∧ eqOp false (.str "two") (.str "gone") = some (.val (.bl false)) := by constructor <;> kernel_rfl
theorem kg_pick : eqOp false (.str "pick") (.str "num") = some (.val (.bl false)) ∧ eqOp false (.str "pick") (.str "gone") = some (.val (.bl false)) := by constructor <;> kernel_rfl
theorem kg_over : eqOp false (.str "over") (.str "num") = some (.val (.bl false)) ∧ eqOp false (.str "over") (.str "gone") = some (.val (.bl false)) ∧ eqOp true (.str "over") (.str "over") = some (.val (.bl false)) := by refine ⟨?_, ?_, ?_⟩ <;> kernel_rfl
def kg := And.intro kg_num <| And.intro kg_gone <| And.intro kg_ref <| And.intro kg_area <| And.intro kg_minus <| And.intro kg_two <| And.intro kg_pick kg_over
theorem run_good : ∀ (n : Nat) (t : T), dp t ≤ n → wf t = true → r_q_good n [enc t] = some (.ok (.val (.bl true)), [])
  | 0, t, h, _ => by have := dp_pos t; omega
  | n + 1, t, hd, hw => by
    have ih := run_good n
    show runD 1 1 [] (f_q_good (r_q_good n)) _ = _
    refine runE rfl ?_
    show fin (f_q_good (r_q_good n) [sv (enc t)]) = _
    have hk := kids_of hd hw
    cases t with
    | num k => simp only [enc]; unfold f_q_good f_q_good_1; simp -implicitDefEqProofs (disch := omega) only [evA, if_pos, if_neg, if_true, if_false, kd, kg, len_t2, run_whole]
    | gone => simp only [enc]; unfold f_q_good f_q_good_1 f_q_good_2; simp -implicitDefEqProofs (disch := omega) only [evA, if_pos, if_neg, if_true, if_false, kd, kg, len_t1]
    | ref r c f g =>
      have e := run_goodref r c f g
      simp only [enc]
      unfold refD at e ⊢
      unfold f_q_good f_q_good_1 f_q_good_2 f_q_good_3; simp -implicitDefEqProofs (disch := omega) only [evA, if_pos, if_neg, if_true, if_false, kd, kg, len_t3, e]
    | area r c f g r' c' f' g' =>
      have e := run_goodref r c f g
      have e' := run_goodref r' c' f' g'
      simp only [enc]
      unfold f_q_good f_q_good_1 f_q_good_2 f_q_good_3 f_q_good_4; simp -implicitDefEqProofs (disch := omega) only [evA, if_pos, if_neg, if_true, if_false, kd, kg, len_t3, e, e']
    | minus t =>
      have e1 := ih t (hk t (by simp [parts])).1 (hk t (by simp [parts])).2
      simp only [enc]; unfold f_q_good f_q_good_1 f_q_good_2 f_q_good_3 f_q_good_4 f_q_good_5; simp -implicitDefEqProofs (disch := omega) only [evA, if_pos, if_neg, if_true, if_false, kd, kg, len_t2, e1]
    | two s t u =>
      have e1 := ih t (hk t (by simp [parts])).1 (hk t (by simp [parts])).2
      have e2 := ih u (hk u (by simp [parts])).1 (hk u (by simp [parts])).2
      simp only [enc]; unfold f_q_good f_q_good_1 f_q_good_2 f_q_good_3 f_q_good_4 f_q_good_5 f_q_good_6 f_q_good_7; simp -implicitDefEqProofs (disch := omega) only [evA, if_pos, if_neg, if_true, if_false, kd, kg, len_t4, e1, e2]
    | pick t u v =>
      have e1 : fComp (fItA (fSl slSD (fVar 0) (fPart (fC (.int 1))) fNoP)) none (el_q_good_1 (r_q_good n)) [sv (enc (.pick t u v))] = some (.ok (.own (.lst (([t, u, v] : List T).map fun _ => .bl true))), [sv (enc (.pick t u v))]) := by
        refine fComp_of (ds := encL [t, u, v]) (δ' := [sv (enc (.pick t u v))]) ?_ ?_
        · simp only [enc, encL]; simp -implicitDefEqProofs (disch := omega) only [evA, if_pos, if_neg, if_true, if_false, evC, slT1]
        · exact comp_B [t, u, v] [] (fun w hw' => by unfold el_q_good_1; simp -implicitDefEqProofs (disch := omega) only [evA, if_pos, if_neg, if_true, if_false, ih w (hk w (by simpa [parts] using hw')).1 (hk w (by simpa [parts] using hw')).2]) (by simp)
      have e2 := all_true ([t, u, v] : List T)
      simp only [enc] at e1 ⊢; unfold f_q_good f_q_good_1 f_q_good_2 f_q_good_3 f_q_good_4 f_q_good_5 f_q_good_6; simp -implicitDefEqProofs (disch := omega) only [evA, if_pos, if_neg, if_true, if_false, kd, kg, len_t4, e1, e2]
    | over w ts =>
      have e1 : fComp (fItA (fOp ixD (fVar 0) (fC (.int 2)))) none (el_q_good_2 (r_q_good n)) [sv (enc (.over w ts))] = some (.ok (.own (.lst (ts.map fun _ => .bl true))), [sv (enc (.over w ts))]) := by
        refine fComp_of (ds := encL ts) (δ' := [sv (enc (.over w ts))]) ?_ ?_
        · simp only [enc]; simp -implicitDefEqProofs (disch := omega) only [evA, if_pos, if_neg, if_true, if_false]
        · have := comp_B (δ := [sv (enc (.over w ts))]) (fe := el_q_good_2 (r_q_good n)) ts [] (fun u hu => by unfold el_q_good_2; simp -implicitDefEqProofs (disch := omega) only [evA, if_pos, if_neg, if_true, if_false, ih u (hk u hu).1 (hk u hu).2]) (by have := (wf_over hw).2.1; simp; omega)
          simpa using this
      have e2 := all_true ts
      simp only [enc] at e1 ⊢; unfold f_q_good f_q_good_1 f_q_good_2 f_q_good_3 f_q_good_4 f_q_good_5 f_q_good_6 f_q_good_7 f_q_good_8 f_q_good_9; simp -implicitDefEqProofs (disch := omega) only [evA, if_pos, if_neg, if_true, if_false, kd, kg, len_t3, e1, e2]
/-! the row of what a tree is made of -/
inductive It1 where
  | mi | tw (s : Nat) | pi | ov (w n : Nat) | lf (t : T)
def encI : It1 → D
  | .mi => .tup [.str "minus"]
  | .tw s => .tup [.str "two", .str (sgS s)]
  | .pi => .tup [.str "pick"]
  | .ov w n => .tup [.str "over", .str (wdS w), .int n]
  | .lf t => enc t
mutual
def itT : T → List It1
  | .minus t => .mi :: itT t
  | .two s t u => .tw s :: (itT t ++ itT u)
  | .pick t u v => .pi :: (itT t ++ (itT u ++ itT v))
  | .over w ts => .ov w ts.length :: itL ts
  | .num n => [.lf (.num n)]
  | .gone => [.lf .gone]
  | .ref r c f g => [.lf (.ref r c f g)]
  | .area r c f g r' c' f' g' => [.lf (.area r c f g r' c' f' g')]
def itL : List T → List It1
  | [] => []
  | t :: ts => itT t ++ itL ts
end
mutual
theorem it_len : ∀ t, (itT t).length = sz t
  | .num _ => by simp [itT, sz]
  | .gone => by simp [itT, sz]
  | .ref .. => by simp [itT, sz]
  | .area .. => by simp [itT, sz]
  | .minus t => by simp [itT, sz, it_len t]
  | .two _ t u => by simp [itT, sz, it_len t, it_len u]
  | .pick t u v => by simp [itT, sz, it_len t, it_len u, it_len v]; omega
  | .over _ ts => by simp [itT, sz, it_lenL ts]
theorem it_lenL : ∀ ts, (itL ts).length = szL ts
  | [] => by simp [itL, szL]
  | t :: ts => by simp [itL, szL, it_len t, it_lenL ts]
end
def encIs (l : List It1) : List D := l.map encI
theorem encIs_len (l : List It1) : (encIs l).length = l.length := by simp [encIs]
theorem cat_of (xs ys : List D) (h : xs.length + ys.length ≤ 100000) : addD (.lst xs) (.lst ys) = some (.own (.lst (xs ++ ys))) := by
  show (match (none : Option Sl) with | some s => some s | none => catD (.lst xs) (.lst ys)) = _
  show (if xs.length + ys.length ≤ sizeLine then some (Sl.own (.lst (xs ++ ys))) else none) = _
  rw [if_pos (by rw [sizeLine_is]; omega)]
theorem ni : eqOp true (.str "num") (.str "over") = some (.val (.bl true)) ∧ eqOp true (.str "gone") (.str "over") = some (.val (.bl true)) ∧ eqOp true (.str "ref") (.str "over") = some (.val (.bl true)) ∧ eqOp true (.str "area") (.str "over") = some (.val (.bl true)) := by refine ⟨?_, ?_, ?_, ?_⟩ <;> kernel_rfl
theorem szL_mem {t : T} : ∀ {ts : List T}, t ∈ ts → sz t ≤ szL ts
  | u :: ts, h => by
    rw [szL]
    rcases List.mem_cons.mp h with rfl | h
    · omega
    · have := szL_mem h; omega
theorem items_loop {F : Fn} (tr : D) : ∀ (ts : List T) (l : List It1) (x : Option Sl), (∀ t ∈ ts, F [enc t] = some (.ok (.own (.lst (encIs (itT t)))), [])) → l.length + szL ts ≤ 10000 →
    ∃ y, forD 2 (lb_q_items_1 F) (encL ts) [sv tr, some (.own (.lst (encIs l))), x] = some (.next [sv tr, some (.own (.lst (encIs (l ++ itL ts)))), y])
  | [], l, x, _, _ => ⟨x, by simp [encL, itL, e_forN]⟩
  | t :: ts, l, x, h, hl => by
    rw [szL] at hl
    have e1 := h t List.mem_cons_self
    have hlen : (encIs l).length + (encIs (itT t)).length ≤ 100000 := by rw [encIs_len, encIs_len, it_len]; omega
    obtain ⟨y, e2⟩ := items_loop tr ts (l ++ itT t) (sv (enc t)) (fun u hu => h u (List.mem_cons_of_mem _ hu)) (by rw [List.length_append, it_len]; omega)
    refine ⟨y, ?_⟩
    have e3 : encIs l ++ encIs (itT t) = encIs (l ++ itT t) := by simp [encIs]
    have e4 := cat_of _ _ hlen
    rw [e3] at e4
    rw [encL, e_forC]
    have e5 : lb_q_items_1 F [sv tr, some (.own (.lst (encIs l))), sv (enc t)] = some (.next [sv tr, some (.own (.lst (encIs (l ++ itT t)))), sv (enc t)]) := by
      unfold lb_q_items_1
      simp -implicitDefEqProofs (disch := omega) only [evA, if_pos, if_neg, if_true, if_false, e1, e4]
    show forCK 2 (lb_q_items_1 F) (encL ts) (lb_q_items_1 F [sv tr, some (.own (.lst (encIs l))), sv (enc t)]) = _
    rw [e5, k_forC1, e2, itL, List.append_assoc]
theorem run_items : ∀ (n : Nat) (t : T), dp t ≤ n → wf t = true → sz t ≤ 1000 → r_q_items n [enc t] = some (.ok (.own (.lst (encIs (itT t)))), [])
  | 0, t, h, _, _ => by have := dp_pos t; omega
  | n + 1, t, hd, hw, hz => by
    have ih := run_items n
    show runD 3 1 [] (f_q_items (r_q_items n)) _ = _
    refine runE rfl ?_
    show fin (f_q_items (r_q_items n) [sv (enc t), none, none]) = _
    have hk := kids_of hd hw
    have hs : ∀ u ∈ parts t, sz u ≤ 1000 := fun u hu => by have := szL_mem hu; have := sz_parts t; omega
    cases t with
    | num k => simp only [enc, itT, encIs, encI, List.map]; unfold f_q_items; simp -implicitDefEqProofs (disch := omega) only [evA, if_pos, if_neg, if_true, if_false, kd, ni, evC]
    | gone => simp only [enc, itT, encIs, encI, List.map]; unfold f_q_items; simp -implicitDefEqProofs (disch := omega) only [evA, if_pos, if_neg, if_true, if_false, kd, ni, evC]
    | ref r c f g => simp only [enc, itT, encIs, encI, List.map]; unfold f_q_items refD; simp -implicitDefEqProofs (disch := omega) only [evA, if_pos, if_neg, if_true, if_false, kd, ni, evC]
    | area r c f g r' c' f' g' => simp only [enc, itT, encIs, encI, List.map]; unfold f_q_items refD; simp -implicitDefEqProofs (disch := omega) only [evA, if_pos, if_neg, if_true, if_false, kd, ni, evC]
    | minus t =>
      have e1 := ih t (hk t (by simp [parts])).1 (hk t (by simp [parts])).2 (hs t (by simp [parts]))
      simp only [sz] at hz
      have c1 := cat_of [.tup [.str "minus"]] (encIs (itT t)) (by rw [encIs_len, it_len]; simp; omega)
      simp only [enc, itT]; unfold f_q_items; simp -implicitDefEqProofs (disch := omega) only [evA, if_pos, if_neg, if_true, if_false, kd, evC, e1, c1]; rfl
    | two s t u =>
      have e1 := ih t (hk t (by simp [parts])).1 (hk t (by simp [parts])).2 (hs t (by simp [parts]))
      have e2 := ih u (hk u (by simp [parts])).1 (hk u (by simp [parts])).2 (hs u (by simp [parts]))
      simp only [sz] at hz
      have c1 := cat_of [.tup [.str "two", .str (sgS s)]] (encIs (itT t)) (by rw [encIs_len, it_len]; simp; omega)
      have c2 := cat_of ([.tup [.str "two", .str (sgS s)]] ++ encIs (itT t)) (encIs (itT u)) (by rw [List.length_append, encIs_len, it_len, encIs_len, it_len]; simp; omega)
      simp only [enc, itT]; unfold f_q_items; simp -implicitDefEqProofs (disch := omega) only [evA, if_pos, if_neg, if_true, if_false, kd, evC, e1, e2, c1, c2]; simp [encIs, encI]
    | pick t u v =>
      have e1 := ih t (hk t (by simp [parts])).1 (hk t (by simp [parts])).2 (hs t (by simp [parts]))
      have e2 := ih u (hk u (by simp [parts])).1 (hk u (by simp [parts])).2 (hs u (by simp [parts]))
      have e3 := ih v (hk v (by simp [parts])).1 (hk v (by simp [parts])).2 (hs v (by simp [parts]))
      simp only [sz] at hz
      have c1 := cat_of [.tup [.str "pick"]] (encIs (itT t)) (by rw [encIs_len, it_len]; simp; omega)
      have c2 := cat_of ([.tup [.str "pick"]] ++ encIs (itT t)) (encIs (itT u)) (by rw [List.length_append, encIs_len, it_len, encIs_len, it_len]; simp; omega)
      have c3 := cat_of ([.tup [.str "pick"]] ++ encIs (itT t) ++ encIs (itT u)) (encIs (itT v)) (by rw [List.length_append, List.length_append, encIs_len, it_len, encIs_len, it_len, encIs_len, it_len]; simp; omega)
      simp only [enc, itT]; unfold f_q_items; simp -implicitDefEqProofs (disch := omega) only [evA, if_pos, if_neg, if_true, if_false, kd, evC, e1, e2, e3, c1, c2, c3]; simp [encIs, encI]
    | over w ts =>
      simp only [sz] at hz
      obtain ⟨y, e1⟩ := items_loop (F := r_q_items n) (enc (.over w ts)) ts [.ov w ts.length] none (fun u hu => ih u (hk u hu).1 (hk u hu).2 (hs u hu)) (by simp; omega)
      have e2 : encIs [.ov w ts.length] = [.tup [.str "over", .str (wdS w), .int ts.length]] := rfl
      rw [e2] at e1
      have e3 : (encL ts).length = ts.length := encL_length ts
      simp only [enc] at e1
      simp only [enc, itT]; unfold f_q_items; simp -implicitDefEqProofs (disch := omega) only [evA, if_pos, if_neg, if_true, if_false, kd, kg, evC, e3, e1]; rfl
end Toy
namespace Toy
open PySem L2 L4
theorem eq_T (n : Bool) (t : T) (h : dp t ≤ 40) : eqOp n (enc t) (enc t) = some (.val (.bl (!n))) := eqOp_same n _ (by have := dep_enc t; omega) (plain_enc t)
theorem ix_two (x y ax : Int) (h : ax = 0 ∨ ax = 1) : ixD (.lst [.int x, .int y]) (.int ax) = some (.val (.int (if ax = 0 then x else y))) := by
  rcases h with h | h <;> subst h
  · rw [ixl_0]; rfl
  · rw [ixl_1]; rfl
end Toy
namespace Toy
open PySem L2 L4
theorem comp_K {fe : FE} {δ : DEnv} : ∀ (ks : List Int) (acc : List D), (∀ k ∈ ks, fe (sv (.int k) :: δ) = some (.ok (.val (.bl true)), sv (.int k) :: δ)) → acc.length + ks.length ≤ 10000 → compD none fe (ks.map D.int) acc δ = some (acc ++ ks.map (fun _ => D.bl true), δ)
  | [], acc, _, _ => by simp [compD]
  | k :: ks, acc, h, hl => by
    rw [List.length_cons] at hl
    have e1 := h k List.mem_cons_self
    rw [List.map_cons]
    unfold compD testD
    simp only [e1]
    rw [if_pos (by rw [sizeLine_is]; omega), List.tail_cons, comp_K ks _ (fun u hu => h u (List.mem_cons_of_mem _ hu)) (by rw [List.length_append, List.length_cons, List.length_nil]; omega)]
    simp [fz_val]
theorem ix_it (l : List It1) (k : Int) (h0 : 0 ≤ k) (h1 : k < l.length) : ∃ x, l[k.toNat]? = some x ∧ ixD (.lst (encIs l)) (.int k) = some (.val (encI x)) := by
  have hk : k.toNat < l.length := by omega
  refine ⟨l[k.toNat], List.getElem?_eq_getElem hk, ?_⟩
  show (atI (encIs l) k).map Sl.val = _
  rw [atI_of h0 (by rw [encIs_len]; exact h1)]
  unfold encIs
  rw [List.getElem?_map, List.getElem?_eq_getElem hk]
  rfl
def leafI : It1 → Bool
  | .lf t => isLeaf t
  | _ => true
mutual
theorem it_leaf : ∀ t, ∀ x ∈ itT t, leafI x = true
  | .num _, x, h => by simp [itT] at h; subst h; rfl
  | .gone, x, h => by simp [itT] at h; subst h; rfl
  | .ref .., x, h => by simp [itT] at h; subst h; rfl
  | .area .., x, h => by simp [itT] at h; subst h; rfl
  | .minus t, x, h => by
    simp only [itT, List.mem_cons] at h
    rcases h with rfl | h
    · rfl
    · exact it_leaf t x h
  | .two _ t u, x, h => by
    simp only [itT, List.mem_cons, List.mem_append] at h
    rcases h with rfl | h | h
    · rfl
    · exact it_leaf t x h
    · exact it_leaf u x h
  | .pick t u v, x, h => by
    simp only [itT, List.mem_cons, List.mem_append] at h
    rcases h with rfl | h | h | h
    · rfl
    · exact it_leaf t x h
    · exact it_leaf u x h
    · exact it_leaf v x h
  | .over _ ts, x, h => by
    simp only [itT, List.mem_cons] at h
    rcases h with rfl | h
    · rfl
    · exact it_leafL ts x h
theorem it_leafL : ∀ ts, ∀ x ∈ itL ts, leafI x = true
  | [], x, h => by simp [itL] at h
  | t :: ts, x, h => by
    simp only [itL, List.mem_append] at h
    rcases h with h | h
    · exact it_leaf t x h
    · exact it_leafL ts x h
end
theorem eq_mi : eqOp false (.tup [.str "minus"]) (.tup [.str "minus"]) = some (.val (.bl true)) := by kernel_rfl
theorem eq_pi : eqOp false (.tup [.str "pick"]) (.tup [.str "pick"]) = some (.val (.bl true)) := by kernel_rfl
theorem strOk_sg (s : Nat) : strOkD (sgS s) = true := by unfold sgS; split <;> decide +kernel
theorem strOk_wd (s : Nat) : strOkD (wdS s) = true := by unfold wdS; split <;> decide +kernel
theorem eq_tw (s : Nat) : eqOp false (.tup [.str "two", .str (sgS s)]) (.tup [.str "two", .str (sgS s)]) = some (.val (.bl true)) := eqOp_same false _ (by simp [depD, depDs]) (by simp [plainD, plainDs, strOk_sg]; decide +kernel)
theorem eq_ov (w n : Nat) : eqOp false (.tup [.str "over", .str (wdS w), .int n]) (.tup [.str "over", .str (wdS w), .int n]) = some (.val (.bl true)) := eqOp_same false _ (by simp [depD, depDs]) (by simp [plainD, plainDs, strOk_wd]; decide +kernel)
end Toy
namespace Toy
open PySem L2 L4
def comeI (ax a m : Int) : It1 → It1
  | .lf t => .lf (comeT ax a m t)
  | x => x
mutual
theorem it_come (ax a m : Int) : ∀ t, itT (comeT ax a m t) = (itT t).map (comeI ax a m)
  | .num _ => by simp [comeT, itT, comeI]
  | .gone => by simp [comeT, itT, comeI]
  | .ref .. => by simp [comeT, itT, comeI]
  | .area .. => by simp [comeT, itT, comeI]
  | .minus t => by simp [comeT, itT, comeI, it_come ax a m t]
  | .two _ t u => by simp [comeT, itT, comeI, it_come ax a m t, it_come ax a m u]
  | .pick t u v => by simp [comeT, itT, comeI, it_come ax a m t, it_come ax a m u, it_come ax a m v]
  | .over _ ts => by simp [comeT, itT, comeI, it_comeL ax a m ts, (come_dwL ax a m ts).2.2.1]
theorem it_comeL (ax a m : Int) : ∀ ts, itL (comeL ax a m ts) = (itL ts).map (comeI ax a m)
  | [] => by simp [comeL, itL]
  | t :: ts => by simp [comeL, itL, it_come ax a m t, it_comeL ax a m ts]
end
theorem run_co_by (ax r c a m : Int) (h : ax = 0 ∨ ax = 1) : r_q_come_by [pl r c, .int ax, .int a, .int m] = some (.ok (.val (pl (if ax = 0 then cz a m r else r) (if ax = 0 then c else cz a m c))), []) := by
  refine runE rfl ?_
  show fin (f_q_come_by [sv (pl r c), sv (.int ax), sv (.int a), sv (.int m), none, none]) = _
  unfold f_q_come_by cz
  rcases h with h | h <;> subst h
  · by_cases h1 : r < a <;> simp -implicitDefEqProofs (disch := omega) only [evA, if_pos, if_neg, if_true, if_false]
  · by_cases h1 : c < a <;> simp -implicitDefEqProofs (disch := omega) only [evA, if_pos, if_neg, if_true, if_false]
theorem eq_ref (r c : Int) (f g : Bool) : eqOp false (refD r c f g) (refD r c f g) = some (.val (.bl true)) := eq_T false (.ref r c f g) (by simp [dp])
theorem run_came (ax a m : Int) (hax : ax = 0 ∨ ax = 1) (x : It1) (hx : leafI x = true) : r_q_leaf_came [encI (comeI ax a m x), encI x, .int ax, .int a, .int m] = some (.ok (.val (.bl true)), []) := by
  refine runE rfl ?_
  show fin (f_q_leaf_came [sv (encI (comeI ax a m x)), sv (encI x), sv (.int ax), sv (.int a), sv (.int m), none]) = _
  cases x with
  | mi => unfold comeI encI f_q_leaf_came; simp -implicitDefEqProofs (disch := omega) only [evA, if_pos, if_neg, if_true, if_false, kd, eq_mi]
  | tw s => unfold comeI encI f_q_leaf_came; simp -implicitDefEqProofs (disch := omega) only [evA, if_pos, if_neg, if_true, if_false, kd, eq_tw]
  | pi => unfold comeI encI f_q_leaf_came; simp -implicitDefEqProofs (disch := omega) only [evA, if_pos, if_neg, if_true, if_false, kd, eq_pi]
  | ov w n => unfold comeI encI f_q_leaf_came; simp -implicitDefEqProofs (disch := omega) only [evA, if_pos, if_neg, if_true, if_false, kd, eq_ov]
  | lf t =>
    cases t with
    | num n =>
      have e := eq_T false (.num n) (by simp [dp])
      simp only [comeI, comeT, encI, enc] at e ⊢; unfold f_q_leaf_came; simp -implicitDefEqProofs (disch := omega) only [evA, if_pos, if_neg, if_true, if_false, kd, e]
    | gone =>
      have e := eq_T false .gone (by simp [dp])
      simp only [comeI, comeT, encI, enc] at e ⊢; unfold f_q_leaf_came; simp -implicitDefEqProofs (disch := omega) only [evA, if_pos, if_neg, if_true, if_false, kd, e]
    | ref r c f g =>
      have e1 := run_co_by ax r c a m hax
      have e2 := eq_ref (if ax = 0 then cz a m r else r) (if ax = 0 then c else cz a m c) f g
      simp only [comeI, comeT, encI, enc]
      unfold refD at e2 ⊢
      unfold f_q_leaf_came; simp -implicitDefEqProofs (disch := omega) only [evA, if_pos, if_neg, if_true, if_false, kd, e1, e2]
    | area r c f g r' c' f' g' =>
      have e1 := run_co_by ax r c a m hax
      have e1' := run_co_by ax r' c' a m hax
      have e2 := eq_T false (comeT ax a m (.area r c f g r' c' f' g')) (by simp [comeT, dp])
      simp only [comeI, comeT, encI, enc] at e2 ⊢
      unfold refD at e2 ⊢
      unfold f_q_leaf_came; simp -implicitDefEqProofs (disch := omega) only [evA, if_pos, if_neg, if_true, if_false, kd, e1, e1', e2]
    | _ => simp [leafI, isLeaf] at hx
theorem ix_twoT (x y ax : Int) (h : ax = 0 ∨ ax = 1) : ixD (.tup [.int x, .int y]) (.int ax) = some (.val (.int (if ax = 0 then x else y))) := by
  rcases h with h | h <;> subst h
  · rw [ix0_tup]; rfl
  · rw [ix1_tup]; rfl
theorem notN_enc (t : T) : isND true (enc t) .non = some (.val (.bl true)) := by cases t <;> simp only [enc] <;> rfl
theorem law_true (ns : List Int) (hn : ns.length ≤ 63) : r_law [.lst (ns.map D.int)] = some (.ok (.val (.bl true)), []) := by
  have hc := run_cell ns hn
  have h0 := cell_0 ns
  have c4 := h0 4
  have key : ∀ R C : Int, 0 < R → R < 99 → 0 < C → C < 26 → fin (f_law_3 [sv (.lst (ns.map D.int)), sv (.tup [.int R, .int C]), none, none, none, none, none, none, none, none, none]) = some (.ok (.val (.bl true)), []) := by
    intro R C hR hR' hC hC'
    obtain ⟨t, et, ok, hd, hw, hz⟩ := run_tree ns hn (1 + cell ns 0 % 18) R C (by have := h0 0; omega) hR hC
    generalize eS : D.lst (ns.map D.int) = S at hc et ⊢
    obtain ⟨ax, ea⟩ : ∃ ax, cell ns 1 % 2 = ax := ⟨_, rfl⟩
    have hax : ax = 0 ∨ ax = 1 := by omega
    have hax' : 1 - ax = 0 ∨ 1 - ax = 1 := by omega
    have i1 := ix_twoT R C ax hax
    have i2 := ix_two 99 26 ax hax
    obtain ⟨p, ep⟩ : ∃ p : Int, (if ax = 0 then R else C) = p := ⟨_, rfl⟩
    obtain ⟨q, eq⟩ : ∃ q : Int, (if ax = 0 then (99 : Int) else 26) = q := ⟨_, rfl⟩
    have hp : 0 < p ∧ p < q := by rw [← ep, ← eq]; split <;> omega
    rw [ep] at i1
    rw [eq] at i2
    obtain ⟨a, eat⟩ : ∃ a, cell ns 2 % (p + 1) = a := ⟨_, rfl⟩
    obtain ⟨m, em⟩ : ∃ a, 1 + cell ns 3 % (q - p) = a := ⟨_, rfl⟩
    have rc := run_copy 40 t (by omega) hw
    have c1 := run_come ax a m hax 39 t (by omega) hw
    have c2 := run_come (1 - ax) 0 1 hax' 39 t (by omega) hw
    have dw := come_dw ax a m t
    have gd := run_good 40 (comeT ax a m t) (by rw [dw.1]; omega) (by rw [dw.2]; exact hw)
    have hl : (itT (comeT ax a m t)).length = (itT t).length := by rw [it_come]; simp
    have t1 := run_items 40 t (by omega) hw (by omega)
    have t2 := run_items 40 (comeT ax a m t) (by rw [dw.1]; omega) (by rw [dw.2]; exact hw) (by rw [← it_len, hl, it_len]; omega)
    have q1 := eq_T true t (by omega)
    have q2 := eq_T false (comeT ax a m t) (by rw [dw.1]; omega)
    have q3 := eq_T false t (by omega)
    have l1 : (encIs (itT t)).length = (itT t).length := encIs_len _
    have l2 : (encIs (itT (comeT ax a m t))).length = (itT t).length := by rw [encIs_len, hl]
    have hn1 : (itT t).length ≤ 120 := by rw [it_len]; exact hz
    have k1 : ∀ δ, rngK (some (.ok [.int ((itT t).length : Int)], δ)) = some (.ok (rngD 0 (itT t).length), δ) := fun δ => k_rng1 _ δ (by omega) (by omega)
    have cmp : fComp (fRng1 (fCons (fArgs (g1 lenD) (fCons (fVar 9) fNil)) fNil)) none el_law_1 [sv S, sv (.tup [.int R, .int C]), sv (enc t), sv (.int ax), sv (.int a), sv (.int m), sv (enc t), sv (enc (comeT ax a m t)), sv (.lst (encIs (itT (comeT ax a m t)))), sv (.lst (encIs (itT t))), none]
        = some (.ok (.own (.lst (((List.range (itT t).length).map fun (k : Nat) => (0 + (k : Int))).map fun _ => .bl true))), [sv S, sv (.tup [.int R, .int C]), sv (enc t), sv (.int ax), sv (.int a), sv (.int m), sv (enc t), sv (enc (comeT ax a m t)), sv (.lst (encIs (itT (comeT ax a m t)))), sv (.lst (encIs (itT t))), none]) := by
      refine fComp_of (ds := rngD 0 (itT t).length) (δ' := [sv S, sv (.tup [.int R, .int C]), sv (enc t), sv (.int ax), sv (.int a), sv (.int m), sv (enc t), sv (enc (comeT ax a m t)), sv (.lst (encIs (itT (comeT ax a m t)))), sv (.lst (encIs (itT t))), none]) ?_ ?_
      · simp -implicitDefEqProofs (disch := omega) only [evA, if_pos, if_neg, if_true, if_false, evC, e_rng1, l1, k1]
      · rw [rng_ints]
        refine comp_K _ [] (fun k hk => ?_) (by simp; omega)
        have hk' : 0 ≤ k ∧ k < (itT t).length := by
          obtain ⟨j, hj, rfl⟩ := List.mem_map.mp hk
          have := List.mem_range.mp hj
          omega
        obtain ⟨x, x1, x2⟩ := ix_it (itT t) k hk'.1 hk'.2
        obtain ⟨y, y1, y2⟩ := ix_it (itT (comeT ax a m t)) k hk'.1 (by rw [hl]; exact hk'.2)
        rw [it_come, List.getElem?_map, x1] at y1
        cases y1
        have hx : leafI x = true := it_leaf t x (List.mem_of_getElem? x1)
        have e := run_came ax a m hax x hx
        unfold el_law_1
        simp -implicitDefEqProofs (disch := omega) only [evA, if_pos, if_neg, if_true, if_false, x2, y2, e]
    have al := all_true ((List.range (itT t).length).map fun (k : Nat) => (0 + (k : Int)))
    have nn := notN_enc (comeT (1 - ax) 0 1 t)
    unfold f_law_3 f_law_4 f_law_5 f_law_6 f_law_7 f_law_8 f_law_9 f_law_10 f_law_11 f_law_12 f_law_13 f_law_14 f_law_15
    simp -implicitDefEqProofs (disch := omega) only [evA, if_pos, if_neg, if_true, if_false, hc, et, ea, evC, i1, i2, eat, em, rc, c1, c2, gd, t1, t2, q1, q2, q3, l1, l2, cmp, al, nn]
  refine runE rfl ?_
  show fin (f_law [sv (.lst (ns.map D.int)), none, none, none, none, none, none, none, none, none, none]) = _
  have k60 := key 60 16 (by omega) (by omega) (by omega) (by omega)
  have k98 := key 98 25 (by omega) (by omega) (by omega) (by omega)
  have k5 := key 5 3 (by omega) (by omega) (by omega) (by omega)
  generalize eS : D.lst (ns.map D.int) = S at hc k60 k98 k5 ⊢
  unfold f_law f_law_1 f_law_2
  by_cases h1 : cell ns 4 % 4 = 1
  · have h2 : ¬ cell ns 4 % 8 = 2 := by omega
    simp -implicitDefEqProofs (disch := omega) only [evA, if_pos, if_neg, if_true, if_false, hc, k98]
  · by_cases h2 : cell ns 4 % 8 = 2
    · simp -implicitDefEqProofs (disch := omega) only [evA, if_pos, if_neg, if_true, if_false, hc, k5]
    · simp -implicitDefEqProofs (disch := omega) only [evA, if_pos, if_neg, if_true, if_false, hc, k60]
end Toy


namespace Toy
open PySem L2 L4
def top (i : Nat) : Stmt := PySem.Challenge.pw_slate_k32_formulas_come.main.body.getD i (.Pass ⟨0, 0, 0, 0⟩)
structure Blt (mg : Str → Option Value) : Prop where
  all_ : mg "all" = none
  bool_ : mg "bool" = none
  int_ : mg "int" = none
  isinstance_ : mg "isinstance" = none
  len_ : mg "len" = none
  list_ : mg "list" = none
  max_ : mg "max" = none
  min_ : mg "min" = none
  range_ : mg "range" = none
  str_ : mg "str" = none
  sum_ : mg "sum" = none
  tuple_ : mg "tuple" = none
structure Cst (K : PySem.W.Frag) (mg : Str → Option Value) : Prop where
  LEAF_KINDS : GlD K mg "LEAF_KINDS" c_LEAF_KINDS
section
variable {P : Program} {w : World} {K : PySem.W.Frag} {mg : Str → Option Value} {base : Heap}
theorem sc_q_cell_at : FnScope ["_law_script", "_law_k", "_law_number"] ["_law_script", "_law_k"] (defScope (top 9)) := ⟨rfl, rfl, rfl, by decide +kernel, rfl, by decide +kernel, by decide +kernel⟩
theorem ok_q_cell_at (B : Blt mg) (C : Cst K mg) {f : Addr} {fd : FuncData} (F : Fun K "_law_cell_at" "_law_cell_at" (top 9) f fd) (b : Binds K fd ["_law_script", "_law_k"] []) (hm : mg "_law_cell_at" = some (.ref f)) : FnD P w K mg base "_law_cell_at" 1 ["_law_script", "_law_k"] [] r_q_cell_at := by
  have SC := sc_q_cell_at
  refine fnD_mk (n := 3) (m := 2) (k := 0) F SC rfl rfl b hm fun cdv A outer s H E hr => ?_
  exact (db_cons (ds_if (dt_cmp (q_eq (hu_of2 hr)) (de_len rfl B.len_ (da_cons (de 0) da_nil)) de_int (nomark _)) (db_one (ds_ret (de_mod (de_mul (de 1) de_int) de_int))) db_nil)
    (db_cons (ds_set (i := 2) SC.nd rfl (by first | exact Or.inl rfl | exact Or.inr rfl) (de_ix (de 0) (de_mod (de 1) (de_len rfl B.len_ (da_cons (de 0) da_nil))) (fun _ _ => rfl)))
    (db_one (ds_ret (de_mod (de_add (de_add (de_mul (de 2) de_int) (de_mul (de 1) de_int)) (de_mul (de_fdiv (de 1) (de_len rfl B.len_ (da_cons (de 0) da_nil))) de_int)) de_int)))))
theorem sc_q_ref_by : FnScope ["_law_cell", "_law_rows", "_law_columns", "_law_fixed"] ["_law_cell", "_law_rows", "_law_columns"] (defScope (top 10)) := ⟨rfl, rfl, rfl, by decide +kernel, rfl, by decide +kernel, by decide +kernel⟩
theorem ok_q_ref_by (B : Blt mg) (C : Cst K mg) {f : Addr} {fd : FuncData} (F : Fun K "_law_ref_by" "_law_ref_by" (top 10) f fd) (b : Binds K fd ["_law_cell", "_law_rows", "_law_columns"] []) (hm : mg "_law_ref_by" = some (.ref f)) : FnD P w K mg base "_law_ref_by" 1 ["_law_cell", "_law_rows", "_law_columns"] [] r_q_ref_by := by
  have SC := sc_q_ref_by
  refine fnD_mk (n := 4) (m := 3) (k := 0) F SC rfl rfl b hm fun cdv A outer s H E hr => ?_
  exact (db_cons (ds_set (i := 3) SC.nd rfl (by first | exact Or.inl rfl | exact Or.inr rfl) (de_tup (da_cons (de_cmp (q_eq (hu_of2 hr)) (de_mod (de_fdiv (de 0) de_int) de_int) de_int (nomark _)) (da_cons (de_cmp (q_eq (hu_of2 hr)) (de_mod (de_fdiv (de 0) de_int) de_int) de_int (nomark _)) da_nil))))
    (db_one (ds_ret (de_tup (da_cons de_str (da_cons (de_tup (da_cons (de_mod (de 0) (de 1)) (da_cons (de_mod (de_fdiv (de 0) de_int) (de 2)) da_nil))) (da_cons (de 3) da_nil)))))))
theorem sc_q_area_by : FnScope ["_law_cell", "_law_other", "_law_rows", "_law_columns", "_law_one", "_law_two", "_law_far", "_law_first", "_law_last"] ["_law_cell", "_law_other", "_law_rows", "_law_columns"] (defScope (top 11)) := ⟨rfl, rfl, rfl, by decide +kernel, rfl, by decide +kernel, by decide +kernel⟩
theorem ok_q_area_by (B : Blt mg) (C : Cst K mg) (G_q_ref_by : FnD P w K mg base "_law_ref_by" 1 ["_law_cell", "_law_rows", "_law_columns"] [] r_q_ref_by) {f : Addr} {fd : FuncData} (F : Fun K "_law_area_by" "_law_area_by" (top 11) f fd) (b : Binds K fd ["_law_cell", "_law_other", "_law_rows", "_law_columns"] []) (hm : mg "_law_area_by" = some (.ref f)) : FnD P w K mg base "_law_area_by" 2 ["_law_cell", "_law_other", "_law_rows", "_law_columns"] [] r_q_area_by := by
  have SC := sc_q_area_by
  refine fnD_mk (n := 9) (m := 4) (k := 1) F SC rfl rfl b hm fun cdv A outer s H E hr => ?_
  exact (db_cons (ds_set (i := 4) SC.nd rfl (by first | exact Or.inl rfl | exact Or.inr rfl) (de_call G_q_ref_by (hr.mono (by omega)) rfl (da_cons (de 0) (da_cons (de 2) (da_cons (de 3) da_nil)))))
    (db_cons (ds_set (i := 5) SC.nd rfl (by first | exact Or.inl rfl | exact Or.inr rfl) (de_call G_q_ref_by (hr.mono (by omega)) rfl (da_cons (de 1) (da_cons (de 2) (da_cons (de 3) da_nil)))))
    (db_cons (ds_set (i := 6) SC.nd rfl (by first | exact Or.inl rfl | exact Or.inr rfl) (de_ix (de 5) de_int (fun _ _ => rfl)))
    (db_cons (ds_if (dt_cmp (q_eq (hu_of2 hr)) (de_mod (de_fdiv (de 0) de_int) de_int) de_int (nomark _)) (db_one (ds_set (i := 6) SC.nd rfl (by first | exact Or.inl rfl | exact Or.inr rfl) (de_tup (da_cons (de_ix (de_ix (de 4) de_int (fun _ _ => rfl)) de_int (fun _ _ => rfl)) (da_cons (de_ix (de 6) de_int (fun _ _ => rfl)) da_nil))))) db_nil)
    (db_cons (ds_if (dt_cmp (q_eq (hu_of2 hr)) (de_mod (de_fdiv (de 0) de_int) de_int) de_int (nomark _)) (db_one (ds_set (i := 6) SC.nd rfl (by first | exact Or.inl rfl | exact Or.inr rfl) (de_tup (da_cons (de_ix (de 6) de_int (fun _ _ => rfl)) (da_cons (de_ix (de_ix (de 4) de_int (fun _ _ => rfl)) de_int (fun _ _ => rfl)) da_nil))))) db_nil)
    (db_cons (ds_set (i := 7) SC.nd rfl (by first | exact Or.inl rfl | exact Or.inr rfl) (de_tup (da_cons (de_min rfl rfl B.min_ (da_cons (de_ix (de_ix (de 4) de_int (fun _ _ => rfl)) de_int (fun _ _ => rfl)) (da_cons (de_ix (de 6) de_int (fun _ _ => rfl)) da_nil))) (da_cons (de_min rfl rfl B.min_ (da_cons (de_ix (de_ix (de 4) de_int (fun _ _ => rfl)) de_int (fun _ _ => rfl)) (da_cons (de_ix (de 6) de_int (fun _ _ => rfl)) da_nil))) da_nil))))
    (db_cons (ds_set (i := 8) SC.nd rfl (by first | exact Or.inl rfl | exact Or.inr rfl) (de_tup (da_cons (de_max rfl rfl B.max_ (da_cons (de_ix (de_ix (de 4) de_int (fun _ _ => rfl)) de_int (fun _ _ => rfl)) (da_cons (de_ix (de 6) de_int (fun _ _ => rfl)) da_nil))) (da_cons (de_max rfl rfl B.max_ (da_cons (de_ix (de_ix (de 4) de_int (fun _ _ => rfl)) de_int (fun _ _ => rfl)) (da_cons (de_ix (de 6) de_int (fun _ _ => rfl)) da_nil))) da_nil))))
    (db_one (ds_ret (de_tup (da_cons de_str (da_cons (de_tup (da_cons de_str (da_cons (de 7) (da_cons (de_ix (de 4) de_int (fun _ _ => rfl)) da_nil)))) (da_cons (de_tup (da_cons de_str (da_cons (de 8) (da_cons (de_ix (de 5) de_int (fun _ _ => rfl)) da_nil)))) da_nil)))))))))))))
theorem sc_q_leaf_by : FnScope ["_law_script", "_law_k", "_law_rows", "_law_columns", "_law_cell", "_law_other", "_law_area"] ["_law_script", "_law_k", "_law_rows", "_law_columns"] (defScope (top 12)) := ⟨rfl, rfl, rfl, by decide +kernel, rfl, by decide +kernel, by decide +kernel⟩
theorem ok_q_leaf_by (B : Blt mg) (C : Cst K mg) (G_q_cell_at : FnD P w K mg base "_law_cell_at" 1 ["_law_script", "_law_k"] [] r_q_cell_at) (G_q_area_by : FnD P w K mg base "_law_area_by" 2 ["_law_cell", "_law_other", "_law_rows", "_law_columns"] [] r_q_area_by) (G_q_ref_by : FnD P w K mg base "_law_ref_by" 1 ["_law_cell", "_law_rows", "_law_columns"] [] r_q_ref_by) {f : Addr} {fd : FuncData} (F : Fun K "_law_leaf_by" "_law_leaf_by" (top 12) f fd) (b : Binds K fd ["_law_script", "_law_k", "_law_rows", "_law_columns"] []) (hm : mg "_law_leaf_by" = some (.ref f)) : FnD P w K mg base "_law_leaf_by" 3 ["_law_script", "_law_k", "_law_rows", "_law_columns"] [] r_q_leaf_by := by
  have SC := sc_q_leaf_by
  refine fnD_mk (n := 7) (m := 4) (k := 2) F SC rfl rfl b hm fun cdv A outer s H E hr => ?_
  exact (db_cons (ds_set (i := 4) SC.nd rfl (by first | exact Or.inl rfl | exact Or.inr rfl) (de_call G_q_cell_at (hr.mono (by omega)) rfl (da_cons (de 0) (da_cons (de 1) da_nil))))
    (db_cons (ds_set (i := 5) SC.nd rfl (by first | exact Or.inl rfl | exact Or.inr rfl) (de_call G_q_cell_at (hr.mono (by omega)) rfl (da_cons (de 0) (da_cons (de_add (de 1) de_int) da_nil))))
    (db_cons (ds_if (dt_cmp (q_eq (hu_of2 hr)) (de_mod (de 4) de_int) de_int (nomark _)) (db_cons (ds_if (dt_cmp (q_eq (hu_of2 hr)) (de_mod (de 5) de_int) de_int (nomark _)) (db_one (ds_ret (de_tup (da_cons (de_tup (da_cons de_str (da_cons (de_mod (de_fdiv (de 5) de_int) de_int) da_nil))) (da_cons de_int da_nil))))) db_nil)
    (db_one (ds_ret (de_tup (da_cons (de_tup (da_cons de_str (da_cons (de_mod (de_mul (de 5) de_int) (de_pow de_int de_int)) da_nil))) (da_cons de_int da_nil)))))) db_nil)
    (db_cons (ds_if (dt_cmp (q_eq (hu_of2 hr)) (de_mod (de 4) de_int) de_int (nomark _)) (db_one (ds_ret (de_tup (da_cons (de_tup (da_cons de_str da_nil)) (da_cons de_int da_nil))))) db_nil)
    (db_cons (ds_if (dt_cmp (q_eq (hu_of2 hr)) (de_mod (de 4) de_int) de_int (nomark _)) (db_cons (ds_set (i := 6) SC.nd rfl (by first | exact Or.inl rfl | exact Or.inr rfl) (de_call G_q_area_by (hr.mono (by omega)) rfl (da_cons (de 5) (da_cons (de_call G_q_cell_at (hr.mono (by omega)) rfl (da_cons (de 0) (da_cons (de_add (de 1) de_int) da_nil))) (da_cons (de 2) (da_cons (de 3) da_nil))))))
    (db_one (ds_ret (de_tup (da_cons (de_tup (da_cons de_str (da_cons (de_ix (de_lst (da_cons de_str (da_cons de_str (da_cons de_str da_nil)))) (de_mod (de_fdiv (de 4) de_int) de_int) (fun _ _ => rfl)) (da_cons (de_lst (da_cons (de 6) da_nil)) da_nil)))) (da_cons de_int da_nil)))))) db_nil)
    (db_one (ds_ret (de_tup (da_cons (de_call G_q_ref_by (hr.mono (by omega)) rfl (da_cons (de 5) (da_cons (de 2) (da_cons (de 3) da_nil)))) (da_cons de_int da_nil))))))))))
theorem sc_q_joined : FnScope ["_law_script", "_law_k", "_law_cell", "_law_made", "_law_rows", "_law_columns", "_law_kind", "_law_told", "_law_many", "_law_turn", "_law_area"] ["_law_script", "_law_k", "_law_cell", "_law_made", "_law_rows", "_law_columns"] (defScope (top 13)) := ⟨rfl, rfl, rfl, by decide +kernel, rfl, by decide +kernel, by decide +kernel⟩
theorem ok_q_joined (B : Blt mg) (C : Cst K mg) (G_q_area_by : FnD P w K mg base "_law_area_by" 2 ["_law_cell", "_law_other", "_law_rows", "_law_columns"] [] r_q_area_by) (G_q_cell_at : FnD P w K mg base "_law_cell_at" 1 ["_law_script", "_law_k"] [] r_q_cell_at) {f : Addr} {fd : FuncData} (F : Fun K "_law_joined" "_law_joined" (top 13) f fd) (b : Binds K fd ["_law_script", "_law_k", "_law_cell", "_law_made", "_law_rows", "_law_columns"] []) (hm : mg "_law_joined" = some (.ref f)) : FnD P w K mg base "_law_joined" 3 ["_law_script", "_law_k", "_law_cell", "_law_made", "_law_rows", "_law_columns"] [] r_q_joined := by
  have SC := sc_q_joined
  refine fnD_mk (n := 11) (m := 6) (k := 2) F SC rfl rfl b hm fun cdv A outer s H E hr => ?_
  exact (db_cons (ds_set (i := 6) SC.nd rfl (by first | exact Or.inl rfl | exact Or.inr rfl) (de_mod (de 2) de_int))
    (db_cons (ds_if (dt_cmp (q_eq (hu_of2 hr)) (de 6) de_int (nomark _)) (db_one (ds_ret (de_tup (da_cons de_str (da_cons (de_ix (de 3) de_int (fun _ _ => rfl)) da_nil))))) db_nil)
    (db_cons (ds_if (dt_cmp (q_eq (hu_of2 hr)) (de 6) de_int (nomark _)) (db_one (ds_ret (de_tup (da_cons de_str (da_cons (de_ix de_str (de_mod (de_fdiv (de 2) de_int) de_int) (fun _ _ => rfl)) (da_cons (de_ix (de 3) de_int (fun _ _ => rfl)) (da_cons (de_ix (de 3) de_int (fun _ _ => rfl)) da_nil))))))) db_nil)
    (db_cons (ds_if (dt_cmp (q_eq (hu_of2 hr)) (de 6) de_int (nomark _)) (db_one (ds_ret (de_tup (da_cons de_str (da_cons (de_ix (de 3) de_int (fun _ _ => rfl)) (da_cons (de_ix (de 3) de_int (fun _ _ => rfl)) (da_cons (de_ix (de 3) de_int (fun _ _ => rfl)) da_nil))))))) db_nil)
    (db_cons (ds_set (i := 7) SC.nd rfl (by first | exact Or.inl rfl | exact Or.inr rfl) (de_list_ rfl B.list_ (da_cons (de 3) da_nil)))
    (db_cons (ds_set (i := 8) SC.nd rfl (by first | exact Or.inl rfl | exact Or.inr rfl) (de_mod (de_fdiv (de 2) de_int) de_int))
    (db_cons (ds_if (dt_cmp (q_eq (hu_of2 hr)) (de_mod (de_fdiv (de 2) de_int) de_int) de_int (nomark _)) (db_one (ds_set (i := 8) SC.nd rfl (by first | exact Or.inl rfl | exact Or.inr rfl) (de_pure (de_sub de_int (de_len rfl B.len_ (da_cons (de 7) da_nil)))))) db_nil)
    (db_cons (ds_for (i := 9) SC.nd rfl (by first | exact Or.inl rfl | exact Or.inr rfl) rfl (di_rng1 rfl B.range_ (da_cons (de 8) da_nil)) (db_cons (ds_set (i := 10) SC.nd rfl (by first | exact Or.inl rfl | exact Or.inr rfl) (de_call G_q_area_by (hr.mono (by omega)) rfl (da_cons (de_call G_q_cell_at (hr.mono (by omega)) rfl (da_cons (de 0) (da_cons (de_add (de_add (de 1) de_int) (de 9)) da_nil))) (da_cons (de_call G_q_cell_at (hr.mono (by omega)) rfl (da_cons (de 0) (da_cons (de_add (de_add (de 1) de_int) (de 9)) da_nil))) (da_cons (de 4) (da_cons (de 5) da_nil))))))
    (db_one (ds_expr (de_insert 7 (da_cons (de_pure (de_mod (de_fdiv (de 2) de_int) (de_add (de_len rfl B.len_ (da_cons (de 7) da_nil)) de_int))) (da_cons (de 10) da_nil)))))))
    (db_one (ds_ret (de_pure (de_tup (da_cons de_str (da_cons (de_ix (de_lst (da_cons de_str (da_cons de_str (da_cons de_str da_nil)))) (de_mod (de_fdiv (de 2) de_int) de_int) (fun _ _ => rfl)) (da_cons (de 7) da_nil)))))))))))))))
theorem sc_q_tree_by : FnScope ["_law_script", "_law_many", "_law_rows", "_law_columns", "_law_stack", "_law_k", "_law_cell", "_law_taken", "_law_behind", "_law_much", "_law_leaf", "_law_tree"] ["_law_script", "_law_many", "_law_rows", "_law_columns"] (defScope (top 14)) := ⟨rfl, rfl, rfl, by decide +kernel, rfl, by decide +kernel, by decide +kernel⟩
theorem ok_q_tree_by (B : Blt mg) (C : Cst K mg) (G_q_cell_at : FnD P w K mg base "_law_cell_at" 1 ["_law_script", "_law_k"] [] r_q_cell_at) (G_q_leaf_by : FnD P w K mg base "_law_leaf_by" 3 ["_law_script", "_law_k", "_law_rows", "_law_columns"] [] r_q_leaf_by) (G_q_joined : FnD P w K mg base "_law_joined" 3 ["_law_script", "_law_k", "_law_cell", "_law_made", "_law_rows", "_law_columns"] [] r_q_joined) {f : Addr} {fd : FuncData} (F : Fun K "_law_tree_by" "_law_tree_by" (top 14) f fd) (b : Binds K fd ["_law_script", "_law_many", "_law_rows", "_law_columns"] []) (hm : mg "_law_tree_by" = some (.ref f)) : FnD P w K mg base "_law_tree_by" 4 ["_law_script", "_law_many", "_law_rows", "_law_columns"] [] r_q_tree_by := by
  have SC := sc_q_tree_by
  refine fnD_mk (n := 12) (m := 4) (k := 3) F SC rfl rfl b hm fun cdv A outer s H E hr => ?_
  exact (db_cons (ds_if (dt_cmp (q_eq (hu_of2 hr)) (de_mod (de_call G_q_cell_at (hr.mono (by omega)) rfl (da_cons (de 0) (da_cons de_int da_nil))) de_int) de_int (nomark _)) (db_one (ds_set (i := 1) SC.nd rfl (by first | exact Or.inl rfl | exact Or.inr rfl) de_int)) db_nil)
    (db_cons (ds_set (i := 4) SC.nd rfl (by first | exact Or.inl rfl | exact Or.inr rfl) (de_lst da_nil))
    (db_cons (ds_for (i := 5) SC.nd rfl (by first | exact Or.inl rfl | exact Or.inr rfl) rfl (di_rng1 rfl B.range_ (da_cons (de 1) da_nil)) (db_cons (ds_set (i := 6) SC.nd rfl (by first | exact Or.inl rfl | exact Or.inr rfl) (de_call G_q_cell_at (hr.mono (by omega)) rfl (da_cons (de 0) (da_cons (de_add de_int (de 5)) da_nil))))
    (db_cons (ds_set (i := 7) SC.nd rfl (by first | exact Or.inl rfl | exact Or.inr rfl) (de_ix (de_lst (da_cons de_int (da_cons de_int (da_cons de_int (da_cons de_int (da_cons de_int (da_cons de_int (da_cons de_int (da_cons de_int (da_cons (de_add de_int (de_mod (de_fdiv (de 6) de_int) de_int)) da_nil)))))))))) (de_mod (de 6) de_int) (fun _ _ => rfl)))
    (db_cons (ds_set (i := 8) SC.nd rfl (by first | exact Or.inl rfl | exact Or.inr rfl) (de_slO 4 (dp_some (de_pure (de_sub (de_len rfl B.len_ (da_cons (de 4) da_nil)) (de_min rfl rfl B.min_ (da_cons (de 7) (da_cons (de_len rfl B.len_ (da_cons (de 4) da_nil)) da_nil)))))) dp_none))
    (db_cons (ds_set (i := 9) SC.nd rfl (by first | exact Or.inl rfl | exact Or.inr rfl) (de_add (de_sumL rfl rfl B.sum_ (da_cons (de_comp (comp_ok (M := ["_law_script", "_law_many", "_law_rows", "_law_columns", "_law_stack", "_law_k", "_law_cell", "_law_taken", "_law_behind", "_law_much", "_law_leaf", "_law_tree"]) (sc := defScope (top 14)) (N := ["_law_script", "_law_many", "_law_rows", "_law_columns", "_law_stack", "_law_k", "_law_cell", "_law_taken", "_law_behind", "_law_much", "_law_leaf", "_law_tree"]) rfl rfl (by decide +kernel)) rfl (di_any (de 8)) tests_no (fun s H fp pn => (de_ix (de 0) de_int (fun _ _ => rfl)))) da_nil)) de_int))
    (db_one (ds_if (dw (dw_or (dt_cmp (q_eq (hu_of2 hr)) (de 7) de_int (nomark _)) (dw_or (dt_cmp q_lt (de_len rfl B.len_ (da_cons (de 8) da_nil)) (de 7) (nomark _)) (dw_or (dt_cmp q_gt (de 9) de_int (nomark _)) (dw_or1 (dt_cmp q_gt (de_maxL rfl rfl B.max_ (da_cons (de_comp (comp_ok (M := ["_law_script", "_law_many", "_law_rows", "_law_columns", "_law_stack", "_law_k", "_law_cell", "_law_taken", "_law_behind", "_law_much", "_law_leaf", "_law_tree"]) (sc := defScope (top 14)) (N := ["_law_script", "_law_many", "_law_rows", "_law_columns", "_law_stack", "_law_k", "_law_cell", "_law_taken", "_law_behind", "_law_much", "_law_leaf", "_law_tree"]) rfl rfl (by decide +kernel)) rfl (di_any (de 8)) tests_no (fun s H fp pn => (de_ix (de 0) de_int (fun _ _ => rfl)))) da_nil)) de_int (nomark _))))))) (db_cons (ds_set (i := 10) SC.nd rfl (by first | exact Or.inl rfl | exact Or.inr rfl) (de_call G_q_leaf_by (hr.mono (by omega)) rfl (da_cons (de 0) (da_cons (de_add de_int (de 5)) (da_cons (de 2) (da_cons (de 3) da_nil))))))
    (db_one (ds_expr (de_append 4 (da_cons (de_tup (da_cons (de_ix (de 10) de_int (fun _ _ => rfl)) (da_cons (de_ix (de 10) de_int (fun _ _ => rfl)) (da_cons de_int da_nil)))) da_nil))))) (db_cons (ds_set (i := 4) SC.nd rfl (by first | exact Or.inl rfl | exact Or.inr rfl) (de_slO 4 dp_none (dp_some (de_pure (de_sub (de_len rfl B.len_ (da_cons (de 4) da_nil)) (de 7))))))
    (db_cons (ds_set (i := 11) SC.nd rfl (by first | exact Or.inl rfl | exact Or.inr rfl) (de_call G_q_joined (hr.mono (by omega)) rfl (da_cons (de 0) (da_cons (de 5) (da_cons (de 6) (da_cons (de_comp (comp_ok (M := ["_law_script", "_law_many", "_law_rows", "_law_columns", "_law_stack", "_law_k", "_law_cell", "_law_taken", "_law_behind", "_law_much", "_law_leaf", "_law_tree"]) (sc := defScope (top 14)) (N := ["_law_script", "_law_many", "_law_rows", "_law_columns", "_law_stack", "_law_k", "_law_cell", "_law_taken", "_law_behind", "_law_much", "_law_leaf", "_law_tree"]) rfl rfl (by decide +kernel)) rfl (di_any (de 8)) tests_no (fun s H fp pn => (de_ix (de 0) de_int (fun _ _ => rfl)))) (da_cons (de 2) (da_cons (de 3) da_nil))))))))
    (db_one (ds_expr (de_append 4 (da_cons (de_tup (da_cons (de 11) (da_cons (de_add de_int (de_maxL rfl rfl B.max_ (da_cons (de_comp (comp_ok (M := ["_law_script", "_law_many", "_law_rows", "_law_columns", "_law_stack", "_law_k", "_law_cell", "_law_taken", "_law_behind", "_law_much", "_law_leaf", "_law_tree"]) (sc := defScope (top 14)) (N := ["_law_script", "_law_many", "_law_rows", "_law_columns", "_law_stack", "_law_k", "_law_cell", "_law_taken", "_law_behind", "_law_much", "_law_leaf", "_law_tree"]) rfl rfl (by decide +kernel)) rfl (di_any (de 8)) tests_no (fun s H fp pn => (de_ix (de 0) de_int (fun _ _ => rfl)))) da_nil))) (da_cons (de 9) da_nil)))) da_nil)))))))))))))
    (db_one (ds_ret (de_pure (de_ix (de_ix (de 4) (de_neg de_int) (fun _ _ => rfl)) de_int (fun _ _ => rfl))))))))
theorem sc_q_copy : FnScope ["_law_tree"] ["_law_tree"] (defScope (top 20)) := ⟨rfl, rfl, rfl, by decide +kernel, rfl, by decide +kernel, by decide +kernel⟩
theorem ok_q_copy (B : Blt mg) (C : Cst K mg) {f : Addr} {fd : FuncData} (F : Fun K "_law_copy" "_law_copy" (top 20) f fd) (b : Binds K fd ["_law_tree"] []) (hm : mg "_law_copy" = some (.ref f)) : ∀ n : Nat, FnD P w K mg base "_law_copy" (0 + n) ["_law_tree"] [] (r_q_copy n)
  | 0 => fnD_none F b hm _
  | n + 1 => by
    have G_q_copy := ok_q_copy B C F b hm n
    have SC := sc_q_copy
    refine fnD_mk (n := 1) (m := 1) (k := 0 + n) F SC rfl rfl b hm fun cdv A outer s H E hr => ?_
    exact (db_cons (ds_if (dt_cmp (q_eq (hu_of2 hr)) (de_ix (de 0) de_int (fun _ _ => rfl)) de_str (nomark _)) (db_one (ds_ret (de_tup (da_cons de_str (da_cons (de_ix (de 0) de_int (fun _ _ => rfl)) (da_cons (de_comp (comp_ok (M := ["_law_tree"]) (sc := defScope (top 20)) (N := ["_law_tree"]) rfl rfl (by decide +kernel)) rfl (di_any (de_ix (de 0) de_int (fun _ _ => rfl))) tests_no (fun s H fp pn => (de_call G_q_copy (hr.mono (by omega)) rfl (da_cons (de 0) da_nil)))) da_nil)))))) db_nil)
    (db_cons (ds_if (dt_cmp (q_eq (hu_of2 hr)) (de_ix (de 0) de_int (fun _ _ => rfl)) de_str (nomark _)) (db_one (ds_ret (de_tup (da_cons de_str (da_cons (de_call G_q_copy (hr.mono (by omega)) rfl (da_cons (de_ix (de 0) de_int (fun _ _ => rfl)) da_nil)) da_nil))))) db_nil)
    (db_cons (ds_if (dt_cmp (q_eq (hu_of2 hr)) (de_ix (de 0) de_int (fun _ _ => rfl)) de_str (nomark _)) (db_one (ds_ret (de_tup (da_cons de_str (da_cons (de_ix (de 0) de_int (fun _ _ => rfl)) (da_cons (de_call G_q_copy (hr.mono (by omega)) rfl (da_cons (de_ix (de 0) de_int (fun _ _ => rfl)) da_nil)) (da_cons (de_call G_q_copy (hr.mono (by omega)) rfl (da_cons (de_ix (de 0) de_int (fun _ _ => rfl)) da_nil)) da_nil))))))) db_nil)
    (db_cons (ds_if (dt_cmp (q_eq (hu_of2 hr)) (de_ix (de 0) de_int (fun _ _ => rfl)) de_str (nomark _)) (db_one (ds_ret (de_tup (da_cons de_str (da_cons (de_call G_q_copy (hr.mono (by omega)) rfl (da_cons (de_ix (de 0) de_int (fun _ _ => rfl)) da_nil)) (da_cons (de_call G_q_copy (hr.mono (by omega)) rfl (da_cons (de_ix (de 0) de_int (fun _ _ => rfl)) da_nil)) (da_cons (de_call G_q_copy (hr.mono (by omega)) rfl (da_cons (de_ix (de 0) de_int (fun _ _ => rfl)) da_nil)) da_nil))))))) db_nil)
    (db_one (ds_retV 0))))))
theorem sc_with_number : FnScope ["place", "axis", "number"] ["place", "axis", "number"] (defScope (top 6)) := ⟨rfl, rfl, rfl, by decide +kernel, rfl, by decide +kernel, by decide +kernel⟩
theorem ok_with_number (B : Blt mg) (C : Cst K mg) {f : Addr} {fd : FuncData} (F : Fun K "with_number" "with_number" (top 6) f fd) (b : Binds K fd ["place", "axis", "number"] []) (hm : mg "with_number" = some (.ref f)) : FnD P w K mg base "with_number" 1 ["place", "axis", "number"] [] r_with_number := by
  have SC := sc_with_number
  refine fnD_mk (n := 3) (m := 3) (k := 0) F SC rfl rfl b hm fun cdv A outer s H E hr => ?_
  exact (db_cons (ds_if (dt_cmp (q_eq (hu_of2 hr)) (de 1) de_int (nomark _)) (db_one (ds_ret (de_tup (da_cons (de 2) (da_cons (de_ix (de 0) de_int (fun _ _ => rfl)) da_nil))))) db_nil)
    (db_one (ds_ret (de_tup (da_cons (de_ix (de 0) de_int (fun _ _ => rfl)) (da_cons (de 2) da_nil))))))
theorem sc_come_place : FnScope ["place", "axis", "at", "many"] ["place", "axis", "at", "many"] (defScope (top 5)) := ⟨rfl, rfl, rfl, by decide +kernel, rfl, by decide +kernel, by decide +kernel⟩
theorem ok_come_place (B : Blt mg) (C : Cst K mg) (G_with_number : FnD P w K mg base "with_number" 1 ["place", "axis", "number"] [] r_with_number) {f : Addr} {fd : FuncData} (F : Fun K "come_place" "come_place" (top 5) f fd) (b : Binds K fd ["place", "axis", "at", "many"] []) (hm : mg "come_place" = some (.ref f)) : FnD P w K mg base "come_place" 2 ["place", "axis", "at", "many"] [] r_come_place := by
  have SC := sc_come_place
  refine fnD_mk (n := 4) (m := 4) (k := 1) F SC rfl rfl b hm fun cdv A outer s H E hr => ?_
  exact (db_cons (ds_if (dt_cmp q_lt (de_ix (de 0) (de 1) (fun _ _ => rfl)) (de 2) (nomark _)) (db_one (ds_retV 0)) db_nil)
    (db_one (ds_ret (de_call G_with_number (hr.mono (by omega)) rfl (da_cons (de 0) (da_cons (de 1) (da_cons (de_add (de_ix (de 0) (de 1) (fun _ _ => rfl)) (de 3)) da_nil)))))))
theorem sc_with_parts : FnScope ["tree", "others", "kind"] ["tree", "others"] (defScope (top 3)) := ⟨rfl, rfl, rfl, by decide +kernel, rfl, by decide +kernel, by decide +kernel⟩
theorem ok_with_parts (B : Blt mg) (C : Cst K mg) {f : Addr} {fd : FuncData} (F : Fun K "with_parts" "with_parts" (top 3) f fd) (b : Binds K fd ["tree", "others"] []) (hm : mg "with_parts" = some (.ref f)) : FnD P w K mg base "with_parts" 1 ["tree", "others"] [] r_with_parts := by
  have SC := sc_with_parts
  refine fnD_mk (n := 3) (m := 2) (k := 0) F SC rfl rfl b hm fun cdv A outer s H E hr => ?_
  exact (db_cons (ds_set (i := 2) SC.nd rfl (by first | exact Or.inl rfl | exact Or.inr rfl) (de_ix (de 0) de_int (fun _ _ => rfl)))
    (db_cons (ds_if (dt_cmp (q_in (hu_of2 hr)) (de 2) (de_gl C.LEAF_KINDS rfl) (by with_unfolding_all rfl)) (db_one (ds_retV 0)) db_nil)
    (db_cons (ds_if (dt_cmp (q_eq (hu_of2 hr)) (de 2) de_str (nomark _)) (db_one (ds_ret (de_tup (da_cons de_str (da_cons (de_ix (de 0) de_int (fun _ _ => rfl)) (da_cons (de_list_ rfl B.list_ (da_cons (de 1) da_nil)) da_nil)))))) db_nil)
    (db_cons (ds_if (dt_cmp (q_eq (hu_of2 hr)) (de 2) de_str (nomark _)) (db_one (ds_ret (de_tup (da_cons de_str (da_cons (de_ix (de 0) de_int (fun _ _ => rfl)) (da_cons (de_ix (de 1) de_int (fun _ _ => rfl)) (da_cons (de_ix (de 1) de_int (fun _ _ => rfl)) da_nil))))))) db_nil)
    (db_one (ds_ret (de_addT (de_tup (da_cons (de 2) da_nil)) (de_tuple_ rfl B.tuple_ (da_cons (de 1) da_nil)))))))))
theorem sc_parts : FnScope ["tree", "kind"] ["tree"] (defScope (top 2)) := ⟨rfl, rfl, rfl, by decide +kernel, rfl, by decide +kernel, by decide +kernel⟩
theorem ok_parts (B : Blt mg) (C : Cst K mg) {f : Addr} {fd : FuncData} (F : Fun K "parts" "parts" (top 2) f fd) (b : Binds K fd ["tree"] []) (hm : mg "parts" = some (.ref f)) : FnD P w K mg base "parts" 1 ["tree"] [] r_parts := by
  have SC := sc_parts
  refine fnD_mk (n := 2) (m := 1) (k := 0) F SC rfl rfl b hm fun cdv A outer s H E hr => ?_
  exact (db_cons (ds_set (i := 1) SC.nd rfl (by first | exact Or.inl rfl | exact Or.inr rfl) (de_ix (de 0) de_int (fun _ _ => rfl)))
    (db_cons (ds_if (dt_cmp (q_in (hu_of2 hr)) (de 1) (de_gl C.LEAF_KINDS rfl) (by with_unfolding_all rfl)) (db_one (ds_ret (de_lst da_nil))) db_nil)
    (db_cons (ds_if (dt_cmp (q_eq (hu_of2 hr)) (de 1) de_str (nomark _)) (db_one (ds_ret (de_list_ rfl B.list_ (da_cons (de_ix (de 0) de_int (fun _ _ => rfl)) da_nil)))) db_nil)
    (db_cons (ds_if (dt_cmp (q_eq (hu_of2 hr)) (de 1) de_str (nomark _)) (db_one (ds_ret (de_lst (da_cons (de_ix (de 0) de_int (fun _ _ => rfl)) (da_cons (de_ix (de 0) de_int (fun _ _ => rfl)) da_nil))))) db_nil)
    (db_one (ds_ret (de_list_ rfl B.list_ (da_cons (de_slS (de 0) (dp_some de_int) dp_none) da_nil))))))))
theorem sc_come_tree : FnScope ["tree", "axis", "at", "many"] ["tree", "axis", "at", "many"] (defScope (top 7)) := ⟨rfl, rfl, rfl, by decide +kernel, rfl, by decide +kernel, by decide +kernel⟩
theorem ok_come_tree (B : Blt mg) (C : Cst K mg) (G_come_place : FnD P w K mg base "come_place" 2 ["place", "axis", "at", "many"] [] r_come_place) (G_with_parts : FnD P w K mg base "with_parts" 1 ["tree", "others"] [] r_with_parts) (G_parts : FnD P w K mg base "parts" 1 ["tree"] [] r_parts) {f : Addr} {fd : FuncData} (F : Fun K "come_tree" "come_tree" (top 7) f fd) (b : Binds K fd ["tree", "axis", "at", "many"] []) (hm : mg "come_tree" = some (.ref f)) : ∀ n : Nat, FnD P w K mg base "come_tree" (2 + n) ["tree", "axis", "at", "many"] [] (r_come_tree n)
  | 0 => fnD_none F b hm _
  | n + 1 => by
    have G_come_tree := ok_come_tree B C G_come_place G_with_parts G_parts F b hm n
    have SC := sc_come_tree
    refine fnD_mk (n := 4) (m := 4) (k := 2 + n) F SC rfl rfl b hm fun cdv A outer s H E hr => ?_
    exact (db_cons (ds_if (dt_cmp (q_eq (hu_of2 hr)) (de_ix (de 0) de_int (fun _ _ => rfl)) de_str (nomark _)) (db_one (ds_ret (de_tup (da_cons de_str (da_cons (de_call G_come_place (hr.mono (by omega)) rfl (da_cons (de_ix (de 0) de_int (fun _ _ => rfl)) (da_cons (de 1) (da_cons (de 2) (da_cons (de 3) da_nil))))) (da_cons (de_ix (de 0) de_int (fun _ _ => rfl)) da_nil)))))) db_nil)
    (db_cons (ds_if (dt_cmp (q_eq (hu_of2 hr)) (de_ix (de 0) de_int (fun _ _ => rfl)) de_str (nomark _)) (db_one (ds_ret (de_tup (da_cons de_str (da_cons (de_call G_come_tree (hr.mono (by omega)) rfl (da_cons (de_ix (de 0) de_int (fun _ _ => rfl)) (da_cons (de 1) (da_cons (de 2) (da_cons (de 3) da_nil))))) (da_cons (de_call G_come_tree (hr.mono (by omega)) rfl (da_cons (de_ix (de 0) de_int (fun _ _ => rfl)) (da_cons (de 1) (da_cons (de 2) (da_cons (de 3) da_nil))))) da_nil)))))) db_nil)
    (db_one (ds_ret (de_call G_with_parts (hr.mono (by omega)) rfl (da_cons (de 0) (da_cons (de_comp (comp_ok (M := ["tree", "axis", "at", "many"]) (sc := defScope (top 7)) (N := ["tree", "axis", "at", "many"]) rfl rfl (by decide +kernel)) rfl (di_any (de_call G_parts (hr.mono (by omega)) rfl (da_cons (de 0) da_nil))) tests_no (fun s H fp pn => (de_call G_come_tree (hr.mono (by omega)) rfl (da_cons (de 0) (da_cons (de 2) (da_cons (de 3) (da_cons (de 4) da_nil))))))) da_nil)))))))
theorem sc_q_whole : FnScope ["_law_found"] ["_law_found"] (defScope (top 16)) := ⟨rfl, rfl, rfl, by decide +kernel, rfl, by decide +kernel, by decide +kernel⟩
theorem ok_q_whole (B : Blt mg) (C : Cst K mg) {f : Addr} {fd : FuncData} (F : Fun K "_law_whole" "_law_whole" (top 16) f fd) (b : Binds K fd ["_law_found"] []) (hm : mg "_law_whole" = some (.ref f)) : FnD P w K mg base "_law_whole" 1 ["_law_found"] [] r_q_whole := by
  have SC := sc_q_whole
  refine fnD_mk (n := 1) (m := 1) (k := 0) F SC rfl rfl b hm fun cdv A outer s H E hr => ?_
  exact (db_one (ds_ret (de_and (de_isi rfl B.isinstance_ (da_cons (de 0) (da_cons (de_ty rfl B.int_ bo_int) da_nil))) (de_one (de_not (de_isi rfl B.isinstance_ (da_cons (de 0) (da_cons (de_ty rfl B.bool_ bo_bool) da_nil))))))))
theorem sc_q_good_ref : FnScope ["_law_tree", "_law_pair"] ["_law_tree"] (defScope (top 17)) := ⟨rfl, rfl, rfl, by decide +kernel, rfl, by decide +kernel, by decide +kernel⟩
theorem ok_q_good_ref (B : Blt mg) (C : Cst K mg) (G_q_whole : FnD P w K mg base "_law_whole" 1 ["_law_found"] [] r_q_whole) {f : Addr} {fd : FuncData} (F : Fun K "_law_good_ref" "_law_good_ref" (top 17) f fd) (b : Binds K fd ["_law_tree"] []) (hm : mg "_law_good_ref" = some (.ref f)) : FnD P w K mg base "_law_good_ref" 2 ["_law_tree"] [] r_q_good_ref := by
  have SC := sc_q_good_ref
  refine fnD_mk (n := 2) (m := 1) (k := 1) F SC rfl rfl b hm fun cdv A outer s H E hr => ?_
  exact (db_cons (ds_if (dw (dw_or (dt_not (dt_truth (de_isi rfl B.isinstance_ (da_cons (de 0) (da_cons (de_ty rfl B.tuple_ bo_tuple) da_nil))) (fun _ => rfl))) (dw_or (dt_cmp (q_ne (hu_of2 hr)) (de_len rfl B.len_ (da_cons (de 0) da_nil)) de_int (nomark _)) (dw_or1 (dt_cmp (q_ne (hu_of2 hr)) (de_ix (de 0) de_int (fun _ _ => rfl)) de_str (nomark _)))))) (db_one (ds_ret de_bl)) db_nil)
    (db_cons (ds_for (i := 1) SC.nd rfl (by first | exact Or.inl rfl | exact Or.inr rfl) rfl (di_any (de_slS (de 0) (dp_some de_int) dp_none)) (db_one (ds_if (dw (dw_or (dt_not (dt_truth (de_isi rfl B.isinstance_ (da_cons (de 1) (da_cons (de_ty rfl B.tuple_ bo_tuple) da_nil))) (fun _ => rfl))) (dw_or1 (dt_cmp (q_ne (hu_of2 hr)) (de_len rfl B.len_ (da_cons (de 1) da_nil)) de_int (nomark _))))) (db_one (ds_ret de_bl)) db_nil)))
    (db_one (ds_ret (de_and (de_all rfl rfl B.all_ (da_cons (de_comp (comp_ok (M := ["_law_tree", "_law_pair"]) (sc := defScope (top 17)) (N := ["_law_tree", "_law_pair"]) rfl rfl (by decide +kernel)) rfl (di_any (de_ix (de 0) de_int (fun _ _ => rfl))) tests_no (fun s H fp pn => (de_call G_q_whole (hr.mono (by omega)) rfl (da_cons (de 0) da_nil)))) da_nil)) (de_one (de_all rfl rfl B.all_ (da_cons (de_comp (comp_ok (M := ["_law_tree", "_law_pair"]) (sc := defScope (top 17)) (N := ["_law_tree", "_law_pair"]) rfl rfl (by decide +kernel)) rfl (di_any (de_ix (de 0) de_int (fun _ _ => rfl))) tests_no (fun s H fp pn => (de_isi rfl B.isinstance_ (da_cons (de 0) (da_cons (de_ty rfl B.bool_ bo_bool) da_nil))))) da_nil))))))))
theorem sc_q_good : FnScope ["_law_tree"] ["_law_tree"] (defScope (top 18)) := ⟨rfl, rfl, rfl, by decide +kernel, rfl, by decide +kernel, by decide +kernel⟩
theorem ok_q_good (B : Blt mg) (C : Cst K mg) (G_q_whole : FnD P w K mg base "_law_whole" 1 ["_law_found"] [] r_q_whole) (G_q_good_ref : FnD P w K mg base "_law_good_ref" 2 ["_law_tree"] [] r_q_good_ref) {f : Addr} {fd : FuncData} (F : Fun K "_law_good" "_law_good" (top 18) f fd) (b : Binds K fd ["_law_tree"] []) (hm : mg "_law_good" = some (.ref f)) : ∀ n : Nat, FnD P w K mg base "_law_good" (2 + n) ["_law_tree"] [] (r_q_good n)
  | 0 => fnD_none F b hm _
  | n + 1 => by
    have G_q_good := ok_q_good B C G_q_whole G_q_good_ref F b hm n
    have SC := sc_q_good
    refine fnD_mk (n := 1) (m := 1) (k := 2 + n) F SC rfl rfl b hm fun cdv A outer s H E hr => ?_
    exact (db_cons (ds_if (dw (dw_or (dt_not (dt_truth (de_isi rfl B.isinstance_ (da_cons (de 0) (da_cons (de_ty rfl B.tuple_ bo_tuple) da_nil))) (fun _ => rfl))) (dw_or (dt_cmp (q_eq (hu_of2 hr)) (de_len rfl B.len_ (da_cons (de 0) da_nil)) de_int (nomark _)) (dw_or1 (dt_not (dt_truth (de_isi rfl B.isinstance_ (da_cons (de_ix (de 0) de_int (fun _ _ => rfl)) (da_cons (de_ty rfl B.str_ bo_str) da_nil))) (fun _ => rfl))))))) (db_one (ds_ret de_bl)) db_nil)
    (db_cons (ds_if (dt_cmp (q_eq (hu_of2 hr)) (de_ix (de 0) de_int (fun _ _ => rfl)) de_str (nomark _)) (db_one (ds_ret (de_and (de_cmp (q_eq (hu_of2 hr)) (de_len rfl B.len_ (da_cons (de 0) da_nil)) de_int (nomark _)) (de_one (de_call G_q_whole (hr.mono (by omega)) rfl (da_cons (de_ix (de 0) de_int (fun _ _ => rfl)) da_nil)))))) db_nil)
    (db_cons (ds_if (dt_cmp (q_eq (hu_of2 hr)) (de_ix (de 0) de_int (fun _ _ => rfl)) de_str (nomark _)) (db_one (ds_ret (de_cmp (q_eq (hu_of2 hr)) (de_len rfl B.len_ (da_cons (de 0) da_nil)) de_int (nomark _)))) db_nil)
    (db_cons (ds_if (dt_cmp (q_eq (hu_of2 hr)) (de_ix (de 0) de_int (fun _ _ => rfl)) de_str (nomark _)) (db_one (ds_ret (de_call G_q_good_ref (hr.mono (by omega)) rfl (da_cons (de 0) da_nil)))) db_nil)
    (db_cons (ds_if (dt_cmp (q_eq (hu_of2 hr)) (de_ix (de 0) de_int (fun _ _ => rfl)) de_str (nomark _)) (db_one (ds_ret (de_and (de_cmp (q_eq (hu_of2 hr)) (de_len rfl B.len_ (da_cons (de 0) da_nil)) de_int (nomark _)) (de_and (de_call G_q_good_ref (hr.mono (by omega)) rfl (da_cons (de_ix (de 0) de_int (fun _ _ => rfl)) da_nil)) (de_one (de_call G_q_good_ref (hr.mono (by omega)) rfl (da_cons (de_ix (de 0) de_int (fun _ _ => rfl)) da_nil))))))) db_nil)
    (db_cons (ds_if (dt_cmp (q_eq (hu_of2 hr)) (de_ix (de 0) de_int (fun _ _ => rfl)) de_str (nomark _)) (db_one (ds_ret (de_and (de_cmp (q_eq (hu_of2 hr)) (de_len rfl B.len_ (da_cons (de 0) da_nil)) de_int (nomark _)) (de_one (de_call G_q_good (hr.mono (by omega)) rfl (da_cons (de_ix (de 0) de_int (fun _ _ => rfl)) da_nil)))))) db_nil)
    (db_cons (ds_if (dt_cmp (q_eq (hu_of2 hr)) (de_ix (de 0) de_int (fun _ _ => rfl)) de_str (nomark _)) (db_one (ds_ret (de_and (de_cmp (q_eq (hu_of2 hr)) (de_len rfl B.len_ (da_cons (de 0) da_nil)) de_int (nomark _)) (de_one (de_all rfl rfl B.all_ (da_cons (de_comp (comp_ok (M := ["_law_tree"]) (sc := defScope (top 18)) (N := ["_law_tree"]) rfl rfl (by decide +kernel)) rfl (di_any (de_slS (de 0) (dp_some de_int) dp_none)) tests_no (fun s H fp pn => (de_call G_q_good (hr.mono (by omega)) rfl (da_cons (de 0) da_nil)))) da_nil)))))) db_nil)
    (db_cons (ds_if (dt_cmp (q_eq (hu_of2 hr)) (de_ix (de 0) de_int (fun _ _ => rfl)) de_str (nomark _)) (db_one (ds_ret (de_and (de_cmp (q_eq (hu_of2 hr)) (de_len rfl B.len_ (da_cons (de 0) da_nil)) de_int (nomark _)) (de_and (de_isi rfl B.isinstance_ (da_cons (de_ix (de 0) de_int (fun _ _ => rfl)) (da_cons (de_ty rfl B.str_ bo_str) da_nil))) (de_and (de_call G_q_good (hr.mono (by omega)) rfl (da_cons (de_ix (de 0) de_int (fun _ _ => rfl)) da_nil)) (de_one (de_call G_q_good (hr.mono (by omega)) rfl (da_cons (de_ix (de 0) de_int (fun _ _ => rfl)) da_nil)))))))) db_nil)
    (db_cons (ds_if (dw (dw_or (dt_cmp (q_ne (hu_of2 hr)) (de_ix (de 0) de_int (fun _ _ => rfl)) de_str (nomark _)) (dw_or (dt_cmp (q_ne (hu_of2 hr)) (de_len rfl B.len_ (da_cons (de 0) da_nil)) de_int (nomark _)) (dw_or (dt_not (dt_truth (de_isi rfl B.isinstance_ (da_cons (de_ix (de 0) de_int (fun _ _ => rfl)) (da_cons (de_ty rfl B.str_ bo_str) da_nil))) (fun _ => rfl))) (dw_or1 (dt_not (dt_truth (de_isi rfl B.isinstance_ (da_cons (de_ix (de 0) de_int (fun _ _ => rfl)) (da_cons (de_ty rfl B.list_ bo_list) da_nil))) (fun _ => rfl)))))))) (db_one (ds_ret de_bl)) db_nil)
    (db_one (ds_ret (de_all rfl rfl B.all_ (da_cons (de_comp (comp_ok (M := ["_law_tree"]) (sc := defScope (top 18)) (N := ["_law_tree"]) rfl rfl (by decide +kernel)) rfl (di_any (de_ix (de 0) de_int (fun _ _ => rfl))) tests_no (fun s H fp pn => (de_call G_q_good (hr.mono (by omega)) rfl (da_cons (de 0) da_nil)))) da_nil)))))))))))))
theorem sc_q_items : FnScope ["_law_tree", "_law_found", "_law_part"] ["_law_tree"] (defScope (top 15)) := ⟨rfl, rfl, rfl, by decide +kernel, rfl, by decide +kernel, by decide +kernel⟩
theorem ok_q_items (B : Blt mg) (C : Cst K mg) {f : Addr} {fd : FuncData} (F : Fun K "_law_items" "_law_items" (top 15) f fd) (b : Binds K fd ["_law_tree"] []) (hm : mg "_law_items" = some (.ref f)) : ∀ n : Nat, FnD P w K mg base "_law_items" (0 + n) ["_law_tree"] [] (r_q_items n)
  | 0 => fnD_none F b hm _
  | n + 1 => by
    have G_q_items := ok_q_items B C F b hm n
    have SC := sc_q_items
    refine fnD_mk (n := 3) (m := 1) (k := 0 + n) F SC rfl rfl b hm fun cdv A outer s H E hr => ?_
    exact (db_cons (ds_if (dt_cmp (q_eq (hu_of2 hr)) (de_ix (de 0) de_int (fun _ _ => rfl)) de_str (nomark _)) (db_one (ds_ret (de_add (de_lst (da_cons (de_tup (da_cons de_str da_nil)) da_nil)) (de_call G_q_items (hr.mono (by omega)) rfl (da_cons (de_ix (de 0) de_int (fun _ _ => rfl)) da_nil))))) db_nil)
    (db_cons (ds_if (dt_cmp (q_eq (hu_of2 hr)) (de_ix (de 0) de_int (fun _ _ => rfl)) de_str (nomark _)) (db_one (ds_ret (de_add (de_add (de_lst (da_cons (de_tup (da_cons de_str (da_cons (de_ix (de 0) de_int (fun _ _ => rfl)) da_nil))) da_nil)) (de_call G_q_items (hr.mono (by omega)) rfl (da_cons (de_ix (de 0) de_int (fun _ _ => rfl)) da_nil))) (de_call G_q_items (hr.mono (by omega)) rfl (da_cons (de_ix (de 0) de_int (fun _ _ => rfl)) da_nil))))) db_nil)
    (db_cons (ds_if (dt_cmp (q_eq (hu_of2 hr)) (de_ix (de 0) de_int (fun _ _ => rfl)) de_str (nomark _)) (db_one (ds_ret (de_add (de_add (de_add (de_lst (da_cons (de_tup (da_cons de_str da_nil)) da_nil)) (de_call G_q_items (hr.mono (by omega)) rfl (da_cons (de_ix (de 0) de_int (fun _ _ => rfl)) da_nil))) (de_call G_q_items (hr.mono (by omega)) rfl (da_cons (de_ix (de 0) de_int (fun _ _ => rfl)) da_nil))) (de_call G_q_items (hr.mono (by omega)) rfl (da_cons (de_ix (de 0) de_int (fun _ _ => rfl)) da_nil))))) db_nil)
    (db_cons (ds_if (dt_cmp (q_ne (hu_of2 hr)) (de_ix (de 0) de_int (fun _ _ => rfl)) de_str (nomark _)) (db_one (ds_ret (de_lst (da_cons (de 0) da_nil)))) db_nil)
    (db_cons (ds_set (i := 1) SC.nd rfl (by first | exact Or.inl rfl | exact Or.inr rfl) (de_lst (da_cons (de_tup (da_cons de_str (da_cons (de_ix (de 0) de_int (fun _ _ => rfl)) (da_cons (de_len rfl B.len_ (da_cons (de_ix (de 0) de_int (fun _ _ => rfl)) da_nil)) da_nil)))) da_nil)))
    (db_cons (ds_for (i := 2) SC.nd rfl (by first | exact Or.inl rfl | exact Or.inr rfl) rfl (di_any (de_ix (de 0) de_int (fun _ _ => rfl))) (db_one (ds_set (i := 1) SC.nd rfl (by first | exact Or.inl rfl | exact Or.inr rfl) (de_add (de 1) (de_call G_q_items (hr.mono (by omega)) rfl (da_cons (de 2) da_nil))))))
    (db_one (ds_retV 1))))))))
theorem sc_q_come_by : FnScope ["_law_place", "_law_axis", "_law_at", "_law_many", "_law_row", "_law_column"] ["_law_place", "_law_axis", "_law_at", "_law_many"] (defScope (top 19)) := ⟨rfl, rfl, rfl, by decide +kernel, rfl, by decide +kernel, by decide +kernel⟩
theorem ok_q_come_by (B : Blt mg) (C : Cst K mg) {f : Addr} {fd : FuncData} (F : Fun K "_law_come_by" "_law_come_by" (top 19) f fd) (b : Binds K fd ["_law_place", "_law_axis", "_law_at", "_law_many"] []) (hm : mg "_law_come_by" = some (.ref f)) : FnD P w K mg base "_law_come_by" 1 ["_law_place", "_law_axis", "_law_at", "_law_many"] [] r_q_come_by := by
  have SC := sc_q_come_by
  refine fnD_mk (n := 6) (m := 4) (k := 0) F SC rfl rfl b hm fun cdv A outer s H E hr => ?_
  exact (db_cons (ds_set (i := 4) SC.nd rfl (by first | exact Or.inl rfl | exact Or.inr rfl) (de_ix (de 0) de_int (fun _ _ => rfl)))
    (db_cons (ds_set (i := 5) SC.nd rfl (by first | exact Or.inl rfl | exact Or.inr rfl) (de_ix (de 0) de_int (fun _ _ => rfl)))
    (db_cons (ds_if (dw (dw_and (dt_cmp (q_eq (hu_of2 hr)) (de 1) de_int (nomark _)) (dw_and1 (dt_cmp q_ge (de 4) (de 2) (nomark _))))) (db_one (ds_set (i := 4) SC.nd rfl (by first | exact Or.inl rfl | exact Or.inr rfl) (de_add (de 4) (de 3)))) db_nil)
    (db_cons (ds_if (dw (dw_and (dt_cmp (q_eq (hu_of2 hr)) (de 1) de_int (nomark _)) (dw_and1 (dt_cmp q_ge (de 5) (de 2) (nomark _))))) (db_one (ds_set (i := 5) SC.nd rfl (by first | exact Or.inl rfl | exact Or.inr rfl) (de_add (de 5) (de 3)))) db_nil)
    (db_one (ds_ret (de_tup (da_cons (de 4) (da_cons (de 5) da_nil)))))))))
theorem sc_q_leaf_came : FnScope ["_law_found", "_law_due", "_law_axis", "_law_at", "_law_many", "_law_first"] ["_law_found", "_law_due", "_law_axis", "_law_at", "_law_many"] (defScope (top 21)) := ⟨rfl, rfl, rfl, by decide +kernel, rfl, by decide +kernel, by decide +kernel⟩
theorem ok_q_leaf_came (B : Blt mg) (C : Cst K mg) (G_q_come_by : FnD P w K mg base "_law_come_by" 1 ["_law_place", "_law_axis", "_law_at", "_law_many"] [] r_q_come_by) {f : Addr} {fd : FuncData} (F : Fun K "_law_leaf_came" "_law_leaf_came" (top 21) f fd) (b : Binds K fd ["_law_found", "_law_due", "_law_axis", "_law_at", "_law_many"] []) (hm : mg "_law_leaf_came" = some (.ref f)) : FnD P w K mg base "_law_leaf_came" 2 ["_law_found", "_law_due", "_law_axis", "_law_at", "_law_many"] [] r_q_leaf_came := by
  have SC := sc_q_leaf_came
  refine fnD_mk (n := 6) (m := 5) (k := 1) F SC rfl rfl b hm fun cdv A outer s H E hr => ?_
  exact (db_cons (ds_if (dt_cmp (q_eq (hu_of2 hr)) (de_ix (de 1) de_int (fun _ _ => rfl)) de_str (nomark _)) (db_one (ds_ret (de_cmp (q_eq (hu_of2 hr)) (de 0) (de_tup (da_cons de_str (da_cons (de_call G_q_come_by (hr.mono (by omega)) rfl (da_cons (de_ix (de 1) de_int (fun _ _ => rfl)) (da_cons (de 2) (da_cons (de 3) (da_cons (de 4) da_nil))))) (da_cons (de_ix (de 1) de_int (fun _ _ => rfl)) da_nil)))) (nomark _)))) db_nil)
    (db_cons (ds_if (dt_cmp (q_eq (hu_of2 hr)) (de_ix (de 1) de_int (fun _ _ => rfl)) de_str (nomark _)) (db_cons (ds_set (i := 5) SC.nd rfl (by first | exact Or.inl rfl | exact Or.inr rfl) (de_tup (da_cons de_str (da_cons (de_call G_q_come_by (hr.mono (by omega)) rfl (da_cons (de_ix (de_ix (de 1) de_int (fun _ _ => rfl)) de_int (fun _ _ => rfl)) (da_cons (de 2) (da_cons (de 3) (da_cons (de 4) da_nil))))) (da_cons (de_ix (de_ix (de 1) de_int (fun _ _ => rfl)) de_int (fun _ _ => rfl)) da_nil)))))
    (db_one (ds_ret (de_cmp (q_eq (hu_of2 hr)) (de 0) (de_tup (da_cons de_str (da_cons (de 5) (da_cons (de_tup (da_cons de_str (da_cons (de_call G_q_come_by (hr.mono (by omega)) rfl (da_cons (de_ix (de_ix (de 1) de_int (fun _ _ => rfl)) de_int (fun _ _ => rfl)) (da_cons (de 2) (da_cons (de 3) (da_cons (de 4) da_nil))))) (da_cons (de_ix (de_ix (de 1) de_int (fun _ _ => rfl)) de_int (fun _ _ => rfl)) da_nil)))) da_nil)))) (nomark _))))) db_nil)
    (db_one (ds_ret (de_cmp (q_eq (hu_of2 hr)) (de 0) (de 1) (nomark _))))))
theorem sc_law : FnScope ["_law_script", "_law_limits", "_law_tree", "_law_axis", "_law_at", "_law_many", "_law_handed", "_law_found", "_law_items_here", "_law_due", "_law_other"] ["_law_script"] (defScope (top 22)) := ⟨rfl, rfl, rfl, by decide +kernel, rfl, by decide +kernel, by decide +kernel⟩
theorem ok_law (B : Blt mg) (C : Cst K mg) (G_q_cell_at : FnD P w K mg base "_law_cell_at" 1 ["_law_script", "_law_k"] [] r_q_cell_at) (G_q_tree_by : FnD P w K mg base "_law_tree_by" 4 ["_law_script", "_law_many", "_law_rows", "_law_columns"] [] r_q_tree_by) (G_q_copy : FnD P w K mg base "_law_copy" 40 ["_law_tree"] [] (r_q_copy 40)) (G_come_tree : FnD P w K mg base "come_tree" 42 ["tree", "axis", "at", "many"] [] (r_come_tree 40)) (G_q_good : FnD P w K mg base "_law_good" 42 ["_law_tree"] [] (r_q_good 40)) (G_q_items : FnD P w K mg base "_law_items" 40 ["_law_tree"] [] (r_q_items 40)) (G_q_leaf_came : FnD P w K mg base "_law_leaf_came" 2 ["_law_found", "_law_due", "_law_axis", "_law_at", "_law_many"] [] r_q_leaf_came) {f : Addr} {fd : FuncData} (F : Fun K "law" "law" (top 22) f fd) : FnOk P w K mg base (CXA P w) 43 f fd ["_law_script"] (spM K [] r_law) := by
  have SC := sc_law
  refine (fnD_ok (n := 11) (m := 1) (k := 42) F SC rfl rfl fun cdv A outer s H E hr => ?_)
  exact (db_cons (ds_set (i := 1) SC.nd rfl (by first | exact Or.inl rfl | exact Or.inr rfl) (de_tup (da_cons de_int (da_cons de_int da_nil))))
    (db_cons (ds_if (dt_cmp (q_eq (hu_of2 hr)) (de_mod (de_call G_q_cell_at (hr.mono (by omega)) rfl (da_cons (de 0) (da_cons de_int da_nil))) de_int) de_int (nomark _)) (db_one (ds_set (i := 1) SC.nd rfl (by first | exact Or.inl rfl | exact Or.inr rfl) (de_tup (da_cons de_int (da_cons de_int da_nil))))) db_nil)
    (db_cons (ds_if (dt_cmp (q_eq (hu_of2 hr)) (de_mod (de_call G_q_cell_at (hr.mono (by omega)) rfl (da_cons (de 0) (da_cons de_int da_nil))) de_int) de_int (nomark _)) (db_one (ds_set (i := 1) SC.nd rfl (by first | exact Or.inl rfl | exact Or.inr rfl) (de_tup (da_cons de_int (da_cons de_int da_nil))))) db_nil)
    (db_cons (ds_set (i := 2) SC.nd rfl (by first | exact Or.inl rfl | exact Or.inr rfl) (de_call G_q_tree_by (hr.mono (by omega)) rfl (da_cons (de 0) (da_cons (de_add de_int (de_mod (de_call G_q_cell_at (hr.mono (by omega)) rfl (da_cons (de 0) (da_cons de_int da_nil))) de_int)) (da_cons (de_ix (de 1) de_int (fun _ _ => rfl)) (da_cons (de_ix (de 1) de_int (fun _ _ => rfl)) da_nil))))))
    (db_cons (ds_set (i := 3) SC.nd rfl (by first | exact Or.inl rfl | exact Or.inr rfl) (de_mod (de_call G_q_cell_at (hr.mono (by omega)) rfl (da_cons (de 0) (da_cons de_int da_nil))) de_int))
    (db_cons (ds_set (i := 4) SC.nd rfl (by first | exact Or.inl rfl | exact Or.inr rfl) (de_mod (de_call G_q_cell_at (hr.mono (by omega)) rfl (da_cons (de 0) (da_cons de_int da_nil))) (de_add (de_ix (de 1) (de 3) (fun _ _ => rfl)) de_int)))
    (db_cons (ds_set (i := 5) SC.nd rfl (by first | exact Or.inl rfl | exact Or.inr rfl) (de_add de_int (de_mod (de_call G_q_cell_at (hr.mono (by omega)) rfl (da_cons (de 0) (da_cons de_int da_nil))) (de_sub (de_ix (de_lst (da_cons de_int (da_cons de_int da_nil))) (de 3) (fun _ _ => rfl)) (de_ix (de 1) (de 3) (fun _ _ => rfl))))))
    (db_cons (ds_set (i := 6) SC.nd rfl (by first | exact Or.inl rfl | exact Or.inr rfl) (de_call G_q_copy (hr.mono (by omega)) rfl (da_cons (de 2) da_nil)))
    (db_cons (ds_set (i := 7) SC.nd rfl (by first | exact Or.inl rfl | exact Or.inr rfl) (de_call G_come_tree (hr.mono (by omega)) rfl (da_cons (de 6) (da_cons (de 3) (da_cons (de 4) (da_cons (de 5) da_nil))))))
    (db_cons (ds_if (dw (dw_or (dt_not (dt_truth (de_call G_q_good (hr.mono (by omega)) rfl (da_cons (de 7) da_nil)) (fun _ => rfl))) (dw_or1 (dt_cmp (q_ne (hu_of2 hr)) (de 6) (de 2) (nomark _))))) (db_one (ds_ret de_bl)) db_nil)
    (db_cons (ds_set (i := 8) SC.nd rfl (by first | exact Or.inl rfl | exact Or.inr rfl) (de_call G_q_items (hr.mono (by omega)) rfl (da_cons (de 7) da_nil)))
    (db_cons (ds_set (i := 9) SC.nd rfl (by first | exact Or.inl rfl | exact Or.inr rfl) (de_call G_q_items (hr.mono (by omega)) rfl (da_cons (de 2) da_nil)))
    (db_cons (ds_if (dt_cmp (q_ne (hu_of2 hr)) (de_len rfl B.len_ (da_cons (de 8) da_nil)) (de_len rfl B.len_ (da_cons (de 9) da_nil)) (nomark _)) (db_one (ds_ret de_bl)) db_nil)
    (db_cons (ds_if (dt_not (dt_truth (de_all rfl rfl B.all_ (da_cons (de_comp (comp_ok (M := ["_law_script", "_law_limits", "_law_tree", "_law_axis", "_law_at", "_law_many", "_law_handed", "_law_found", "_law_items_here", "_law_due", "_law_other"]) (sc := defScope (top 22)) (N := ["_law_script", "_law_limits", "_law_tree", "_law_axis", "_law_at", "_law_many", "_law_handed", "_law_found", "_law_items_here", "_law_due", "_law_other"]) rfl rfl (by decide +kernel)) rfl (di_rng1 rfl B.range_ (da_cons (de_len rfl B.len_ (da_cons (de 9) da_nil)) da_nil)) tests_no (fun s H fp pn => (de_call G_q_leaf_came (hr.mono (by omega)) rfl (da_cons (de_ix (de 9) (de 0) (fun _ _ => rfl)) (da_cons (de_ix (de 10) (de 0) (fun _ _ => rfl)) (da_cons (de 4) (da_cons (de 5) (da_cons (de 6) da_nil)))))))) da_nil)) (fun _ => rfl))) (db_one (ds_ret de_bl)) db_nil)
    (db_cons (ds_set (i := 10) SC.nd rfl (by first | exact Or.inl rfl | exact Or.inr rfl) (de_call G_come_tree (hr.mono (by omega)) rfl (da_cons (de 6) (da_cons (de_sub de_int (de 3)) (da_cons de_int (da_cons de_int da_nil))))))
    (db_one (ds_ret (de_and (de_cmp q_notN (de 10) de_non (nomark _)) (de_and (de_cmp (q_eq (hu_of2 hr)) (de_call G_come_tree (hr.mono (by omega)) rfl (da_cons (de 6) (da_cons (de 3) (da_cons (de 4) (da_cons (de 5) da_nil))))) (de 7) (nomark _)) (de_one (de_cmp (q_eq (hu_of2 hr)) (de 6) (de 2) (nomark _))))))))))))))))))))))
end
theorem all_mk {l : PySem.W.OpenLaw} {w : World} {K : PySem.W.Frag} {h : Heap} {mg : Str → Option Value} {fa : Addr} (X : K.In h) (G : h.Ns mainGlobals mg) (hfa : mg "law" = some (.ref fa))
    {od0 an0 : Option Addr} {sl0 : Array (Option Value)} {oc0 kV0 dc0 pm0 cd0 ct0 : Value} {f0 : Addr}
    {od1 an1 : Option Addr} {sl1 : Array (Option Value)} {oc1 kV1 dc1 pm1 cd1 ct1 : Value} {f1 : Addr}
    {od2 an2 : Option Addr} {sl2 : Array (Option Value)} {oc2 kV2 dc2 pm2 cd2 ct2 : Value} {f2 : Addr}
    {od3 an3 : Option Addr} {sl3 : Array (Option Value)} {oc3 kV3 dc3 pm3 cd3 ct3 : Value} {f3 : Addr}
    {od4 an4 : Option Addr} {sl4 : Array (Option Value)} {oc4 kV4 dc4 pm4 cd4 ct4 : Value} {f4 : Addr}
    {od5 an5 : Option Addr} {sl5 : Array (Option Value)} {oc5 kV5 dc5 pm5 cd5 ct5 : Value} {f5 : Addr}
    {od6 an6 : Option Addr} {sl6 : Array (Option Value)} {oc6 kV6 dc6 pm6 cd6 ct6 : Value} {f6 : Addr}
    {od7 an7 : Option Addr} {sl7 : Array (Option Value)} {oc7 kV7 dc7 pm7 cd7 ct7 : Value} {f7 : Addr}
    {od8 an8 : Option Addr} {sl8 : Array (Option Value)} {oc8 kV8 dc8 pm8 cd8 ct8 : Value} {f8 : Addr}
    {od9 an9 : Option Addr} {sl9 : Array (Option Value)} {oc9 kV9 dc9 pm9 cd9 ct9 : Value} {f9 : Addr}
    {od10 an10 : Option Addr} {sl10 : Array (Option Value)} {oc10 kV10 dc10 pm10 cd10 ct10 : Value} {f10 : Addr}
    {od11 an11 : Option Addr} {sl11 : Array (Option Value)} {oc11 kV11 dc11 pm11 cd11 ct11 : Value} {f11 : Addr}
    {od12 an12 : Option Addr} {sl12 : Array (Option Value)} {oc12 kV12 dc12 pm12 cd12 ct12 : Value} {f12 : Addr}
    {od13 an13 : Option Addr} {sl13 : Array (Option Value)} {oc13 kV13 dc13 pm13 cd13 ct13 : Value} {f13 : Addr}
    {od14 an14 : Option Addr} {sl14 : Array (Option Value)} {oc14 kV14 dc14 pm14 cd14 ct14 : Value} {f14 : Addr}
    {od15 an15 : Option Addr} {sl15 : Array (Option Value)} {oc15 kV15 dc15 pm15 cd15 ct15 : Value} {f15 : Addr}
    {od16 an16 : Option Addr} {sl16 : Array (Option Value)} {oc16 kV16 dc16 pm16 cd16 ct16 : Value} {f16 : Addr}
    {od17 an17 : Option Addr} {sl17 : Array (Option Value)} {oc17 kV17 dc17 pm17 cd17 ct17 : Value} {f17 : Addr}
    {od18 an18 : Option Addr} {sl18 : Array (Option Value)} {oc18 kV18 dc18 pm18 cd18 ct18 : Value} {f18 : Addr}
    {a_0 : Addr} {od_0 : Option Addr} {n_0 : Nat} {sl_0 : Array (Option Value)} {u0_0 : Tok} {u0_1 : Tok} {u0_2 : Tok} {u0_3 : Tok}
    (a0 : PySem.W.nsIn K mainGlobals "_law_cell_at" = some (some (.ref f0))) (l0 : K.lookup f0 = some ⟨oc0, od0, .func (PySem.W.fnOf "_law_cell_at" "_law_cell_at" (defArgs (top 9)) (defBody (top 9)) (defScope (top 9)) .none kV0 dc0 pm0 an0 cd0 ct0), sl0⟩) (c0 : PySem.W.codeIn K cd0 "_law_cell_at" = true) (k0 : PySem.W.keepIn K (.ref f0) = true)
    (a1 : PySem.W.nsIn K mainGlobals "_law_ref_by" = some (some (.ref f1))) (l1 : K.lookup f1 = some ⟨oc1, od1, .func (PySem.W.fnOf "_law_ref_by" "_law_ref_by" (defArgs (top 10)) (defBody (top 10)) (defScope (top 10)) .none kV1 dc1 pm1 an1 cd1 ct1), sl1⟩) (c1 : PySem.W.codeIn K cd1 "_law_ref_by" = true) (k1 : PySem.W.keepIn K (.ref f1) = true)
    (a2 : PySem.W.nsIn K mainGlobals "_law_area_by" = some (some (.ref f2))) (l2 : K.lookup f2 = some ⟨oc2, od2, .func (PySem.W.fnOf "_law_area_by" "_law_area_by" (defArgs (top 11)) (defBody (top 11)) (defScope (top 11)) .none kV2 dc2 pm2 an2 cd2 ct2), sl2⟩) (c2 : PySem.W.codeIn K cd2 "_law_area_by" = true) (k2 : PySem.W.keepIn K (.ref f2) = true)
    (a3 : PySem.W.nsIn K mainGlobals "_law_leaf_by" = some (some (.ref f3))) (l3 : K.lookup f3 = some ⟨oc3, od3, .func (PySem.W.fnOf "_law_leaf_by" "_law_leaf_by" (defArgs (top 12)) (defBody (top 12)) (defScope (top 12)) .none kV3 dc3 pm3 an3 cd3 ct3), sl3⟩) (c3 : PySem.W.codeIn K cd3 "_law_leaf_by" = true) (k3 : PySem.W.keepIn K (.ref f3) = true)
    (a4 : PySem.W.nsIn K mainGlobals "_law_joined" = some (some (.ref f4))) (l4 : K.lookup f4 = some ⟨oc4, od4, .func (PySem.W.fnOf "_law_joined" "_law_joined" (defArgs (top 13)) (defBody (top 13)) (defScope (top 13)) .none kV4 dc4 pm4 an4 cd4 ct4), sl4⟩) (c4 : PySem.W.codeIn K cd4 "_law_joined" = true) (k4 : PySem.W.keepIn K (.ref f4) = true)
    (a5 : PySem.W.nsIn K mainGlobals "_law_tree_by" = some (some (.ref f5))) (l5 : K.lookup f5 = some ⟨oc5, od5, .func (PySem.W.fnOf "_law_tree_by" "_law_tree_by" (defArgs (top 14)) (defBody (top 14)) (defScope (top 14)) .none kV5 dc5 pm5 an5 cd5 ct5), sl5⟩) (c5 : PySem.W.codeIn K cd5 "_law_tree_by" = true) (k5 : PySem.W.keepIn K (.ref f5) = true)
    (a6 : PySem.W.nsIn K mainGlobals "_law_copy" = some (some (.ref f6))) (l6 : K.lookup f6 = some ⟨oc6, od6, .func (PySem.W.fnOf "_law_copy" "_law_copy" (defArgs (top 20)) (defBody (top 20)) (defScope (top 20)) .none kV6 dc6 pm6 an6 cd6 ct6), sl6⟩) (c6 : PySem.W.codeIn K cd6 "_law_copy" = true) (k6 : PySem.W.keepIn K (.ref f6) = true)
    (a7 : PySem.W.nsIn K mainGlobals "with_number" = some (some (.ref f7))) (l7 : K.lookup f7 = some ⟨oc7, od7, .func (PySem.W.fnOf "with_number" "with_number" (defArgs (top 6)) (defBody (top 6)) (defScope (top 6)) .none kV7 dc7 pm7 an7 cd7 ct7), sl7⟩) (c7 : PySem.W.codeIn K cd7 "with_number" = true) (k7 : PySem.W.keepIn K (.ref f7) = true)
    (a8 : PySem.W.nsIn K mainGlobals "come_place" = some (some (.ref f8))) (l8 : K.lookup f8 = some ⟨oc8, od8, .func (PySem.W.fnOf "come_place" "come_place" (defArgs (top 5)) (defBody (top 5)) (defScope (top 5)) .none kV8 dc8 pm8 an8 cd8 ct8), sl8⟩) (c8 : PySem.W.codeIn K cd8 "come_place" = true) (k8 : PySem.W.keepIn K (.ref f8) = true)
    (a9 : PySem.W.nsIn K mainGlobals "with_parts" = some (some (.ref f9))) (l9 : K.lookup f9 = some ⟨oc9, od9, .func (PySem.W.fnOf "with_parts" "with_parts" (defArgs (top 3)) (defBody (top 3)) (defScope (top 3)) .none kV9 dc9 pm9 an9 cd9 ct9), sl9⟩) (c9 : PySem.W.codeIn K cd9 "with_parts" = true) (k9 : PySem.W.keepIn K (.ref f9) = true)
    (a10 : PySem.W.nsIn K mainGlobals "parts" = some (some (.ref f10))) (l10 : K.lookup f10 = some ⟨oc10, od10, .func (PySem.W.fnOf "parts" "parts" (defArgs (top 2)) (defBody (top 2)) (defScope (top 2)) .none kV10 dc10 pm10 an10 cd10 ct10), sl10⟩) (c10 : PySem.W.codeIn K cd10 "parts" = true) (k10 : PySem.W.keepIn K (.ref f10) = true)
    (a11 : PySem.W.nsIn K mainGlobals "come_tree" = some (some (.ref f11))) (l11 : K.lookup f11 = some ⟨oc11, od11, .func (PySem.W.fnOf "come_tree" "come_tree" (defArgs (top 7)) (defBody (top 7)) (defScope (top 7)) .none kV11 dc11 pm11 an11 cd11 ct11), sl11⟩) (c11 : PySem.W.codeIn K cd11 "come_tree" = true) (k11 : PySem.W.keepIn K (.ref f11) = true)
    (a12 : PySem.W.nsIn K mainGlobals "_law_whole" = some (some (.ref f12))) (l12 : K.lookup f12 = some ⟨oc12, od12, .func (PySem.W.fnOf "_law_whole" "_law_whole" (defArgs (top 16)) (defBody (top 16)) (defScope (top 16)) .none kV12 dc12 pm12 an12 cd12 ct12), sl12⟩) (c12 : PySem.W.codeIn K cd12 "_law_whole" = true) (k12 : PySem.W.keepIn K (.ref f12) = true)
    (a13 : PySem.W.nsIn K mainGlobals "_law_good_ref" = some (some (.ref f13))) (l13 : K.lookup f13 = some ⟨oc13, od13, .func (PySem.W.fnOf "_law_good_ref" "_law_good_ref" (defArgs (top 17)) (defBody (top 17)) (defScope (top 17)) .none kV13 dc13 pm13 an13 cd13 ct13), sl13⟩) (c13 : PySem.W.codeIn K cd13 "_law_good_ref" = true) (k13 : PySem.W.keepIn K (.ref f13) = true)
    (a14 : PySem.W.nsIn K mainGlobals "_law_good" = some (some (.ref f14))) (l14 : K.lookup f14 = some ⟨oc14, od14, .func (PySem.W.fnOf "_law_good" "_law_good" (defArgs (top 18)) (defBody (top 18)) (defScope (top 18)) .none kV14 dc14 pm14 an14 cd14 ct14), sl14⟩) (c14 : PySem.W.codeIn K cd14 "_law_good" = true) (k14 : PySem.W.keepIn K (.ref f14) = true)
    (a15 : PySem.W.nsIn K mainGlobals "_law_items" = some (some (.ref f15))) (l15 : K.lookup f15 = some ⟨oc15, od15, .func (PySem.W.fnOf "_law_items" "_law_items" (defArgs (top 15)) (defBody (top 15)) (defScope (top 15)) .none kV15 dc15 pm15 an15 cd15 ct15), sl15⟩) (c15 : PySem.W.codeIn K cd15 "_law_items" = true) (k15 : PySem.W.keepIn K (.ref f15) = true)
    (a16 : PySem.W.nsIn K mainGlobals "_law_come_by" = some (some (.ref f16))) (l16 : K.lookup f16 = some ⟨oc16, od16, .func (PySem.W.fnOf "_law_come_by" "_law_come_by" (defArgs (top 19)) (defBody (top 19)) (defScope (top 19)) .none kV16 dc16 pm16 an16 cd16 ct16), sl16⟩) (c16 : PySem.W.codeIn K cd16 "_law_come_by" = true) (k16 : PySem.W.keepIn K (.ref f16) = true)
    (a17 : PySem.W.nsIn K mainGlobals "_law_leaf_came" = some (some (.ref f17))) (l17 : K.lookup f17 = some ⟨oc17, od17, .func (PySem.W.fnOf "_law_leaf_came" "_law_leaf_came" (defArgs (top 21)) (defBody (top 21)) (defScope (top 21)) .none kV17 dc17 pm17 an17 cd17 ct17), sl17⟩) (c17 : PySem.W.codeIn K cd17 "_law_leaf_came" = true) (k17 : PySem.W.keepIn K (.ref f17) = true)
    (a18 : PySem.W.nsIn K mainGlobals "law" = some (some (.ref f18))) (l18 : K.lookup f18 = some ⟨oc18, od18, .func (PySem.W.fnOf "law" "law" (defArgs (top 22)) (defBody (top 22)) (defScope (top 22)) .none kV18 dc18 pm18 an18 cd18 ct18), sl18⟩) (c18 : PySem.W.codeIn K cd18 "law" = true) (k18 : PySem.W.keepIn K (.ref f18) = true)
    (z0 : PySem.W.nsIn K mainGlobals "all" = some none)
    (z1 : PySem.W.nsIn K mainGlobals "bool" = some none)
    (z2 : PySem.W.nsIn K mainGlobals "int" = some none)
    (z3 : PySem.W.nsIn K mainGlobals "isinstance" = some none)
    (z4 : PySem.W.nsIn K mainGlobals "len" = some none)
    (z5 : PySem.W.nsIn K mainGlobals "list" = some none)
    (z6 : PySem.W.nsIn K mainGlobals "max" = some none)
    (z7 : PySem.W.nsIn K mainGlobals "min" = some none)
    (z8 : PySem.W.nsIn K mainGlobals "range" = some none)
    (z9 : PySem.W.nsIn K mainGlobals "str" = some none)
    (z10 : PySem.W.nsIn K mainGlobals "sum" = some none)
    (z11 : PySem.W.nsIn K mainGlobals "tuple" = some none)
    (xg0 : PySem.W.nsIn K mainGlobals "LEAF_KINDS" = some (some (.ref a_0)))
    (xt0 : K.lookup a_0 = some ⟨.type "tuple", od_0, .seq #[.str "num" u0_0, .str "ref" u0_1, .str "gone" u0_2, .str "area" u0_3] n_0, sl_0⟩) :
    ∃ fd : FuncData, (∀ (s : Shared) (v : Value), BindsTo s fd ⟨[v], []⟩ [("_law_script", v)]) ∧ ∀ base : Heap, K.In base → base.Ns mainGlobals mg → FnOk l.prog w K mg base (CXA l.prog w) 43 fa fd ["_law_script"] (spM K [] r_law) := by
  have e := hfa.symm.trans (PySem.W.mg_of X G a18)
  cases e
  have B : Blt mg := ⟨PySem.W.mg_none_of X G z0, PySem.W.mg_none_of X G z1, PySem.W.mg_none_of X G z2, PySem.W.mg_none_of X G z3, PySem.W.mg_none_of X G z4, PySem.W.mg_none_of X G z5, PySem.W.mg_none_of X G z6, PySem.W.mg_none_of X G z7, PySem.W.mg_none_of X G z8, PySem.W.mg_none_of X G z9, PySem.W.mg_none_of X G z10, PySem.W.mg_none_of X G z11⟩
  have C : Cst K mg := ⟨GlD.texts (ys := ["num", "ref", "gone", "area"]) (PySem.W.mg_of X G xg0) xt0 (show 4 ≤ sizeLine by decide) (.cons ⟨_, rfl⟩ (.cons ⟨_, rfl⟩ (.cons ⟨_, rfl⟩ (.cons ⟨_, rfl⟩ (.nil)))))⟩
  have F0 := fun_mk (st := top 9) l0 c0 k0
  have b0 := F0.binds (ps := ["_law_script", "_law_k"]) fun _ _ _ _ _ _ us hl => match us, hl with | [_, _], _ => rfl
  have F1 := fun_mk (st := top 10) l1 c1 k1
  have b1 := F1.binds (ps := ["_law_cell", "_law_rows", "_law_columns"]) fun _ _ _ _ _ _ us hl => match us, hl with | [_, _, _], _ => rfl
  have F2 := fun_mk (st := top 11) l2 c2 k2
  have b2 := F2.binds (ps := ["_law_cell", "_law_other", "_law_rows", "_law_columns"]) fun _ _ _ _ _ _ us hl => match us, hl with | [_, _, _, _], _ => rfl
  have F3 := fun_mk (st := top 12) l3 c3 k3
  have b3 := F3.binds (ps := ["_law_script", "_law_k", "_law_rows", "_law_columns"]) fun _ _ _ _ _ _ us hl => match us, hl with | [_, _, _, _], _ => rfl
  have F4 := fun_mk (st := top 13) l4 c4 k4
  have b4 := F4.binds (ps := ["_law_script", "_law_k", "_law_cell", "_law_made", "_law_rows", "_law_columns"]) fun _ _ _ _ _ _ us hl => match us, hl with | [_, _, _, _, _, _], _ => rfl
  have F5 := fun_mk (st := top 14) l5 c5 k5
  have b5 := F5.binds (ps := ["_law_script", "_law_many", "_law_rows", "_law_columns"]) fun _ _ _ _ _ _ us hl => match us, hl with | [_, _, _, _], _ => rfl
  have F6 := fun_mk (st := top 20) l6 c6 k6
  have b6 := F6.binds (ps := ["_law_tree"]) fun _ _ _ _ _ _ us hl => match us, hl with | [_], _ => rfl
  have F7 := fun_mk (st := top 6) l7 c7 k7
  have b7 := F7.binds (ps := ["place", "axis", "number"]) fun _ _ _ _ _ _ us hl => match us, hl with | [_, _, _], _ => rfl
  have F8 := fun_mk (st := top 5) l8 c8 k8
  have b8 := F8.binds (ps := ["place", "axis", "at", "many"]) fun _ _ _ _ _ _ us hl => match us, hl with | [_, _, _, _], _ => rfl
  have F9 := fun_mk (st := top 3) l9 c9 k9
  have b9 := F9.binds (ps := ["tree", "others"]) fun _ _ _ _ _ _ us hl => match us, hl with | [_, _], _ => rfl
  have F10 := fun_mk (st := top 2) l10 c10 k10
  have b10 := F10.binds (ps := ["tree"]) fun _ _ _ _ _ _ us hl => match us, hl with | [_], _ => rfl
  have F11 := fun_mk (st := top 7) l11 c11 k11
  have b11 := F11.binds (ps := ["tree", "axis", "at", "many"]) fun _ _ _ _ _ _ us hl => match us, hl with | [_, _, _, _], _ => rfl
  have F12 := fun_mk (st := top 16) l12 c12 k12
  have b12 := F12.binds (ps := ["_law_found"]) fun _ _ _ _ _ _ us hl => match us, hl with | [_], _ => rfl
  have F13 := fun_mk (st := top 17) l13 c13 k13
  have b13 := F13.binds (ps := ["_law_tree"]) fun _ _ _ _ _ _ us hl => match us, hl with | [_], _ => rfl
  have F14 := fun_mk (st := top 18) l14 c14 k14
  have b14 := F14.binds (ps := ["_law_tree"]) fun _ _ _ _ _ _ us hl => match us, hl with | [_], _ => rfl
  have F15 := fun_mk (st := top 15) l15 c15 k15
  have b15 := F15.binds (ps := ["_law_tree"]) fun _ _ _ _ _ _ us hl => match us, hl with | [_], _ => rfl
  have F16 := fun_mk (st := top 19) l16 c16 k16
  have b16 := F16.binds (ps := ["_law_place", "_law_axis", "_law_at", "_law_many"]) fun _ _ _ _ _ _ us hl => match us, hl with | [_, _, _, _], _ => rfl
  have F17 := fun_mk (st := top 21) l17 c17 k17
  have b17 := F17.binds (ps := ["_law_found", "_law_due", "_law_axis", "_law_at", "_law_many"]) fun _ _ _ _ _ _ us hl => match us, hl with | [_, _, _, _, _], _ => rfl
  have F18 := fun_mk (st := top 22) l18 c18 k18
  have b18 := F18.binds (ps := ["_law_script"]) fun _ _ _ _ _ _ us hl => match us, hl with | [_], _ => rfl
  refine ⟨PySem.W.fnOf "law" "law" (defArgs (top 22)) (defBody (top 22)) (defScope (top 22)) .none kV18 dc18 pm18 an18 cd18 ct18, fun s v => .of_eq rfl, fun base _ _ => ?_⟩
  have G_q_cell_at := ok_q_cell_at (P := l.prog) (w := w) (base := base) B C F0 b0 (PySem.W.mg_of X G a0)
  have G_q_ref_by := ok_q_ref_by (P := l.prog) (w := w) (base := base) B C F1 b1 (PySem.W.mg_of X G a1)
  have G_q_area_by := ok_q_area_by (P := l.prog) (w := w) (base := base) B C G_q_ref_by F2 b2 (PySem.W.mg_of X G a2)
  have G_q_leaf_by := ok_q_leaf_by (P := l.prog) (w := w) (base := base) B C G_q_cell_at G_q_area_by G_q_ref_by F3 b3 (PySem.W.mg_of X G a3)
  have G_q_joined := ok_q_joined (P := l.prog) (w := w) (base := base) B C G_q_area_by G_q_cell_at F4 b4 (PySem.W.mg_of X G a4)
  have G_q_tree_by := ok_q_tree_by (P := l.prog) (w := w) (base := base) B C G_q_cell_at G_q_leaf_by G_q_joined F5 b5 (PySem.W.mg_of X G a5)
  have G_q_copy := ok_q_copy (P := l.prog) (w := w) (base := base) B C F6 b6 (PySem.W.mg_of X G a6) 40
  have G_with_number := ok_with_number (P := l.prog) (w := w) (base := base) B C F7 b7 (PySem.W.mg_of X G a7)
  have G_come_place := ok_come_place (P := l.prog) (w := w) (base := base) B C G_with_number F8 b8 (PySem.W.mg_of X G a8)
  have G_with_parts := ok_with_parts (P := l.prog) (w := w) (base := base) B C F9 b9 (PySem.W.mg_of X G a9)
  have G_parts := ok_parts (P := l.prog) (w := w) (base := base) B C F10 b10 (PySem.W.mg_of X G a10)
  have G_come_tree := ok_come_tree (P := l.prog) (w := w) (base := base) B C G_come_place G_with_parts G_parts F11 b11 (PySem.W.mg_of X G a11) 40
  have G_q_whole := ok_q_whole (P := l.prog) (w := w) (base := base) B C F12 b12 (PySem.W.mg_of X G a12)
  have G_q_good_ref := ok_q_good_ref (P := l.prog) (w := w) (base := base) B C G_q_whole F13 b13 (PySem.W.mg_of X G a13)
  have G_q_good := ok_q_good (P := l.prog) (w := w) (base := base) B C G_q_whole G_q_good_ref F14 b14 (PySem.W.mg_of X G a14) 40
  have G_q_items := ok_q_items (P := l.prog) (w := w) (base := base) B C F15 b15 (PySem.W.mg_of X G a15) 40
  have G_q_come_by := ok_q_come_by (P := l.prog) (w := w) (base := base) B C F16 b16 (PySem.W.mg_of X G a16)
  have G_q_leaf_came := ok_q_leaf_came (P := l.prog) (w := w) (base := base) B C G_q_come_by F17 b17 (PySem.W.mg_of X G a17)
  have G_law := ok_law (P := l.prog) (w := w) (base := base) B C G_q_cell_at G_q_tree_by G_q_copy G_come_tree G_q_good G_q_items G_q_leaf_came F18
  exact G_law
theorem walk {l : PySem.W.OpenLaw} {q : Program} {loose : List Str} {XP : (Str → Option Value) → Heap → Prop} {YP : World → Heap → Prop} {d : DefRec} {K : Params → PySem.W.Frag} (hn : l.most = some 63) (hdf : d.params.defaults = [])
    (hY : ∀ (w : World) (h : Heap), YP w h → (K w.params).In h)
    (F : ∀ (w : World) (mg : Str → Option Value) (fa : Addr) (h : Heap), (K w.params).In h → h.Ns mainGlobals mg → mg d.name = some (.ref fa) →
      ∃ fd : FuncData, (∀ (s : Shared) (u : Value), BindsTo s fd ⟨[u], []⟩ [("_law_script", u)]) ∧ ∀ base : Heap, (K w.params).In base → base.Ns mainGlobals mg → FnOk l.prog w (K w.params) mg base (CXA l.prog w) 43 fa fd ["_law_script"] (spM (K w.params) [] r_law))
    (true_ : ∀ ns : List Int, ns.length ≤ 63 → r_law [.lst (ns.map D.int)] = some (.ok (.val (.bl true)), [])) :
    PySem.W.WalkO q loose XP YP l.row.toRowW d [] (fun f vs => PySem.call f vs) :=
  L4.walk_ofL (n := 63) (k := 43) (x := "_law_script") (CX := fun w => CXA l.prog w) (sp := fun w => spM (K w.params) [] r_law) hn (by decide) hdf ⟨rfl, by decide, by decide⟩ hY F
    (fun w H a ns hl _ hS => law_sp (true_ ns hl) hS) fun _ _ _ _ _ z => cxa_no z
end Toy
open PySem PySem.W PyProof.Rows
set_option maxRecDepth 100000 in
set_option maxHeartbeats 0 in
theorem PySem.Challenge.cw_slate_k32_formulas_come_holds : PySem.Challenge.rw_slate_k32_formulas_come.Holds := by
  w_on; o_law; k_head; (case hw => w_witness2)
  k_fill
  refine Toy.walk (l := PySem.Challenge.rw_slate_k32_formulas_come) rfl rfl (fun w h Y => PySem.W.kIn_of Y) ?F Toy.law_true
  case F =>
    intro w mg fa h KX G hmg
    refine' Toy.all_mk KX G hmg ?a0 ?l0 ?c0 ?k0 ?a1 ?l1 ?c1 ?k1 ?a2 ?l2 ?c2 ?k2 ?a3 ?l3 ?c3 ?k3 ?a4 ?l4 ?c4 ?k4 ?a5 ?l5 ?c5 ?k5 ?a6 ?l6 ?c6 ?k6 ?a7 ?l7 ?c7 ?k7 ?a8 ?l8 ?c8 ?k8 ?a9 ?l9 ?c9 ?k9 ?a10 ?l10 ?c10 ?k10 ?a11 ?l11 ?c11 ?k11 ?a12 ?l12 ?c12 ?k12 ?a13 ?l13 ?c13 ?k13 ?a14 ?l14 ?c14 ?k14 ?a15 ?l15 ?c15 ?k15 ?a16 ?l16 ?c16 ?k16 ?a17 ?l17 ?c17 ?k17 ?a18 ?l18 ?c18 ?k18 ?z0 ?z1 ?z2 ?z3 ?z4 ?z5 ?z6 ?z7 ?z8 ?z9 ?z10 ?z11 ?xg0 ?xt0
    (case a0 => k_is)
    (case l0 => k_is)
    (case c0 => k_is)
    (case k0 => k_is)
    (case a1 => k_is)
    (case l1 => k_is)
    (case c1 => k_is)
    (case k1 => k_is)
    (case a2 => k_is)
    (case l2 => k_is)
    (case c2 => k_is)
    (case k2 => k_is)
    (case a3 => k_is)
    (case l3 => k_is)
    (case c3 => k_is)
    (case k3 => k_is)
    (case a4 => k_is)
    (case l4 => k_is)
    (case c4 => k_is)
    (case k4 => k_is)
    (case a5 => k_is)
    (case l5 => k_is)
    (case c5 => k_is)
    (case k5 => k_is)
    (case a6 => k_is)
    (case l6 => k_is)
    (case c6 => k_is)
    (case k6 => k_is)
    (case a7 => k_is)
    (case l7 => k_is)
    (case c7 => k_is)
    (case k7 => k_is)
    (case a8 => k_is)
    (case l8 => k_is)
    (case c8 => k_is)
    (case k8 => k_is)
    (case a9 => k_is)
    (case l9 => k_is)
    (case c9 => k_is)
    (case k9 => k_is)
    (case a10 => k_is)
    (case l10 => k_is)
    (case c10 => k_is)
    (case k10 => k_is)
    (case a11 => k_is)
    (case l11 => k_is)
    (case c11 => k_is)
    (case k11 => k_is)
    (case a12 => k_is)
    (case l12 => k_is)
    (case c12 => k_is)
    (case k12 => k_is)
    (case a13 => k_is)
    (case l13 => k_is)
    (case c13 => k_is)
    (case k13 => k_is)
    (case a14 => k_is)
    (case l14 => k_is)
    (case c14 => k_is)
    (case k14 => k_is)
    (case a15 => k_is)
    (case l15 => k_is)
    (case c15 => k_is)
    (case k15 => k_is)
    (case a16 => k_is)
    (case l16 => k_is)
    (case c16 => k_is)
    (case k16 => k_is)
    (case a17 => k_is)
    (case l17 => k_is)
    (case c17 => k_is)
    (case k17 => k_is)
    (case a18 => k_is)
    (case l18 => k_is)
    (case c18 => k_is)
    (case k18 => k_is)
    (case z0 => k_is)
    (case z1 => k_is)
    (case z2 => k_is)
    (case z3 => k_is)
    (case z4 => k_is)
    (case z5 => k_is)
    (case z6 => k_is)
    (case z7 => k_is)
    (case z8 => k_is)
    (case z9 => k_is)
    (case z10 => k_is)
    (case z11 => k_is)
    (case xg0 => k_is)
    (case xt0 => k_is)
