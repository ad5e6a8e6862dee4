import PyProof.Rows.All
import Wide.All
import OpenK.AllK
import Wide.FinOn
import PyProof.EqAt
import PyProof.EqKinds
import PyProof.TupleCall
import PyProof.NeData
import PyProof.P3In
import PySem.Challenge.RW_slate_k14_whole_names_and_places
set_option Elab.async false
set_option linter.all false
set_option maxRecDepth 100000

namespace L2
open PySem PySem.Spec PyProof.Rows

/-- a key: an int or a str -/
abbrev Key := Sum Int Str
def keyIs : Key → Value → Bool
  | .inl k, v => Value.isInt k v
  | .inr x, v => Value.isStrOf x v
def keyH (w : World) : Key → Int
  | .inl k => hashInt k
  | .inr x => hashStr w x
theorem keyIs_shape : ∀ {k : Key} {v : Value}, keyIs k v = true → (∃ i t, k = Sum.inl i ∧ v = Value.int i t) ∨ (∃ x t, k = Sum.inr x ∧ v = Value.str x t)
  | .inl i, v, h => by
    obtain ⟨t, e⟩ := Value.isInt_shape (k := i) (v := v) h
    exact .inl ⟨i, t, rfl, e⟩
  | .inr x, v, h => by
    obtain ⟨t, e⟩ := Value.isStrOf_shape (x := x) (v := v) h
    exact .inr ⟨x, t, rfl, e⟩
theorem keyIs_int (i : Int) (t : Tok) : keyIs (.inl i) (.int i t) = true := by simp [keyIs, Value.isInt]
theorem keyIs_str (x : Str) (t : Tok) : keyIs (.inr x) (.str x t) = true := by simp [keyIs, Value.isStrOf]
theorem key_ll (a b : Int) : decide ((Sum.inl a : Key) = Sum.inl b) = (a == b) := by
  by_cases e : a = b
  · subst e; simp
  · have h : ¬ (Sum.inl a : Key) = Sum.inl b := fun q => e (Sum.inl.inj q)
    rw [decide_eq_false h]
    exact (beq_eq_false_iff_ne.mpr e).symm
theorem key_rr (a b : Str) : decide ((Sum.inr a : Key) = Sum.inr b) = decide (a = b) := by
  by_cases e : a = b
  · subst e; simp
  · have h : ¬ (Sum.inr a : Key) = Sum.inr b := fun q => e (Sum.inr.inj q)
    rw [decide_eq_false h, decide_eq_false e]
theorem key_lr (a : Int) (b : Str) : decide ((Sum.inl a : Key) = Sum.inr b) = false := decide_eq_false (fun q => nomatch q)
theorem key_rl (a : Str) (b : Int) : decide ((Sum.inr a : Key) = Sum.inl b) = false := decide_eq_false (fun q => nomatch q)

def mixKind (prog : Program) (w : World) : PySem.KeyKind prog w Key where
  is := keyIs
  hash := keyH w
  inj := fun v a b ha hb => by
    rcases keyIs_shape ha with ⟨i, t, rfl, rfl⟩ | ⟨x, t, rfl, rfl⟩
    · rcases keyIs_shape hb with ⟨j, u, rfl, e⟩ | ⟨y, u, rfl, e⟩
      · injection e with e1 _; rw [e1]
      · exact nomatch e
    · rcases keyIs_shape hb with ⟨j, u, rfl, e⟩ | ⟨y, u, rfl, e⟩
      · exact nomatch e
      · injection e with e1 _; rw [e1]
  byValue := fun k v h => by
    rcases keyIs_shape h with ⟨i, t, rfl, rfl⟩ | ⟨x, t, rfl, rfl⟩ <;> rfl
  pyHash := fun hv h => by
    rcases keyIs_shape hv with ⟨i, t, rfl, rfl⟩ | ⟨x, t, rfl, rfl⟩
    · exact wpAny_pyHash_int h
    · exact wpAny_pyHash_str h
  eqBool := fun hu hv h => by
    rcases keyIs_shape hu with ⟨i, t, rfl, rfl⟩ | ⟨x, t, rfl, rfl⟩
    · rcases keyIs_shape hv with ⟨j, u, rfl, rfl⟩ | ⟨y, u, rfl, rfl⟩
      · rw [key_ll] at h; exact wpAny_eqBool_int h
      · rw [key_lr] at h; exact SeqAt.EqAt.int_str i t y u _ _ _ _ h
    · rcases keyIs_shape hv with ⟨j, u, rfl, rfl⟩ | ⟨y, u, rfl, rfl⟩
      · rw [key_rl] at h; exact SeqAt.EqAt.str_int x t j u _ _ _ _ h
      · rw [key_rr] at h; exact wpAny_eqBool_str h
  «strs» := fun k x t v h => by
    rcases keyIs_shape h with ⟨i, u, rfl, e⟩ | ⟨y, u, rfl, e⟩
    · exact nomatch e
    · injection e with e1 _
      subst e1
      cases v <;> rfl

theorem mixKind_is (prog : Program) (w : World) (k : Key) (v : Value) : (mixKind prog w).is k v = keyIs k v := rfl
theorem mixKind_int (prog : Program) (w : World) (i : Int) (t : Tok) : (mixKind prog w).is (.inl i) (.int i t) = true := keyIs_int i t
theorem mixKind_str (prog : Program) (w : World) (x : Str) (t : Tok) : (mixKind prog w).is (.inr x) (.str x t) = true := keyIs_str x t
end L2

namespace L2
open PySem PySem.Spec PyProof.Rows

/-- a value, without the heap -/
inductive V where
  | non | bl (b : Bool) | int (i : Int) | str (x : Str) | byt (b : Array UInt8) | flt (b : UInt64) | ref (a : Addr) | ty (n : String)
  deriving DecidableEq

def RelV : V → Value → Prop
  | .non, u => u = Value.none
  | .bl b, u => u = Value.bool b
  | .int i, u => ∃ t, u = Value.int i t
  | .str x, u => ∃ t, u = Value.str x t
  | .byt b, u => ∃ t, u = Value.bytes b t
  | .flt b, u => ∃ t, u = Value.float b t
  | .ref a, u => u = Value.ref a
  | .ty n, u => u = Value.type n

abbrev Vals : List V → List Value → Prop := Paired RelV
theorem Vals.length {xs : List V} {us : List Value} (r : Vals xs us) : xs.length = us.length := Paired.length r
theorem Vals.get : ∀ {xs : List V} {us : List Value} {i : Nat} {x : V}, Vals xs us → xs[i]? = some x → ∃ u, us[i]? = some u ∧ RelV x u
  | _, _, _, _, .nil, e => by simp at e
  | _, _, 0, _, .cons r _, e => by simp at e; subst e; exact ⟨_, rfl, r⟩
  | _, _, i + 1, x, .cons _ t, e => by
    obtain ⟨u, h1, h2⟩ := Vals.get (i := i) (x := x) t (by simpa using e)
    exact ⟨u, by simpa using h1, h2⟩
theorem Vals.set {x : V} {u : Value} (r : RelV x u) : ∀ {xs : List V} {us : List Value} (i : Nat), Vals xs us → Vals (xs.set i x) (us.set i u)
  | _, _, _, .nil => .nil
  | _, _, 0, .cons _ t => .cons r t
  | _, _, i + 1, .cons q t => .cons q (Vals.set r i t)
theorem Vals.append : ∀ {xs ys : List V} {us ws : List Value}, Vals xs us → Vals ys ws → Vals (xs ++ ys) (us ++ ws)
  | _, _, _, _, .nil, s => s
  | _, _, _, _, .cons r t, s => .cons r (Vals.append t s)
theorem Vals.take : ∀ {xs : List V} {us : List Value} (n : Nat), Vals xs us → Vals (xs.take n) (us.take n)
  | _, _, 0, _ => .nil
  | _, _, _ + 1, .nil => .nil
  | _, _, n + 1, .cons r t => .cons r (Vals.take n t)
theorem Vals.drop : ∀ {xs : List V} {us : List Value} (n : Nat), Vals xs us → Vals (xs.drop n) (us.drop n)
  | _, _, 0, r => r
  | _, _, _ + 1, .nil => .nil
  | _, _, n + 1, .cons _ t => Vals.drop n t
theorem Vals.none_of : ∀ {xs : List V} {us : List Value} {i : Nat}, Vals xs us → xs[i]? = none → us[i]? = none := fun {xs us i} r e => by
  have h1 := r.length
  have h2 : xs.length ≤ i := List.getElem?_eq_none_iff.mp e
  exact List.getElem?_eq_none_iff.mpr (by omega)

def RelO : Option V → Option Value → Prop
  | some v, some u => RelV v u
  | none, none => True
  | _, _ => False
def KV {κ : Type} : List (κ × V) → List (κ × Value) → Prop := Paired fun (p : κ × V) (q : κ × Value) => p.1 = q.1 ∧ RelV p.2 q.2

/-- a key of a dict (00_mix): an int or a text -/
def kV : Key → V
  | .inl i => .int i
  | .inr x => .str x

/-- what stands at a tracked address -/
inductive HO where
  /-- a list -/
  | lst (xs : List V)
  /-- a tuple (never changes) -/
  | tup (xs : List V)
  /-- a dict whose keys are ints and texts; one whose keys are tuples of ints and texts (the empty one is both) -/
  | dK (kvs : List (Key × V)) | dT (kvs : List (List Key × V))
  /-- a set of ints: its members, its size -/
  | set (S : Int → Bool) (n : Nat)
  /-- an instance of the class at C, its dict at dx, its attributes -/
  | ins (C dx : Addr) (fs : List (Str × V))
  /-- the dict of the instance at x -/
  | own (x : Addr)
  /-- the dict of an exception -/
  | xd (fs : List (Str × V))
  /-- a bound method, f of x -/
  | met (f x : Addr)
  /-- a range object lo, lo + 1, .. below hi -/
  | rng (lo hi : Int)
  /-- a thing that is known to the object (the script; a dict while a loop walks it): read, never written while it is so -/
  | frz (o : Obj) (u : HO)
  /-- a code object's table -/
  | tbl (ps : Array Value)
  /-- any other thing, by what is true of its one object (a def of one's own: SetO a S n := HO.ext fun h => ..) -/
  | ext (φ : Heap → Prop)

abbrev Hp := Addr → Option HO
def upd (H : Hp) (a : Addr) (o : HO) : Hp := fun b => if b = a then some o else H b
theorem upd_same {H : Hp} {a : Addr} {o : HO} : upd H a o a = some o := by unfold upd; rw [if_pos rfl]
theorem upd_ne {H : Hp} {a b : Addr} {o : HO} (h : b ≠ a) : upd H a o b = H b := by unfold upd; rw [if_neg h]
theorem upd_upd {H : Hp} {a : Addr} {o u : HO} : upd (upd H a o) a u = upd H a u := by
  funext b; unfold upd; split <;> rfl
/-- two objects of different content stand apart -/
theorem ne_of {H : Hp} {a b : Addr} {o u : HO} (h : H a = some o) (h' : H b = some u) (d : o ≠ u) : a ≠ b := by
  intro e; subst e; rw [h] at h'; exact d (Option.some.inj h')
theorem ne_of_none {H : Hp} {a b : Addr} {o : HO} (h : H a = some o) (h' : H b = none) : a ≠ b := by
  intro e; subst e; rw [h] at h'; cases h'

section
variable (P : Program) (w : World)
def ObjOk (H : Hp) (h : Heap) (a : Addr) : HO → Prop
  | .lst xs => xs.length ≤ sizeLine ∧ ∃ (its : List Value) (n : Nat), Vals xs its ∧ h.get? a = some { cls := .type "list", data := .seq its.toArray n }
  | .tup xs => xs.length ≤ sizeLine ∧ ∃ its : List Value, Vals xs its ∧ IsTup h a its.toArray
  | .dK kvs => kvs.length ≤ sizeLine ∧ (a == sysModules) = false ∧ ∃ vs, KV kvs vs ∧ h.DictOf (mixKind P w) a vs
  | .dT kvs => kvs.length ≤ sizeLine ∧ (a == sysModules) = false ∧ ∃ xs : List (List Key × Addr × Value),
      Paired (fun (p : List Key × V) (q : List Key × Addr × Value) => p.1 = q.1 ∧ H q.2.1 = some (.tup (p.1.map kV)) ∧ RelV p.2 q.2.2) kvs xs ∧
      ∃ o es ep, h.get? a = some o ∧ o.ExactDict ∧ o.data = .dict es ep ∧ es.toList = xs.map (entryOfKey (tupleKind (mixKind P w))) ∧ (xs.map (·.1)).Nodup
  | .set S n => h.SetOf (intKind P w) a S n
  | .ins C dx fs => H dx = some (.own a) ∧ fs.length ≤ 1000 ∧ dx ≠ a ∧ h.get? a = some (PySem.W.instObj C dx) ∧
      ∃ mA, h.Ns1 dx mA ∧ (∀ f, RelO (fs.lookup f) (mA f)) ∧ PySem.Within mA (fs.map (·.1))
  | .own _ => ∃ o, h.get? a = some o
  | .xd fs => ∃ mA, h.Ns1 a mA ∧ ∀ f, RelO (fs.lookup f) (mA f)
  | .rng lo hi => ∃ t u v, h.get? a = some { cls := .type "range", data := .fields #[.int lo t, .int hi u, .int 1 v] }
  | .frz o u => h.get? a = some o ∧ ObjOk H h a u
  | .tbl ps => h.get? a = some { cls := .none, data := .fields ps }
  | .met f x => h.get? a = some (PySem.W.methodObj (.ref f) (.ref x))
  | .ext φ => φ h ∧ (∃ o, h.get? a = some o) ∧ ∀ h1 h2 : Heap, φ h1 → (∀ o, h1.get? a = some o → h2.get? a = some o) → φ h2
/-- the abstract heap is held -/
def HOk (H : Hp) (h : Heap) : Prop := ∀ a o, H a = some o → ObjOk P w H h a o
end

section
variable {P : Program} {w : World} {H H' : Hp} {h h' : Heap} {a : Addr} {o : HO}
theorem ObjOk.lt (x : ObjOk P w H h a o) : a < h.objs.size := by
  cases o with
  | lst xs => obtain ⟨_, _, _, _, e⟩ := x; exact Heap.lt_size e
  | tup xs => obtain ⟨_, _, _, p⟩ := x; exact p.lt
  | dK kvs => obtain ⟨_, _, _, _, o, _, _, e, _⟩ := x; exact Heap.lt_size e
  | dT kvs => obtain ⟨_, _, _, _, o, _, _, e, _⟩ := x; exact Heap.lt_size e
  | set S n => obtain ⟨o, _, _, _, e, _⟩ := x; exact Heap.lt_size e
  | ins C dx fs => obtain ⟨_, _, _, e, _⟩ := x; exact Heap.lt_size e
  | own y => obtain ⟨_, e⟩ := x; exact Heap.lt_size e
  | xd fs => obtain ⟨_, ⟨_, _, _, e, _⟩, _⟩ := x; exact Heap.lt_size e
  | rng lo hi => obtain ⟨_, _, _, e⟩ := x; exact Heap.lt_size e
  | frz ob u => obtain ⟨e, _⟩ := x; exact Heap.lt_size e
  | tbl ps => exact Heap.lt_size (show h.get? a = some _ from x)
  | met f y => exact Heap.lt_size (show h.get? a = some _ from x)
  | ext φ => obtain ⟨_, ⟨_, e⟩, _⟩ := x; exact Heap.lt_size e
theorem Paired.mapP {α β : Type} {F G : α → β → Prop} : ∀ {l₁ : List α} {l₂ : List β}, Paired F l₁ l₂ → (∀ a b, F a b → G a b) → Paired G l₁ l₂
  | _, _, .nil, _ => .nil
  | _, _, .cons r t, f => .cons (f _ _ r) (Paired.mapP t f)
theorem Paired.imp' {α β : Type} {F G : α → β → Prop} (f : ∀ a b, F a b → G a b) {l₁ : List α} {l₂ : List β} (r : Paired F l₁ l₂) : Paired G l₁ l₂ := Paired.mapP r f
/-- what an object's description leans on: its own object, its own dict, the tuples -/
theorem ObjOk.stay (x : ObjOk P w H h a o) (k : ∀ b u, (b = a ∨ H b = some (.own a)) → h.get? b = some u → h'.get? b = some u)
    (ho : ∀ b, H b = some (.own a) → H' b = some (.own a)) (ht : ∀ b xs, H b = some (.tup xs) → H' b = some (.tup xs)) : ObjOk P w H' h' a o := by
  induction o with
  | lst xs => obtain ⟨z, its, n, r, e⟩ := x; exact ⟨z, its, n, r, k _ _ (.inl rfl) e⟩
  | tup xs => obtain ⟨z, its, r, ob, e, c⟩ := x; exact ⟨z, its, r, ob, k _ _ (.inl rfl) e, c⟩
  | dK kvs => obtain ⟨z, y, vs, r, ob, es, ep, e, c⟩ := x; exact ⟨z, y, vs, r, ob, es, ep, k _ _ (.inl rfl) e, c⟩
  | dT kvs =>
    obtain ⟨z, y, xs, r, ob, es, ep, e, c⟩ := x
    exact ⟨z, y, xs, Paired.mapP r fun p q z => ⟨z.1, ht _ _ z.2.1, z.2.2⟩, ob, es, ep, k _ _ (.inl rfl) e, c⟩
  | set S n => obtain ⟨ob, es, ep, t, e, c⟩ := x; exact ⟨ob, es, ep, t, k _ _ (.inl rfl) e, c⟩
  | ins C dx fs =>
    obtain ⟨d, z, ne, e, mA, ⟨od, es, ep, e2, c⟩, r⟩ := x
    exact ⟨ho _ d, z, ne, k _ _ (.inl rfl) e, mA, ⟨od, es, ep, k _ _ (.inr d) e2, c⟩, r⟩
  | own y => obtain ⟨ob, e⟩ := x; exact ⟨ob, k _ _ (.inl rfl) e⟩
  | xd fs => obtain ⟨mA, ⟨od, es, ep, e, c⟩, r⟩ := x; exact ⟨mA, ⟨od, es, ep, k _ _ (.inl rfl) e, c⟩, r⟩
  | rng lo hi => obtain ⟨t, u, v, e⟩ := x; exact ⟨t, u, v, k _ _ (.inl rfl) e⟩
  | frz ob u ih => obtain ⟨e, q⟩ := x; exact ⟨k _ _ (.inl rfl) e, ih q⟩
  | tbl ps =>
    have e : h.get? a = some { cls := .none, data := .fields ps } := x
    show h'.get? a = some { cls := .none, data := .fields ps }
    exact k a _ (.inl rfl) e
  | met f y =>
    have e : h.get? a = some (PySem.W.methodObj (.ref f) (.ref y)) := x
    show h'.get? a = some (PySem.W.methodObj (.ref f) (.ref y))
    exact k a _ (.inl rfl) e
  | ext φ => obtain ⟨p, ⟨o, e⟩, st⟩ := x; exact ⟨st _ _ p fun o q => k _ _ (.inl rfl) q, ⟨o, k _ _ (.inl rfl) e⟩, st⟩
theorem HOk.lt (x : HOk P w H h) (e : H a = some o) : a < h.objs.size := (x a o e).lt
theorem HOk.fresh (x : HOk P w H h) (e : h.objs.size ≤ a) : H a = none := by
  cases q : H a with
  | none => rfl
  | some u => exact absurd (Nat.lt_of_lt_of_le (x.lt q) e) (Nat.lt_irrefl _)
/-- every object of the heap is kept -/
theorem HOk.kept (x : HOk P w H h) (k : ∀ b u, h.get? b = some u → h'.get? b = some u) : HOk P w H h' := fun a o e =>
  (x a o e).stay (fun b u _ q => k b u q) (fun _ q => q) fun _ _ q => q
/-- a new object is laid and tracked -/
theorem HOk.laid (x : HOk P w H h) (k : ∀ b u, h.get? b = some u → h'.get? b = some u) (hp : h.objs.size ≤ a) (new : ObjOk P w (upd H a o) h' a o) : HOk P w (upd H a o) h' := fun b u e => by
  have hn := x.fresh hp
  by_cases hb : b = a
  · subst hb; rw [upd_same] at e; cases e; exact new
  · rw [upd_ne hb] at e
    exact (x b u e).stay (fun c v _ q => k c v q) (fun c q => by rw [upd_ne (ne_of_none q hn)]; exact q) fun c xs q => by rw [upd_ne (ne_of_none q hn)]; exact q
end

/-- what may be read as u: it is u, or a known u -/
def Rd (H : Hp) (a : Addr) (u : HO) : Prop := H a = some u ∨ ∃ o, H a = some (.frz o u)
theorem Rd.of {H : Hp} {a : Addr} {u : HO} (h : H a = some u) : Rd H a u := .inl h
theorem Rd.ok {P : Program} {w : World} {H : Hp} {h : Heap} {a : Addr} {u : HO} (r : Rd H a u) (x : HOk P w H h) : ObjOk P w H h a u := by
  rcases r with r | ⟨o, r⟩
  · exact x a u r
  · obtain ⟨_, q⟩ := x a _ r
    exact q
/-- what may be written -/
def Mut : Option HO → Prop
  | some (.lst _) => True
  | some (.dK _) => True
  | some (.dT _) => True
  | some (.set _ _) => True
  | some (.ins _ _ _) => True
  | some (.ext _) => True
  | _ => False
section
variable {P : Program} {w : World} {H : Hp} {h h' : Heap} {x e : Addr} {o' : HO}
/-- the object at e is changed: x itself, or the dict of the instance x -/
theorem HOk.write (ok : HOk P w H h) (mu : Mut (H x)) (he : e = x ∨ H e = some (.own x)) (k : ∀ b u, b ≠ e → h.get? b = some u → h'.get? b = some u) (heo : ∃ u, h'.get? e = some u)
    (new : ObjOk P w (upd H x o') h' x o') : HOk P w (upd H x o') h' := fun b u q => by
  have nown : ∀ c y, H c = some (.own y) → c ≠ x := fun c y r z => by subst z; rw [r] at mu; exact mu
  have ntup : ∀ c xs, H c = some (.tup xs) → c ≠ x := fun c xs r z => by subst z; rw [r] at mu; exact mu
  by_cases hb : b = x
  · subst hb; rw [upd_same] at q; cases q; exact new
  · rw [upd_ne hb] at q
    by_cases hbe : b = e
    · have q' : H b = some (.own x) := by
        rcases he with z | z
        · exact absurd (hbe.trans z) hb
        · rw [hbe]; exact z
      rw [q] at q'; cases q'
      obtain ⟨v, hv⟩ := heo
      exact ⟨v, by rw [hbe]; exact hv⟩
    · refine (ok b u q).stay (fun c v hc r => k c v ?_ r) (fun c r => by rw [upd_ne (nown c b r)]; exact r) fun c xs r => by rw [upd_ne (ntup c xs r)]; exact r
      rcases hc with rfl | hc
      · exact hbe
      · rintro rfl
        rcases he with z | z
        · exact nown c b hc z
        · rw [hc] at z; cases z; exact hb rfl
end

/-! ### kept unless tracked; of the frames at fs (the callers') the slots may change (an exception that passes writes there); of the records at ex (iterators) nothing is said -/
structure Un (fs ex : List Addr) (H H' : Hp) (h h' : Heap) : Prop where
  keep : ∀ b o, h.get? b = some o → H b = none → b ∉ fs → b ∉ ex → h'.get? b = some o
  slot : ∀ b o, h.get? b = some o → H b = none → b ∈ fs → b ∉ ex → ∃ sl, h'.get? b = some { o with slots := sl }
  free : ∀ b o, h.get? b = some o → H b = none → b ∉ ex → H' b = none
  there : ∀ b o, h.get? b = some o → b ∉ ex → ∃ o', h'.get? b = some o'
  tups : ∀ b xs, H b = some (.tup xs) → H' b = some (.tup xs)
  frzs : ∀ b o u, H b = some (.frz o u) → H' b = some (.frz o u)
  tbls : ∀ b ps, H b = some (.tbl ps) → ∃ more, H' b = some (.tbl (ps ++ more))
section
variable {fs fs' ex ex' : List Addr} {H H1 H2 : Hp} {h h1 h2 h' : Heap} {a x e : Addr} {o : HO}
theorem Un.any (u : Un fs ex H H1 h h1) {b : Addr} {ob : Obj} (q : h.get? b = some ob) (n : H b = none) (hx : b ∉ ex) : ∃ sl, h1.get? b = some { ob with slots := sl } := by
  by_cases hb : b ∈ fs
  · exact u.slot b ob q n hb hx
  · exact ⟨ob.slots, u.keep b ob q n hb hx⟩
theorem Un.trans (a : Un fs ex H H1 h h1) (b : Un fs ex H1 H2 h1 h2) : Un fs ex H H2 h h2 where
  keep := fun c ob q n hc hx => b.keep c ob (a.keep c ob q n hc hx) (a.free c ob q n hx) hc hx
  slot := fun c ob q n hc hx => by
    obtain ⟨sl, e1⟩ := a.slot c ob q n hc hx
    obtain ⟨sl', e2⟩ := b.slot c _ e1 (a.free c ob q n hx) hc hx
    exact ⟨sl', e2⟩
  free := fun c ob q n hx => by
    obtain ⟨o', e1⟩ := a.there c ob q hx
    exact b.free c o' e1 (a.free c ob q n hx) hx
  there := fun c ob q hx => by
    obtain ⟨o', e1⟩ := a.there c ob q hx
    exact b.there c o' e1 hx
  tups := fun c xs q => b.tups c xs (a.tups c xs q)
  frzs := fun c ob xs q => b.frzs c ob xs (a.frzs c ob xs q)
  tbls := fun c ps q => by
    obtain ⟨m1, e1⟩ := a.tbls c ps q
    obtain ⟨m2, e2⟩ := b.tbls c _ e1
    exact ⟨m1 ++ m2, by rw [e2, Array.append_assoc]⟩
theorem Un.kept (k : ∀ b u, h.get? b = some u → h'.get? b = some u) : Un fs ex H H h h' :=
  ⟨fun b ob q _ _ _ => k b ob q, fun b ob q _ _ _ => ⟨ob.slots, k b ob q⟩, fun _ _ _ n _ => n, fun b ob q _ => ⟨ob, k b ob q⟩, fun _ _ q => q, fun _ _ _ q => q, fun _ ps q => ⟨#[], by rw [q]; simp⟩⟩
theorem Un.refl : Un fs ex H H h h := Un.kept fun _ _ q => q
theorem Un.laid (k : ∀ b u, h.get? b = some u → h'.get? b = some u) (hp : h.objs.size ≤ a) (hn : H a = none) : Un fs ex H (upd H a o) h h' where
  keep := fun b u q _ _ _ => k b u q
  slot := fun b u q _ _ _ => ⟨u.slots, k b u q⟩
  free := fun b u q n _ => by rw [upd_ne (Nat.ne_of_lt (Nat.lt_of_lt_of_le (Heap.lt_size q) hp))]; exact n
  there := fun b u q _ => ⟨u, k b u q⟩
  tups := fun b xs q => by rw [upd_ne (ne_of_none q hn)]; exact q
  frzs := fun b u xs q => by rw [upd_ne (ne_of_none q hn)]; exact q
  tbls := fun b ps q => ⟨#[], by rw [upd_ne (ne_of_none q hn), q]; simp⟩
theorem Un.write (mu : Mut (H x)) (he : e = x ∨ H e = some (.own x)) (k : ∀ b u, b ≠ e → h.get? b = some u → h'.get? b = some u) (heo : ∃ u, h'.get? e = some u) : Un fs ex H (upd H x o) h h' := by
  have hx : ∀ b, H b = none → b ≠ x := fun b n z => by subst z; rw [n] at mu; exact mu
  have hb : ∀ b, H b = none → b ≠ e := fun b n z => by
    subst z
    rcases he with r | r
    · exact hx b n r
    · rw [n] at r; cases r
  have hm : ∀ b u, H b = some u → ¬ Mut (some u) → b ≠ x := fun b u q nm z => by subst z; rw [q] at mu; exact nm mu
  refine ⟨fun b u q n _ _ => k b u (hb b n) q, fun b u q n _ _ => ⟨u.slots, k b u (hb b n) q⟩, fun b u q n _ => by rw [upd_ne (hx b n)]; exact n, fun b u q _ => ?_,
    fun b xs q => by rw [upd_ne (hm b _ q fun z => z)]; exact q, fun b u xs q => by rw [upd_ne (hm b _ q fun z => z)]; exact q, fun b ps q => ⟨#[], by rw [upd_ne (hm b _ q fun z => z), q]; simp⟩⟩
  by_cases hbe : b = e
  · subst hbe; exact heo
  · exact ⟨u, k b u hbe q⟩
theorem Un.mono (u : Un fs ex H H1 h h1) (hs : ∀ b ∈ fs, b ∈ fs') (hx : ∀ b ∈ ex, b ∈ ex') : Un fs' ex' H H1 h h1 :=
  ⟨fun b ob q n hb he => u.keep b ob q n (fun z => hb (hs b z)) fun z => he (hx b z), fun _ _ q n _ he => u.any q n fun z => he (hx _ z), fun b ob q n he => u.free b ob q n fun z => he (hx b z), fun b ob q he => u.there b ob q fun z => he (hx b z), u.tups, u.frzs, u.tbls⟩
end

/-! ### the heap without what is tracked -/
def trk (h : Heap) (H : Hp) : List Addr := (List.range h.objs.size).filter fun a => (H a).isSome
def hidT (h : Heap) (H : Hp) : Heap := PySem.W.hideAll h (trk h H)
theorem hidT_size (h : Heap) (H : Hp) : (hidT h H).objs.size = h.objs.size := PySem.W.hideAll_size _ _
theorem hidT_get {h : Heap} {H : Hp} {b : Addr} {o : Obj} (e : h.get? b = some o) (n : H b = none) : (hidT h H).get? b = some o :=
  PySem.W.hideAll_get _ e fun hm => by
    have q : (H b).isSome = true := (List.mem_filter.mp hm).2
    rw [n] at q; simp at q
theorem of_hidT {h : Heap} {H : Hp} {b : Addr} {o : Obj} (e : (hidT h H).get? b = some o) : h.get? b = some o ∧ H b = none := by
  have e' : h.get? b = some o := PySem.W.of_hideAll (trk h H) e
  refine ⟨e', ?_⟩
  cases q : H b with
  | none => rfl
  | some x =>
    have hm : b ∈ trk h H := List.mem_filter.mpr ⟨List.mem_range.mpr (Heap.lt_size e'), by simp [q]⟩
    have z : (hidT h H).get? b = none := PySem.W.hideAll_none (trk h H) hm
    rw [z] at e; cases e

/-! ### OpenK's ledger, filled with every new object but one -/
def allNews (g h : Heap) (L : Addr) : List (Addr × Obj) := (List.range h.objs.size).filterMap fun a => if a = L ∨ (g.get? a).isSome = true then none else (h.get? a).map fun o => (a, o)
theorem mem_allNews {g h : Heap} {L a : Addr} {o : Obj} (h1 : a ≠ L) (h2 : g.get? a = none) (h3 : h.get? a = some o) : (a, o) ∈ allNews g h L :=
  List.mem_filterMap.mpr ⟨a, List.mem_range.mpr (Heap.lt_size h3), by simp [h1, h2, h3]⟩
theorem of_mem_allNews {g h : Heap} {L : Addr} {p : Addr × Obj} (hp : p ∈ allNews g h L) : p.1 ≠ L ∧ g.get? p.1 = none ∧ h.get? p.1 = some p.2 := by
  obtain ⟨b, _, e⟩ := List.mem_filterMap.mp hp
  split at e
  · cases e
  · rename_i hn
    cases q : h.get? b with
    | none => rw [q] at e; simp at e
    | some u =>
      rw [q] at e
      simp only [Option.map_some, Option.some.injEq] at e
      subst e
      refine ⟨fun z => hn (.inl z), ?_, q⟩
      show g.get? b = none
      cases r : g.get? b with
      | none => rfl
      | some v => exact (hn (.inr (by simp [r]))).elim
def rest (g h : Heap) (L d : Addr) : List (Addr × Obj) := (allNews g h L).filter fun p => decide (p.1 ≠ d)
theorem rest_ne {g h : Heap} {L d : Addr} : ∀ p ∈ rest g h L d, p.1 ≠ d := fun p hp => of_decide_eq_true (List.mem_filter.mp hp).2
theorem mem_rest {g h : Heap} {L d a : Addr} {o : Obj} (h1 : a ≠ L) (h2 : g.get? a = none) (h3 : h.get? a = some o) (h4 : a ≠ d) : (a, o) ∈ rest g h L d :=
  List.mem_filter.mpr ⟨mem_allNews h1 h2 h3, decide_eq_true h4⟩
theorem news_all {g h : Heap} {L : Addr} : News g L h (allNews g h L) := fun p hp => let ⟨a, b, c⟩ := of_mem_allNews hp; ⟨c, a, b⟩
theorem news_at {g h : Heap} {L d : Addr} {o : Obj} (h1 : d ≠ L) (h2 : g.get? d = none) (h3 : h.get? d = some o) : News g L h ((d, o) :: rest g h L d) := fun p hp => by
  rcases List.mem_cons.mp hp with rfl | hp
  · exact ⟨h3, h1, h2⟩
  · exact news_all p (List.mem_filter.mp hp).1
/-- behind a rule that changed d alone: all else but the frame is kept -/
theorem kept_of_news {g h h' : Heap} {L d : Addr} {m : Str → Option Value} (k : ∀ b o, g.get? b = some o → h.get? b = some o) (F : Fr g L h' m) (N : News g L h' (rest g h L d)) :
    ∀ b o, b ≠ L → b ≠ d → h.get? b = some o → h'.get? b = some o := fun b o h1 h2 e => by
  cases q : g.get? b with
  | some u =>
    have := k b u q
    rw [e] at this; cases this
    exact F.keep b _ q
  | none => exact (N (b, o) (mem_rest h1 q e h2)).1
end L2

namespace L2
open PySem PySem.Spec PyProof.Rows

/-- the module's facts, over the base: the heap at the law's entry without what is tracked there -/
structure Mod (K : PySem.W.Frag) (mg : Str → Option Value) (base : Heap) : Prop where
  kin : K.In base
  glob : base.Ns mainGlobals mg
  blt : ∃ mb, base.Ns builtinsNs mb ∧ ∀ x : Str, x ≠ "__name__" → mb x = bootBuiltins x
  nolimit : base.NoLimit

/-- the context: a def's body (or a comprehension's block) running. base: fixed through the whole law; s₀, H₀: the entry; outer: the frames whose slots others may change (a def's callers); stack: all frames that run;
   ex: iterators that were made ahead of the entry and are walked here (a comprehension's); fn: the names whose cells were made at the entry (a def: all; a comprehension's block: its own); calm: not within an except suite; pn: pins that every state bears; xe: what is wanted of an exception that leaves the code -/
structure Cx where
  prog : Program
  w : World
  K : PySem.W.Frag
  mg : Str → Option Value
  base : Heap
  A : Around
  N : List Str
  s₀ : Shared
  H₀ : Hp
  env : Env
  outer : List Env
  stack : List Env
  ex : List Addr
  fn : Str → Bool
  calm : Bool
  pn : List (Addr × Obj)
  xe : Value → Shared → Prop
/-- the callers' frames -/
def frs (l : List Env) : List Addr := l.filterMap (·.frame)
abbrev Cx.fs (X : Cx) : List Addr := frs X.outer

def Vis (sc : Scope) (x : Str) : Prop := sc.names.lookup x = some .local ∨ sc.names.lookup x = some .cell ∨ sc.names.lookup x = some .free
def Loc (sc : Scope) (x : Str) : Prop := sc.names.lookup x = some .local ∨ sc.names.lookup x = some .cell
def Look (env : Env) (h : Heap) (m : Str → Option Value) (x : Str) (u : Value) : Prop :=
  (env.kindOf x = some .local ∧ m x = some u) ∨ ((env.kindOf x = some .cell ∨ env.kindOf x = some .free) ∧ ∃ c, env.cells.lookup x = some c ∧ h.IsCell c (some u))

structure Cx.Ok (X : Cx) : Prop where
  mod : Mod X.K X.mg X.base
  kind : X.env.scope.kind = .function
  glob : X.env.globals = mainGlobals
  blt : X.env.builtins = builtinsNs
  above : X.s₀.heap.objs.size ≤ X.env.locals
  inj : ∀ x y c, X.env.cells.lookup x = some c → X.env.cells.lookup y = some c → x = y
  has : ∀ x, (X.env.kindOf x = some .cell ∨ X.env.kindOf x = some .free) → ∃ c, X.env.cells.lookup x = some c
  cab : ∀ x c, X.fn x = true → X.env.cells.lookup x = some c → X.s₀.heap.objs.size ≤ c
  hd : X.calm = true → X.A.handled = none
  frames : X.A.frames = some X.stack
  stk : X.stack = X.outer ∨ (X.stack = X.env :: X.outer ∧ X.env.frame = some X.env.locals)
  exf : ∀ b ∈ X.ex, b ≠ X.env.locals ∧ ∀ x c, X.env.cells.lookup x = some c → c ≠ b
  bs : ∀ b o, X.base.get? b = some o → X.s₀.heap.get? b = some o ∧ X.H₀ b = none
  bsz : X.base.objs.size ≤ X.s₀.heap.objs.size
  noex : ∀ b o, X.base.get? b = some o → b ∉ X.ex
  exfs : ∀ b ∈ X.ex, b ∉ X.fs
  funs : X.s₀.heap.FunFrames X.base X.outer
  frf : ∀ b ∈ X.fs, X.H₀ b = none

structure Inv (X : Cx) (pins : List (Addr × Obj)) (σ : List (Option V)) (H : Hp) (s : Shared) : Prop where
  ok : X.Ok
  os : s.os = X.s₀.os
  bare : AllBare s.gens
  base : Un X.fs X.ex X.H₀ H X.s₀.heap s.heap
  loc : ∃ m, s.heap.Ns X.env.locals m ∧ ∀ (i : Nat) (x : Str) (v : V), X.N[i]? = some x → σ[i]? = some (some v) → Vis X.env.scope x → ∃ u, RelV v u ∧ Look X.env s.heap m x u
  cell : ∀ x c, X.env.cells.lookup x = some c → ∃ v, s.heap.IsCell c v
  free : H X.env.locals = none
  freeC : ∀ x c, X.env.cells.lookup x = some c → H c = none
  pin : ∀ p ∈ X.pn ++ pins, s.heap.get? p.1 = some p.2 ∧ H p.1 = none ∧ p.1 ≠ X.env.locals ∧ p.1 ∉ X.fs ∧ ∀ v, p.2.data ≠ .cell v
  hok : HOk X.prog X.w H s.heap
  len : σ.length = X.N.length

section
variable {X : Cx} {pins : List (Addr × Obj)} {σ : List (Option V)} {H H' : Hp} {s : Shared} {h' : Heap}

theorem Cx.Ok.nofr (ok : X.Ok) {b : Addr} {o : Obj} (e : X.base.get? b = some o) : b ∉ X.fs := fun hb => by
  have := (ok.funs.mem hb).1
  rw [e] at this; cases this
theorem Inv.bs (I : Inv X pins σ H s) : ∀ b o, X.base.get? b = some o → s.heap.get? b = some o ∧ H b = none := fun b o e =>
  ⟨I.base.keep b o (I.ok.bs b o e).1 (I.ok.bs b o e).2 (I.ok.nofr e) (I.ok.noex b o e), I.base.free b o (I.ok.bs b o e).1 (I.ok.bs b o e).2 (I.ok.noex b o e)⟩
theorem Inv.bk (I : Inv X pins σ H s) : ∀ b o, X.base.get? b = some o → s.heap.get? b = some o := fun b o e => (I.bs b o e).1
theorem Inv.mod (I : Inv X pins σ H s) : Mod X.K X.mg X.base := I.ok.mod
theorem Inv.kIn (I : Inv X pins σ H s) : X.K.In s.heap := I.ok.mod.kin.keeps I.bk
theorem Inv.nolimit (I : Inv X pins σ H s) : s.heap.NoLimit := I.ok.mod.nolimit.keeps I.bk
/-- the frame over the base: for OpenK's rules (K.In X.base is I.mod.kin) -/
theorem Inv.fr (I : Inv X pins σ H s) : ∃ m, Fr X.base X.env.locals s.heap m :=
  let ⟨m, hn, _⟩ := I.loc
  ⟨m, hn, I.bk, Nat.le_trans I.ok.bsz I.ok.above⟩
theorem Inv.lt (I : Inv X pins σ H s) : X.env.locals < s.heap.objs.size := let ⟨_, hn, _⟩ := I.loc; hn.lt
theorem Inv.sz (I : Inv X pins σ H s) : X.s₀.heap.objs.size ≤ s.heap.objs.size := Nat.le_trans I.ok.above (Nat.le_of_lt I.lt)
theorem Inv.nofs (I : Inv X pins σ H s) {a : Addr} (h : s.heap.objs.size ≤ a) : a ∉ X.fs := fun hb => by
  obtain ⟨_, o, ho, _⟩ := I.ok.funs.mem hb
  exact absurd (Nat.lt_of_lt_of_le (Heap.lt_size ho) (Nat.le_trans I.sz h)) (Nat.lt_irrefl _)
theorem Inv.cne (I : Inv X pins σ H s) : ∀ x c, X.env.cells.lookup x = some c → c ≠ X.env.locals := fun x c e z => by
  obtain ⟨v, o, ho, hd⟩ := I.cell x c e
  obtain ⟨m, ⟨o', es, ep, ho', hd', _⟩, _⟩ := I.loc
  rw [z, ho'] at ho; cases ho; rw [hd'] at hd; cases hd
theorem Inv.funs (I : Inv X pins σ H s) : s.heap.FunFrames X.base X.outer := by
  have all : ∀ (l : List Env), (∀ b ∈ frs l, b ∈ X.fs) → X.s₀.heap.FunFrames X.base l → s.heap.FunFrames X.base l := by
    intro l
    induction l with
    | nil => intro _ _; trivial
    | cons env r ih =>
      intro hs hl
      obtain ⟨hk, ⟨L, o, hf, hn, ho, hd⟩, hr⟩ := hl
      have hL : L ∈ X.fs := hs L (by unfold frs; rw [List.filterMap_cons, hf]; exact List.mem_cons_self)
      obtain ⟨sl, e⟩ := I.base.slot L o ho (I.ok.frf L hL) hL fun z => I.ok.exfs L z hL
      exact ⟨hk, ⟨L, _, hf, hn, e, hd⟩, ih (fun b hb => hs b (by unfold frs; rw [List.filterMap_cons, hf]; exact List.mem_cons_of_mem _ hb)) hr⟩
  exact all X.outer (fun _ hb => hb) I.ok.funs

/-- the frames that run, for a call -/
theorem Inv.stack (I : Inv X pins σ H s) : s.heap.FunFrames X.base X.stack := by
  rcases I.ok.stk with e | ⟨e, hf⟩
  · rw [e]; exact I.funs
  · rw [e]
    obtain ⟨m, hn, _⟩ := I.loc
    refine .cons (by rw [I.ok.kind]; decide) hf hn ?_ I.funs
    exact Heap.get?_none_of_le (Nat.le_trans I.ok.bsz I.ok.above)
theorem Inv.stkSub (I : Inv X pins σ H s) : ∀ b ∈ frs X.stack, b ∈ X.env.locals :: X.fs := fun b hb => by
  rcases I.ok.stk with e | ⟨e, hf⟩
  · rw [e] at hb; exact List.mem_cons_of_mem _ hb
  · rw [e] at hb
    unfold frs at hb
    rw [List.filterMap_cons, hf] at hb
    exact hb
theorem Inv.stkFree (I : Inv X pins σ H s) : ∀ b ∈ frs X.stack, H b = none := fun b hb => by
  rcases List.mem_cons.mp (I.stkSub b hb) with e | hb
  · rw [e]; exact I.free
  · obtain ⟨_, o, ho, _⟩ := I.ok.funs.mem hb
    exact I.base.free b o ho (I.ok.frf b hb) fun z => I.ok.exfs b z hb

/-- THE STEP: the untracked objects but the frame and the records at ch are kept (the callers' frames up to slots), the frame's map is kept, the new abstract heap is held -/
theorem Inv.step {g' : Array GenState} {t' : Nat} {d' : Drawn} {ch : List Addr} (I : Inv X pins σ H s)
    (hch : ∀ b ∈ ch, (b ∈ X.ex ∨ X.s₀.heap.objs.size ≤ b) ∧ b ≠ X.env.locals ∧ (∀ x c, X.env.cells.lookup x = some c → c ≠ b) ∧ ∀ p ∈ X.pn ++ pins, p.1 ≠ b)
    (keep : ∀ b o, b ≠ X.env.locals → b ∉ X.fs → b ∉ ch → s.heap.get? b = some o → H b = none → h'.get? b = some o)
    (slot : ∀ b o, b ≠ X.env.locals → b ∈ X.fs → b ∉ ch → s.heap.get? b = some o → H b = none → ∃ sl, h'.get? b = some { o with slots := sl }) (free : ∀ b o, b ∉ ch → s.heap.get? b = some o → H b = none → H' b = none)
    (there : ∀ b o, b ∉ ch → s.heap.get? b = some o → ∃ o', h'.get? b = some o')
    (tups : ∀ b xs, H b = some (.tup xs) → H' b = some (.tup xs)) (frzs : ∀ b o u, H b = some (.frz o u) → H' b = some (.frz o u)) (tbls : ∀ b ps, H b = some (.tbl ps) → ∃ more, H' b = some (.tbl (ps ++ more)))
    (ns : ∀ m, s.heap.Ns X.env.locals m → h'.Ns X.env.locals m) (hok : HOk X.prog X.w H' h') (hg : AllBare g') :
    Inv X pins σ H' { s with heap := h', gens := g', drawn := d', toks := t' } := by
  have neL : ∀ b o, X.s₀.heap.get? b = some o → b ≠ X.env.locals := fun b o e => Nat.ne_of_lt (Nat.lt_of_lt_of_le (Heap.lt_size e) I.ok.above)
  have neC : ∀ b o, X.s₀.heap.get? b = some o → b ∉ X.ex → b ∉ ch := fun b o e hx hb => by
    rcases (hch b hb).1 with z | z
    · exact hx z
    · exact absurd (Nat.lt_of_lt_of_le (Heap.lt_size e) z) (Nat.lt_irrefl _)
  have cellK : ∀ x c, X.env.cells.lookup x = some c → ∀ v, s.heap.IsCell c v → h'.IsCell c v := fun x c e v ⟨o, ho, hd⟩ => by
    have nch : c ∉ ch := fun z => (hch c z).2.2.1 x c e rfl
    by_cases hc : c ∈ X.fs
    · obtain ⟨sl, q⟩ := slot c o (I.cne x c e) hc nch ho (I.freeC x c e)
      exact ⟨_, q, hd⟩
    · exact ⟨o, keep c o (I.cne x c e) hc nch ho (I.freeC x c e), hd⟩
  refine ⟨I.ok, I.os, hg, ⟨fun b o e n hb hx => ?_, fun b o e n hb hx => ?_, fun b o e n hx => ?_, fun b o e hx => ?_, fun b xs e => tups b xs (I.base.tups b xs e), fun b o xs e => frzs b o xs (I.base.frzs b o xs e), fun b ps e => ?_⟩, ?_, fun x c e => ?_, ?_, fun x c e => ?_, fun p hp => ?_, hok, I.len⟩
  · exact keep b o (neL b o e) hb (neC b o e hx) (I.base.keep b o e n hb hx) (I.base.free b o e n hx)
  · obtain ⟨sl, e1⟩ := I.base.slot b o e n hb hx
    obtain ⟨sl', e2⟩ := slot b _ (neL b o e) hb (neC b o e hx) e1 (I.base.free b o e n hx)
    exact ⟨sl', e2⟩
  · obtain ⟨o', e1⟩ := I.base.there b o e hx
    exact free b o' (neC b o e hx) e1 (I.base.free b o e n hx)
  · obtain ⟨o', e1⟩ := I.base.there b o e hx
    exact there b o' (neC b o e hx) e1
  · obtain ⟨m1, e1⟩ := I.base.tbls b ps e
    obtain ⟨m2, e2⟩ := tbls b _ e1
    exact ⟨m1 ++ m2, by rw [e2, Array.append_assoc]⟩
  · obtain ⟨m, hn, hl⟩ := I.loc
    refine ⟨m, ns m hn, fun i x v e1 e2 e3 => ?_⟩
    obtain ⟨u, r, l⟩ := hl i x v e1 e2 e3
    refine ⟨u, r, ?_⟩
    rcases l with l | ⟨k, c, e, z⟩
    · exact .inl l
    · exact .inr ⟨k, c, e, cellK x c e _ z⟩
  · obtain ⟨v, z⟩ := I.cell x c e
    exact ⟨v, cellK x c e v z⟩
  · obtain ⟨m, ⟨o, _, _, ho, _⟩, _⟩ := I.loc
    exact free _ o (fun z => (hch _ z).2.1 rfl) ho I.free
  · obtain ⟨v, o, ho, hd⟩ := I.cell x c e
    exact free c o (fun z => (hch c z).2.2.1 x c e rfl) ho (I.freeC x c e)
  · obtain ⟨e, n, ne, nf, d⟩ := I.pin p hp
    have nch : p.1 ∉ ch := fun z => (hch p.1 z).2.2.2 p hp rfl
    exact ⟨keep p.1 p.2 ne nf nch e n, free p.1 p.2 nch e n, ne, nf, d⟩
/-- .. where the frame's own object is kept too -/
theorem Inv.un {t' : Nat} (I : Inv X pins σ H s) (u : Un X.fs [] H H' s.heap h') (hok : HOk X.prog X.w H' h') : Inv X pins σ H' { s with heap := h', toks := t' } := by
  obtain ⟨m, ⟨o, es, ep, ho, r⟩, _⟩ := id I.loc
  obtain ⟨sl, hL⟩ := u.any ho I.free (by simp)
  exact I.step (g' := s.gens) (d' := s.drawn) (ch := []) (fun _ z => nomatch z) (fun b o _ hb _ e n => u.keep b o e n hb (by simp)) (fun b o _ hb _ e n => u.slot b o e n hb (by simp)) (fun b o _ e n => u.free b o e n (by simp)) (fun b o _ e => u.there b o e (by simp)) u.tups u.frzs u.tbls (fun m' hm => by
    obtain ⟨o', es', ep', ho', r'⟩ := hm
    rw [ho] at ho'; cases ho'
    exact ⟨_, es', ep', hL, r'⟩) hok I.bare
/-- behind a call (or a comprehension's block): the slots of this frame may have changed too, the records at ch may have turned -/
theorem Inv.call {g' : Array GenState} {t' : Nat} {d' : Drawn} {ch : List Addr} (I : Inv X pins σ H s) (u : Un (frs X.stack) ch H H' s.heap h') (hok : HOk X.prog X.w H' h') (hg : AllBare g')
    (hch : ∀ b ∈ ch, (b ∈ X.ex ∨ X.s₀.heap.objs.size ≤ b) ∧ b ≠ X.env.locals ∧ (∀ x c, X.env.cells.lookup x = some c → c ≠ b) ∧ ∀ p ∈ X.pn ++ pins, p.1 ≠ b) :
    Inv X pins σ H' { s with heap := h', gens := g', drawn := d', toks := t' } := by
  obtain ⟨m, ⟨o, es, ep, ho, r⟩, _⟩ := id I.loc
  obtain ⟨sl, hL⟩ := u.any ho I.free fun z => (hch _ z).2.1 rfl
  exact I.step (ch := ch) hch (fun b o hL hb hc e n => u.keep b o e n (fun z => (List.mem_cons.mp (I.stkSub b z)).elim hL hb) hc) (fun b o _ _ hc e n => u.any e n hc) (fun b o hc e n => u.free b o e n hc) (fun b o hc e => u.there b o e hc) u.tups u.frzs u.tbls (fun m' hm => by
    obtain ⟨o', es', ep', ho', r'⟩ := hm
    rw [ho] at ho'; cases ho'
    exact ⟨_, es', ep', hL, r'⟩) hok hg
/-- an untracked record of ours (an iterator) has turned -/
theorem Inv.turned {t' : Nat} {it : Addr} (I : Inv X pins σ H s) (k : ∀ b o, b ≠ it → s.heap.get? b = some o → h'.get? b = some o) (hn : H it = none) (hL : it ≠ X.env.locals)
    (h1 : it ∈ X.ex ∨ X.s₀.heap.objs.size ≤ it) (h2 : ∀ x c, X.env.cells.lookup x = some c → c ≠ it) (h3 : ∀ p ∈ X.pn ++ pins, p.1 ≠ it) : Inv X pins σ H { s with heap := h', toks := t' } := by
  have nit : ∀ b u, H b = some u → b ≠ it := fun b u e z => by rw [z, hn] at e; cases e
  refine I.step (g' := s.gens) (d' := s.drawn) (ch := [it]) (fun b hb => ?_) (fun b o _ _ hc e _ => k b o (fun z => hc (by simp [z])) e) (fun b o _ _ hc e _ => ⟨o.slots, k b o (fun z => hc (by simp [z])) e⟩) (fun _ _ _ _ n => n)
    (fun b o hc e => ⟨o, k b o (fun z => hc (by simp [z])) e⟩) (fun _ _ e => e) (fun _ _ _ e => e) (fun b ps e => ⟨#[], by rw [e]; simp⟩) (fun m hm => ?_) (fun b u e => ?_) I.bare
  · have e : b = it := by simpa using hb
    subst e
    exact ⟨h1, hL, h2, h3⟩
  · obtain ⟨o, es, ep, ho, r⟩ := hm
    exact ⟨o, es, ep, k _ o (Ne.symm hL) ho, r⟩
  · refine (I.hok b u e).stay (fun c v hc q => k c v ?_ q) (fun _ q => q) fun _ _ q => q
    rcases hc with z | z
    · rw [z]; exact nit b u e
    · exact nit c _ z
theorem Inv.tok (I : Inv X pins σ H s) (t : Nat) : Inv X pins σ H { s with toks := t } := I.un (h' := s.heap) (t' := t) Un.refl I.hok
/-- all objects kept -/
theorem Inv.kept {t' : Nat} (I : Inv X pins σ H s) (k : ∀ b u, s.heap.get? b = some u → h'.get? b = some u) : Inv X pins σ H { s with heap := h', toks := t' } := I.un (Un.kept k) (I.hok.kept k)
/-- a new object laid and tracked -/
theorem Inv.laid {a : Addr} {o : HO} {t' : Nat} (I : Inv X pins σ H s) (k : ∀ b u, s.heap.get? b = some u → h'.get? b = some u) (hp : s.heap.objs.size ≤ a) (new : ObjOk X.prog X.w (upd H a o) h' a o) :
    Inv X pins σ (upd H a o) { s with heap := h', toks := t' } := I.un (Un.laid k hp (I.hok.fresh hp)) (I.hok.laid k hp new)
/-- an object written -/
theorem Inv.write {x e : Addr} {o : HO} {t' : Nat} (I : Inv X pins σ H s) (mu : Mut (H x)) (he : e = x ∨ H e = some (.own x)) (k : ∀ b u, b ≠ e → s.heap.get? b = some u → h'.get? b = some u) (heo : ∃ u, h'.get? e = some u)
    (new : ObjOk X.prog X.w (upd H x o) h' x o) : Inv X pins σ (upd H x o) { s with heap := h', toks := t' } := I.un (Un.write mu he k heo) (I.hok.write mu he k heo new)
/-- forgetting slots, pins -/
theorem Inv.weak {σ' : List (Option V)} (I : Inv X pins σ H s) (hl : σ'.length = σ.length) (w : ∀ (i : Nat) v, σ'[i]? = some (some v) → σ[i]? = some (some v)) : Inv X pins σ' H s :=
  ⟨I.ok, I.os, I.bare, I.base, let ⟨m, hn, hl'⟩ := I.loc; ⟨m, hn, fun i x v e1 e2 e3 => hl' i x v e1 (w i v e2) e3⟩, I.cell, I.free, I.freeC, I.pin, I.hok, hl.trans I.len⟩
theorem Inv.pins_of {pins' : List (Addr × Obj)} (I : Inv X pins σ H s) (h : ∀ p ∈ pins', s.heap.get? p.1 = some p.2 ∧ H p.1 = none ∧ p.1 ≠ X.env.locals ∧ p.1 ∉ X.fs ∧ ∀ v, p.2.data ≠ .cell v) : Inv X pins' σ H s :=
  ⟨I.ok, I.os, I.bare, I.base, I.loc, I.cell, I.free, I.freeC, fun p hp => (List.mem_append.mp hp).elim (fun z => I.pin p (List.mem_append_left _ z)) (h p), I.hok, I.len⟩

theorem nodup_ix {N : List Str} (hN : N.Nodup) {i j : Nat} {x : Str} (a : N[i]? = some x) (b : N[j]? = some x) : i = j := by
  obtain ⟨h1, e1⟩ := List.getElem?_eq_some_iff.mp a
  obtain ⟨h2, e2⟩ := List.getElem?_eq_some_iff.mp b
  exact (List.getElem_inj hN).mp (e1.trans e2.symm)

/-- a name is stored; what changed -/
theorem store_ok2 {M : Model} {A : Around} {E : Value → Shared → Prop} {i : Nat} {x : Str} {v : V} {u : Value} {Q : Unit → Shared → Prop} (I : Inv X pins σ H s) (hN : X.N.Nodup) (hi : X.N[i]? = some x) (hx : Loc X.env.scope x) (r : RelV v u)
    (h : ∀ s', Inv X pins (σ.set i (some v)) H s' → (∃ a, Heap.SameBut a s.heap s'.heap ∧ (a = X.env.locals ∨ X.env.cells.lookup x = some a)) → Q () s') (hf : X.fn x = true ∨ X.env.scope.names.lookup x = some .local := by first | exact .inl rfl | exact .inr rfl | assumption) : wpAny M A (storeName X.env x u) Q E s := by
  obtain ⟨m, hn, hl⟩ := id I.loc
  have hcls : (X.env.scope.kind == .class || (X.env.scope.kind == .module && X.env.locals != X.env.globals)) = false := by rw [I.ok.kind]; rfl
  have hiσ : i < σ.length := by rw [I.len]; exact (List.getElem?_eq_some_iff.mp hi).1
  have cne := I.cne
  have tracked : ∀ {a : Addr} {h' : Heap}, (∃ o, s.heap.get? a = some o ∧ H a = none) → Heap.SameBut a s.heap h' → HOk X.prog X.w H h' := fun {a h'} ha hs b ob e => by
    obtain ⟨_, _, hfree⟩ := ha
    refine (I.hok b ob e).stay (fun c w' hc q => (hs.2 c ?_).trans q) (fun _ q => q) fun _ _ q => q
    rintro rfl
    rcases hc with rfl | hc
    · rw [hfree] at e; cases e
    · rw [hfree] at hc; cases hc
  rcases hx with hk | hk
  · refine wpAny_storeName_local hk hn (fun h' hn' hs => ?_) hcls
    obtain ⟨oL, _, _, hoL, _⟩ := id hn
    refine h _ ⟨I.ok, I.os, I.bare, ⟨fun b o e n hb hx => ?_, fun b o e n hb hx => ?_, I.base.free, fun b o e hx => ?_, I.base.tups, I.base.frzs, I.base.tbls⟩, ⟨_, hn', fun j y v' e1 e2 e3 => ?_⟩, fun y c e => ?_, I.free, I.freeC, fun p hp => ?_, tracked ⟨oL, hoL, I.free⟩ hs, by simpa using I.len⟩ ⟨_, hs, .inl rfl⟩
    · exact (hs.2 b (Nat.ne_of_lt (Nat.lt_of_lt_of_le (Heap.lt_size e) I.ok.above))).trans (I.base.keep b o e n hb hx)
    · obtain ⟨sl, e1⟩ := I.base.slot b o e n hb hx
      exact ⟨sl, (hs.2 b (Nat.ne_of_lt (Nat.lt_of_lt_of_le (Heap.lt_size e) I.ok.above))).trans e1⟩
    · obtain ⟨o', e1⟩ := I.base.there b o e hx
      exact ⟨o', (hs.2 b (Nat.ne_of_lt (Nat.lt_of_lt_of_le (Heap.lt_size e) I.ok.above))).trans e1⟩
    · by_cases hj : j = i
      · subst hj
        rw [hi] at e1; cases e1
        rw [List.getElem?_set_self hiσ] at e2
        cases e2
        exact ⟨u, r, .inl ⟨hk, by simp⟩⟩
      · rw [List.getElem?_set_ne (Ne.symm hj)] at e2
        obtain ⟨u', r', q⟩ := hl j y v' e1 e2 e3
        refine ⟨u', r', ?_⟩
        rcases q with ⟨k, e⟩ | ⟨k, c, e, z⟩
        · refine .inl ⟨k, ?_⟩
          have : y ≠ x := fun e => hj (nodup_ix hN e1 (e ▸ hi))
          simp [this, e]
        · exact .inr ⟨k, c, e, z.sameBut hs (cne y c e)⟩
    · obtain ⟨w', z⟩ := I.cell y c e
      exact ⟨w', z.sameBut hs (cne y c e)⟩
    · obtain ⟨e, n, ne, nf, d⟩ := I.pin p hp
      exact ⟨(hs.2 p.1 ne).trans e, n, ne, nf, d⟩
  · have hfn : X.fn x = true := by
      rcases hf with z | z
      · exact z
      · rw [z] at hk; cases hk
    obtain ⟨c, hc⟩ := I.ok.has x (.inl hk)
    obtain ⟨w', z⟩ := I.cell x c hc
    refine wpAny_storeName_cell I.ok.kind hk hc z (fun h' hc' hs => ?_)
    obtain ⟨oc, hoc, hocd⟩ := id z
    refine h { s with heap := h' } ⟨I.ok, I.os, I.bare, ⟨fun b o e n hb hx => ?_, fun b o e n hb hx => ?_, I.base.free, fun b o e hx => ?_, I.base.tups, I.base.frzs, I.base.tbls⟩, ⟨m, hn.sameBut hs (Ne.symm (cne x c hc)), fun j y v' e1 e2 e3 => ?_⟩, fun y c' e => ?_, I.free, I.freeC, fun p hp => ?_, tracked ⟨oc, hoc, I.freeC x c hc⟩ hs, by simpa using I.len⟩ ⟨c, hs, .inr hc⟩
    · exact (hs.2 b (Nat.ne_of_lt (Nat.lt_of_lt_of_le (Heap.lt_size e) (I.ok.cab x c hfn hc)))).trans (I.base.keep b o e n hb hx)
    · obtain ⟨sl, e1⟩ := I.base.slot b o e n hb hx
      exact ⟨sl, (hs.2 b (Nat.ne_of_lt (Nat.lt_of_lt_of_le (Heap.lt_size e) (I.ok.cab x c hfn hc)))).trans e1⟩
    · obtain ⟨o', e1⟩ := I.base.there b o e hx
      exact ⟨o', (hs.2 b (Nat.ne_of_lt (Nat.lt_of_lt_of_le (Heap.lt_size e) (I.ok.cab x c hfn hc)))).trans e1⟩
    · by_cases hj : j = i
      · subst hj
        rw [hi] at e1; cases e1
        rw [List.getElem?_set_self hiσ] at e2
        cases e2
        exact ⟨u, r, .inr ⟨.inl hk, c, hc, hc'⟩⟩
      · rw [List.getElem?_set_ne (Ne.symm hj)] at e2
        obtain ⟨u', r', q⟩ := hl j y v' e1 e2 e3
        refine ⟨u', r', ?_⟩
        rcases q with q | ⟨k, c', e, z'⟩
        · exact .inl q
        · refine .inr ⟨k, c', e, z'.sameBut hs ?_⟩
          rintro rfl
          exact hj (nodup_ix hN e1 (I.ok.inj _ _ _ e hc ▸ hi))
    · by_cases hcc : c' = c
      · subst hcc; exact ⟨_, hc'⟩
      · obtain ⟨w2, z2⟩ := I.cell y c' e
        exact ⟨w2, z2.sameBut hs hcc⟩
    · obtain ⟨e, n, ne, nf, d⟩ := I.pin p hp
      refine ⟨(hs.2 p.1 ?_).trans e, n, ne, nf, d⟩
      intro q
      rw [q, hoc] at e
      have q' : oc = p.2 := Option.some.inj e
      exact d w' (by rw [← q']; exact hocd)
theorem store_ok {M : Model} {A : Around} {E : Value → Shared → Prop} {i : Nat} {x : Str} {v : V} {u : Value} {Q : Unit → Shared → Prop} (I : Inv X pins σ H s) (hN : X.N.Nodup) (hi : X.N[i]? = some x) (hx : Loc X.env.scope x) (r : RelV v u)
    (h : ∀ s', Inv X pins (σ.set i (some v)) H s' → Q () s') (hf : X.fn x = true ∨ X.env.scope.names.lookup x = some .local := by first | exact .inl rfl | exact .inr rfl | assumption) : wpAny M A (storeName X.env x u) Q E s :=
  store_ok2 I hN hi hx r (fun s' I' _ => h s' I') hf
/-- behind a call or a block, the state as it is -/
theorem Inv.call' {s' : Shared} {ch : List Addr} (I : Inv X pins σ H s) (ho : s'.os = s.os) (u : Un (frs X.stack) ch H H' s.heap s'.heap) (hok : HOk X.prog X.w H' s'.heap) (hg : AllBare s'.gens)
    (hch : ∀ b ∈ ch, (b ∈ X.ex ∨ X.s₀.heap.objs.size ≤ b) ∧ b ≠ X.env.locals ∧ (∀ x c, X.env.cells.lookup x = some c → c ≠ b) ∧ ∀ p ∈ X.pn ++ pins, p.1 ≠ b) : Inv X pins σ H' s' := by
  obtain ⟨h', g', d', t', o'⟩ := s'
  have e : o' = s.os := ho
  subst e
  exact I.call (g' := g') (t' := t') (d' := d') u hok hg hch
end

/-! ### the judgements -/
/-- an exception: its class, its own dict's address (where it has one), the abstract heap behind it -/
abbrev XK := Value → Option Addr → Hp → Prop
abbrev St := List (Option V)
abbrev VK := V → Hp → Prop
/-- an expression's reading; a test's; an argument list's -/
abbrev TE := St → Hp → VK → Prop
abbrev TT := St → Hp → (Bool → Hp → Prop) → Prop
abbrev TA := St → Hp → (List V → Hp → Prop) → Prop
/-- what is wanted behind a statement -/
structure Ends where
  nx : St → Hp → Prop
  rt : VK
  bk : St → Hp → Prop := fun _ _ => False
  ct : St → Hp → Prop := fun _ _ => False
abbrev TS := Ends → St → Hp → Prop

def EP (X : Cx) (pins : List (Addr × Obj)) (σ : St) (Q : VK) (u : Value) (s' : Shared) : Prop := ∃ v H', Inv X pins σ H' s' ∧ RelV v u ∧ Q v H'
def TP (X : Cx) (pins : List (Addr × Obj)) (σ : St) (Q : Bool → Hp → Prop) (b : Bool) (s' : Shared) : Prop := ∃ H', Inv X pins σ H' s' ∧ Q b H'
def AP (X : Cx) (pins : List (Addr × Obj)) (σ : St) (Q : List V → Hp → Prop) (us : List Value) (s' : Shared) : Prop := ∃ vs H', Inv X pins σ H' s' ∧ Vals vs us ∧ Q vs H'
def SP (X : Cx) (pins : List (Addr × Obj)) (D : Ends) (f : Flow) (s' : Shared) : Prop :=
  match f with
  | .next => ∃ σ' H', Inv X pins σ' H' s' ∧ D.nx σ' H'
  | .brk => ∃ σ' H', Inv X pins σ' H' s' ∧ D.bk σ' H'
  | .cont => ∃ σ' H', Inv X pins σ' H' s' ∧ D.ct σ' H'
  | .ret u => ∃ v σ' H', Inv X pins σ' H' s' ∧ RelV v u ∧ D.rt v H'

def PE (X : Cx) (e : Expr) (t : TE) : Prop :=
  ∀ (pins : List (Addr × Obj)) (s : Shared) (σ : St) (H : Hp) (Q : VK), Inv X pins σ H s → t σ H Q → wpAny (model X.prog X.w) X.A (eval e X.env) (EP X pins σ Q) X.xe s
def PT (X : Cx) (e : Expr) (t : TT) : Prop :=
  ∀ (pins : List (Addr × Obj)) (s : Shared) (σ : St) (H : Hp) (Q : Bool → Hp → Prop), Inv X pins σ H s → t σ H Q → wpAny (model X.prog X.w) X.A (isTrue e X.env (eval e X.env)) (TP X pins σ Q) X.xe s
/-- a test whatever its 'whole' is (and, or) -/
def PW (X : Cx) (e : Expr) (t : TT) : Prop :=
  ∀ (whole : Sem Value) (pins : List (Addr × Obj)) (s : Shared) (σ : St) (H : Hp) (Q : Bool → Hp → Prop), Inv X pins σ H s → t σ H Q → wpAny (model X.prog X.w) X.A (isTrue e X.env whole) (TP X pins σ Q) X.xe s
theorem PW.pt {X : Cx} {e : Expr} {t : TT} (h : PW X e t) : PT X e t := h _
/-- an argument list (no star), from the left -/
def PA (X : Cx) (es : List Expr) (t : TA) : Prop :=
  ∀ (pos : Pos) (pins : List (Addr × Obj)) (s : Shared) (σ : St) (H : Hp) (Q : List V → Hp → Prop), Inv X pins σ H s → t σ H Q → wpAny (model X.prog X.w) X.A (spliced (backTo pos (starEach es X.env))) (AP X pins σ Q) X.xe s
def PS (X : Cx) (st : Stmt) (t : TS) : Prop :=
  ∀ (pins : List (Addr × Obj)) (s : Shared) (σ : St) (H : Hp) (D : Ends), Inv X pins σ H s → t D σ H → wpAny (model X.prog X.w) X.A (exec st X.env) (SP X pins D) X.xe s
def PSs (X : Cx) (st : List Stmt) (t : TS) : Prop :=
  ∀ (pins : List (Addr × Obj)) (s : Shared) (σ : St) (H : Hp) (D : Ends), Inv X pins σ H s → t D σ H → wpAny (model X.prog X.w) X.A (execs st X.env) (SP X pins D) X.xe s
/-- weaken the end -/
theorem thn {α : Type} {t : Sem α} {Q Q' : α → Shared → Prop} {M : Model} {A : Around} {E : Value → Shared → Prop} {s : Shared} (h : wpAny M A t Q E s) (hQ : ∀ a s, Q a s → Q' a s) : wpAny M A t Q' E s := wpAny_mono h hQ fun _ _ x => x
end L2

namespace L2
open PySem PySem.Spec PyProof.Rows
section
variable {X : Cx}

/-- two expressions in a row -/
theorem bin {a b : Expr} {ta tb : TE} (ha : PE X a ta) (hb : PE X b tb) {pins : List (Addr × Obj)} {s : Shared} {σ : St} {H : Hp} {R : V → V → Hp → Prop} (I : Inv X pins σ H s) (h : ta σ H fun x H1 => tb σ H1 fun y H2 => R x y H2)
    {α : Type} {Q : α → Shared → Prop} {f : Value → Value → Sem α}
    (hf : ∀ v u s2 x y H2, Inv X pins σ H2 s2 → RelV x v → RelV y u → R x y H2 → wpAny (model X.prog X.w) X.A (f v u) Q X.xe s2) :
    wpAny (model X.prog X.w) X.A (eval a X.env) (fun v s₁ => wpAny (model X.prog X.w) X.A (eval b X.env) (fun u s₂ => wpAny (model X.prog X.w) X.A (f v u) Q X.xe s₂) X.xe s₁) X.xe s := by
  refine thn (ha pins s σ H _ I h) fun v s1 ⟨x, H1, I1, r1, q1⟩ => ?_
  refine thn (hb pins s1 σ H1 _ I1 q1) fun u s2 ⟨y, H2, I2, r2, q2⟩ => ?_
  exact hf v u s2 x y H2 I2 r1 r2 q2

/-! ### names and constants -/
def tVar (i : Nat) : TE := fun σ H Q => ∃ v, σ[i]? = some (some v) ∧ Q v H
def tC (v : V) : TE := fun _ H Q => Q v H
theorem pe_var {i : Nat} {x : Str} {pos : Pos} (hN : X.N[i]? = some x) (hv : Vis X.env.scope x) (hd : (x == ("__debug__" : Str)) = false := by decide) (hcd : (x == ("__classdict__" : Str)) = false := by decide) : PE X (.Name x pos) (tVar i) := by
  intro pins s σ H Q I h
  obtain ⟨v, e, h⟩ := h
  obtain ⟨m, hn, hl⟩ := I.loc
  obtain ⟨u, r, l⟩ := hl i x v hN e hv
  have fin : EP X pins σ Q u s := ⟨v, H, I, r, h⟩
  rcases l with ⟨hk, hm⟩ | ⟨hk, c, hc, hcell⟩
  · exact wpAny_Name (wpAny_loadName_local I.ok.kind hk hn hm fin) hd
  · rcases hk with hk | hk
    · exact wpAny_Name (wpAny_loadName_cell I.ok.kind hk hc hcell fin) hd
    · exact wpAny_Name (wpAny_loadName_free I.ok.kind hk hc hcell fin hcd) hd
theorem pe_int {i j pos} : PE X (.Constant (.int i) j pos) (tC (.int i)) := fun _ _ _ H _ I h => wpAny_Constant_int ⟨.int i, H, I.tok _, ⟨_, rfl⟩, h⟩
theorem pe_bl {b j pos} : PE X (.Constant (.bool b) j pos) (tC (.bl b)) := fun _ _ _ H _ I h => Constant_bool ⟨.bl b, H, I, rfl, h⟩
theorem pe_non {j pos} : PE X (.Constant .none j pos) (tC .non) := fun _ _ _ H _ I h => Constant_none ⟨.non, H, I, rfl, h⟩
theorem pe_str {x j pos} : PE X (.Constant (.str x) j pos) (tC (.str x)) := fun _ _ _ H _ I h => Calls.Constant_str ⟨.str x, H, I.tok _, ⟨_, rfl⟩, h⟩

/-- a global name of the def -/
def Gl (X : Cx) (x : Str) : Prop := X.env.kindOf x = some .globalImplicit
theorem ld_glob {E : Value → Shared → Prop} {pins : List (Addr × Obj)} {s : Shared} {σ : St} {H : Hp} {x : Str} {u : Value} {pos : Pos} {Q : Value → Shared → Prop} (I : Inv X pins σ H s) (hg : Gl X x) (hm : X.mg x = some u) (h : Q u s)
    (hd : (x == ("__debug__" : Str)) = false := by decide) : wpAny (model X.prog X.w) X.A (eval (.Name x pos) X.env) Q E s :=
  Calls.Name_function_global I.ok.kind hg (Calls.loadGlobal_global (by rw [I.ok.glob]; exact I.mod.glob.keeps I.bk) hm h) hd
theorem ld_blt {E : Value → Shared → Prop} {pins : List (Addr × Obj)} {s : Shared} {σ : St} {H : Hp} {x : Str} {u : Value} {pos : Pos} {Q : Value → Shared → Prop} (I : Inv X pins σ H s) (hg : Gl X x) (hm : X.mg x = none) (hv : bootBuiltins x = some u) (h : Q u s)
    (hn : x ≠ "__name__" := by decide) (hd : (x == ("__debug__" : Str)) = false := by decide) : wpAny (model X.prog X.w) X.A (eval (.Name x pos) X.env) Q E s := by
  obtain ⟨mb, h1, h2⟩ := I.mod.blt
  exact Calls.Name_function_global I.ok.kind hg (Calls.loadGlobal_builtin (by rw [I.ok.glob]; exact I.mod.glob.keeps I.bk) hm (by rw [I.ok.blt]; exact h1.keeps I.bk) ((h2 x hn).trans hv) h) hd
/-- a module's constant, a class, a function, as a value -/
theorem pe_glob {x : Str} {v : V} {u : Value} {pos : Pos} (hg : Gl X x) (hm : X.mg x = some u) (r : RelV v u) (hd : (x == ("__debug__" : Str)) = false := by decide) : PE X (.Name x pos) (tC v) :=
  fun _ _ _ H _ I h => ld_glob I hg hm ⟨v, H, I, r, h⟩ hd
theorem pe_bltn {x : Str} {v : V} {u : Value} {pos : Pos} (hg : Gl X x) (hm : X.mg x = none) (hv : bootBuiltins x = some u) (r : RelV v u) (hn : x ≠ "__name__" := by decide) (hd : (x == ("__debug__" : Str)) = false := by decide) : PE X (.Name x pos) (tC v) :=
  fun _ _ _ H _ I h => ld_blt I hg hm hv ⟨v, H, I, r, h⟩ hn hd

/-! ### arithmetic -/
/-- two ints -/
def t2I (ta tb : TE) (k : Int → Int → Hp → Prop) : St → Hp → Prop := fun σ H => ta σ H fun x H1 => tb σ H1 fun y H2 => ∃ i j, x = .int i ∧ y = .int j ∧ k i j H2
def tAdd (ta tb : TE) : TE := fun σ H Q => t2I ta tb (fun i j H2 => Q (.int (i + j)) H2) σ H
def tSub (ta tb : TE) : TE := fun σ H Q => t2I ta tb (fun i j H2 => Q (.int (i - j)) H2) σ H
/-- the left factor below 2^64 -/
def tMul (ta tb : TE) : TE := fun σ H Q => t2I ta tb (fun i j H2 => (-(2 ^ 64) < i ∧ i < 2 ^ 64) ∧ Q (.int (i * j)) H2) σ H
variable {a b : Expr} {ta tb : TE} {pos : Pos}
theorem pe_add (ha : PE X a ta) (hb : PE X b tb) : PE X (.BinOp a .Add b pos) (tAdd ta tb) := by
  intro pins s σ H Q I h
  refine wpAny_BinOp (bin ha hb I h fun v u s2 x y H2 I2 rx ry q => ?_)
  obtain ⟨i, j, rfl, rfl, q⟩ := q
  obtain ⟨t, rfl⟩ := rx
  obtain ⟨t', rfl⟩ := ry
  exact add_int ⟨.int _, H2, I2.tok _, ⟨_, rfl⟩, q⟩
theorem pe_sub (ha : PE X a ta) (hb : PE X b tb) : PE X (.BinOp a .Sub b pos) (tSub ta tb) := by
  intro pins s σ H Q I h
  refine wpAny_BinOp (bin ha hb I h fun v u s2 x y H2 I2 rx ry q => ?_)
  obtain ⟨i, j, rfl, rfl, q⟩ := q
  obtain ⟨t, rfl⟩ := rx
  obtain ⟨t', rfl⟩ := ry
  exact sub_int ⟨.int _, H2, I2.tok _, ⟨_, rfl⟩, q⟩
theorem pe_mul (ha : PE X a ta) (hb : PE X b tb) : PE X (.BinOp a .Mult b pos) (tMul ta tb) := by
  intro pins s σ H Q I h
  refine wpAny_BinOp (bin ha hb I h fun v u s2 x y H2 I2 rx ry q => ?_)
  obtain ⟨i, j, rfl, rfl, ⟨q1, q2⟩, q⟩ := q
  obtain ⟨t, rfl⟩ := rx
  obtain ⟨t', rfl⟩ := ry
  exact mul_int ⟨.int _, H2, I2.tok _, ⟨_, rfl⟩, q⟩ (.of_left (intBits_le_64 q1 q2))

/-! ### comparisons -/
def PC (X : Cx) (op : CmpOp) (a b : Expr) (t : TE) : Prop :=
  ∀ (pins : List (Addr × Obj)) (s : Shared) (σ : St) (H : Hp) (Q : VK), Inv X pins σ H s → t σ H Q →
    wpAny (model X.prog X.w) X.A (eval a X.env) (fun v s₁ => wpAny (model X.prog X.w) X.A (eval b X.env) (fun u s₂ => wpAny (model X.prog X.w) X.A (compareOp op v u) (EP X pins σ Q) X.xe s₂) X.xe s₁) X.xe s
theorem nobehind (b : Expr) {op : CmpOp} (h : op ≠ .In) (h2 : op ≠ .NotIn) : behindInMarks op b = false := by
  have e1 : (op == CmpOp.In) = false := by cases op <;> first | rfl | exact absurd rfl h
  have e2 : (op == CmpOp.NotIn) = false := by cases op <;> first | rfl | exact absurd rfl h2
  cases b <;> simp [behindInMarks, e1, e2]
def tCmp (p : Int → Int → Bool) (ta tb : TE) : TE := fun σ H Q => t2I ta tb (fun i j H2 => Q (.bl (p i j)) H2) σ H
abbrev tLt : TE → TE → TE := tCmp fun i j => decide (i < j)
abbrev tLe : TE → TE → TE := tCmp fun i j => decide (i ≤ j)
abbrev tGt : TE → TE → TE := tCmp fun i j => decide (j < i)
abbrev tGe : TE → TE → TE := tCmp fun i j => decide (j ≤ i)
abbrev tEqI : TE → TE → TE := tCmp fun i j => decide (i = j)
abbrev tNeI : TE → TE → TE := tCmp fun i j => !decide (i = j)
/-- a comparison of two ints, by its rule -/
theorem pc_int {op : CmpOp} {p : Int → Int → Bool} (ha : PE X a ta) (hb : PE X b tb)
    (rule : ∀ (i j : Int) (t u : Tok) (Q : Value → Shared → Prop) (s : Shared), Q (.bool (p i j)) s → wpAny (model X.prog X.w) X.A (compareOp op (.int i t) (.int j u)) Q X.xe s) : PC X op a b (tCmp p ta tb) := by
  intro pins s σ H Q I h
  refine bin ha hb I h fun v u s2 x y H2 I2 rx ry q => ?_
  obtain ⟨i, j, rfl, rfl, q⟩ := q
  obtain ⟨t, rfl⟩ := rx
  obtain ⟨t', rfl⟩ := ry
  exact rule i j t t' _ s2 ⟨.bl _, H2, I2, rfl, q⟩
theorem pc_lt (ha : PE X a ta) (hb : PE X b tb) : PC X .Lt a b (tLt ta tb) := pc_int ha hb fun _ _ _ _ _ _ h => lt_int h
theorem pc_le (ha : PE X a ta) (hb : PE X b tb) : PC X .LtE a b (tLe ta tb) := pc_int ha hb fun _ _ _ _ _ _ h => le_int h
theorem pc_gt (ha : PE X a ta) (hb : PE X b tb) : PC X .Gt a b (tGt ta tb) := pc_int ha hb fun _ _ _ _ _ _ h => gt_int h
theorem pc_ge (ha : PE X a ta) (hb : PE X b tb) : PC X .GtE a b (tGe ta tb) := pc_int ha hb fun _ _ _ _ _ _ h => ge_int h
theorem pc_eqI (ha : PE X a ta) (hb : PE X b tb) : PC X .Eq a b (tEqI ta tb) := pc_int ha hb fun _ _ _ _ _ _ h => eq_int (by rw [Bool.beq_eq_decide_eq]; exact h)
theorem pc_neI (ha : PE X a ta) (hb : PE X b tb) : PC X .NotEq a b (tNeI ta tb) := pc_int ha hb fun _ _ _ _ _ _ h => ne_int (by rw [bne, Bool.beq_eq_decide_eq]; exact h)
/-- is None -/
def tIsN (ta : TE) : TE := fun σ H Q => ta σ H fun x H1 => Q (.bl (decide (x = .non))) H1
def tNotN (ta : TE) : TE := fun σ H Q => ta σ H fun x H1 => Q (.bl (!decide (x = .non))) H1
theorem RelV.none_iff {x : V} {v : Value} (r : RelV x v) : (v == Value.none) = decide (x = .non) := by
  cases x with
  | non => cases r; rfl
  | bl _ => cases r; rfl
  | int _ => obtain ⟨t, rfl⟩ := r; rfl
  | str _ => obtain ⟨t, rfl⟩ := r; rfl
  | byt _ => obtain ⟨t, rfl⟩ := r; rfl
  | flt _ => obtain ⟨t, rfl⟩ := r; rfl
  | ref _ => cases r; rfl
  | ty _ => cases r; rfl
theorem pc_isN {j pos'} (ha : PE X a ta) : PC X .Is a (.Constant .none j pos') (tIsN ta) := by
  intro pins s σ H Q I h
  refine thn (ha pins s σ H _ I h) fun v s1 ⟨x, H1, I1, r1, q1⟩ => ?_
  exact Constant_none (is_none_gen ⟨.bl _, H1, I1, by rw [r1.none_iff]; rfl, q1⟩)
theorem pc_notN {j pos'} (ha : PE X a ta) : PC X .IsNot a (.Constant .none j pos') (tNotN ta) := by
  intro pins s σ H Q I h
  refine thn (ha pins s σ H _ I h) fun v s1 ⟨x, H1, I1, r1, q1⟩ => ?_
  exact Constant_none (isnot_none_gen ⟨.bl _, H1, I1, by rw [r1.none_iff]; rfl, q1⟩)
/-- a comparison as a value, as a test -/
def tB (t : TE) : TT := fun σ H Q => t σ H fun x H1 => ∃ c, x = .bl c ∧ Q c H1
theorem pe_cmp {op : CmpOp} {t : TE} (h : PC X op a b t) (h1 : behindInMarks op b = false := by first | exact nobehind _ (by decide) (by decide) | rfl) : PE X (.Compare a [op] [b] pos) t := fun pins s σ H Q I hw => wpAny_Compare1 (h pins s σ H Q I hw) h1
theorem pt_cmp {op : CmpOp} {t : TE} (h : PC X op a b t) (h1 : behindInMarks op b = false := by first | exact nobehind _ (by decide) (by decide) | rfl) : PT X (.Compare a [op] [b] pos) (tB t) := by
  intro pins s σ H Q I hw
  refine wpAny_isTrue_Compare1 (thn (h pins s σ H _ I hw) fun v s1 h1 => thn h1 fun u s2 h2 => thn h2 fun c s3 ⟨x, H1, I1, r1, q1⟩ => ?_) h1
  obtain ⟨d, rfl, q⟩ := q1
  cases r1
  exact wpAny_truthy_bool ⟨H1, I1, q⟩
/-- an expression whose value is a bool, as a test -/
theorem pt_val {e : Expr} {t : TE} (h : PE X e t) (he : ∀ whole, isTrue e X.env whole = (do let v ← whole; standAt e.pos; holding [v] (truthy v)) := by intro _; rfl) : PT X e (tB t) := by
  intro pins s σ H Q I hw
  refine isTrue_plain (thn (h pins s σ H _ I hw) fun v s1 ⟨x, H1, I1, r1, q1⟩ => ?_) (he _)
  obtain ⟨d, rfl, q⟩ := q1
  cases r1
  exact wpAny_truthy_bool ⟨H1, I1, q⟩

/-! ### and, or, not -/
variable {tA tB' : TT} {rest : List Expr}
def tAnd (t u : TT) : TT := fun σ H Q => t σ H fun c H1 => if c = true then u σ H1 Q else Q false H1
def tOr (t u : TT) : TT := fun σ H Q => t σ H fun c H1 => if c = true then Q true H1 else u σ H1 Q
def tNot (t : TT) : TT := fun σ H Q => t σ H fun c H1 => Q (!c) H1
theorem pw_and1 (ha : PT X a tA) : PW X (.BoolOp .And [a] pos) tA := by
  intro wh pins s σ H Q I h
  refine isTrue_and (thn (ha pins s σ H Q I h) fun c s1 e => ?_)
  cases c with
  | true => exact isTrue_and_nil e
  | false => exact e
theorem pw_or1 (ha : PT X a tA) : PW X (.BoolOp .Or [a] pos) tA := by
  intro wh pins s σ H Q I h
  refine isTrue_or (thn (ha pins s σ H Q I h) fun c s1 e => ?_)
  cases c with
  | false => exact isTrue_or_nil e
  | true => exact e
theorem pw_and (ha : PT X a tA) (hb : PW X (.BoolOp .And (b :: rest) pos) tB') : PW X (.BoolOp .And (a :: b :: rest) pos) (tAnd tA tB') := by
  intro wh pins s σ H Q I h
  refine isTrue_and (thn (ha pins s σ H _ I h) fun c s1 ⟨H1, I1, q1⟩ => ?_)
  cases c with
  | true => exact hb wh pins s1 σ H1 Q I1 q1
  | false => exact ⟨H1, I1, q1⟩
theorem pw_or (ha : PT X a tA) (hb : PW X (.BoolOp .Or (b :: rest) pos) tB') : PW X (.BoolOp .Or (a :: b :: rest) pos) (tOr tA tB') := by
  intro wh pins s σ H Q I h
  refine isTrue_or (thn (ha pins s σ H _ I h) fun c s1 ⟨H1, I1, q1⟩ => ?_)
  cases c with
  | true => exact ⟨H1, I1, q1⟩
  | false => exact hb wh pins s1 σ H1 Q I1 q1
theorem pt_not (ha : PT X a tA) : PT X (.UnaryOp .Not a pos) (tNot tA) := by
  intro pins s σ H Q I h
  exact isTrue_not (ha pins s σ H (fun c H1 => Q (!c) H1) I h)
/-- .. as values (bools) -/
def tAndV (ta tb : TE) : TE := fun σ H Q => ta σ H fun x H1 => ∃ c, x = .bl c ∧ if c = true then tb σ H1 Q else Q (.bl false) H1
def tOrV (ta tb : TE) : TE := fun σ H Q => ta σ H fun x H1 => ∃ c, x = .bl c ∧ if c = true then Q (.bl true) H1 else tb σ H1 Q
def tNotV (ta : TE) : TE := fun σ H Q => ta σ H fun x H1 => ∃ c, x = .bl c ∧ Q (.bl (!c)) H1
theorem pe_one {op} {t : TE} (h : PE X a t) : PE X (.BoolOp op [a] pos) t := fun pins s σ H Q I hw => BoolOp_one (h pins s σ H Q I hw)
theorem pe_and (ha : PE X a ta) (hb : PE X (.BoolOp .And (b :: rest) pos) tb) : PE X (.BoolOp .And (a :: b :: rest) pos) (tAndV ta tb) := by
  intro pins s σ H Q I h
  refine BoolOp_and (thn (ha pins s σ H _ I h) fun v s1 ⟨x, H1, I1, r1, q1⟩ => ?_)
  obtain ⟨c, rfl, q1⟩ := q1
  cases r1
  refine wpAny_truthy_bool ?_
  cases c with
  | true => exact hb pins s1 σ H1 Q I1 q1
  | false => exact ⟨.bl false, H1, I1, rfl, q1⟩
theorem pe_or (ha : PE X a ta) (hb : PE X (.BoolOp .Or (b :: rest) pos) tb) : PE X (.BoolOp .Or (a :: b :: rest) pos) (tOrV ta tb) := by
  intro pins s σ H Q I h
  refine BoolOp_or (thn (ha pins s σ H _ I h) fun v s1 ⟨x, H1, I1, r1, q1⟩ => ?_)
  obtain ⟨c, rfl, q1⟩ := q1
  cases r1
  refine wpAny_truthy_bool ?_
  cases c with
  | false => exact hb pins s1 σ H1 Q I1 q1
  | true => exact ⟨.bl true, H1, I1, rfl, q1⟩
theorem pe_not (ha : PE X a ta) : PE X (.UnaryOp .Not a pos) (tNotV ta) := by
  intro pins s σ H Q I h
  refine UnaryOp_ (thn (ha pins s σ H _ I h) fun v s1 ⟨x, H1, I1, r1, q1⟩ => ?_)
  obtain ⟨c, rfl, q1⟩ := q1
  cases r1
  exact not_of (wpAny_truthy_bool ⟨.bl (!c), H1, I1, rfl, q1⟩)
/-- a if t else b -/
def tIf (t : TT) (ta tb : TE) : TE := fun σ H Q => t σ H fun c H1 => if c = true then ta σ H1 Q else tb σ H1 Q
theorem pe_ifExp {c : Expr} (hc : PT X c tA) (ha : PE X a ta) (hb : PE X b tb) : PE X (.IfExp c a b pos) (tIf tA ta tb) := by
  intro pins s σ H Q I h
  refine wpAny_IfExp (thn (hc pins s σ H _ I h) fun d s1 ⟨H1, I1, q1⟩ => ?_)
  cases d with
  | true => exact ha pins s1 σ H1 Q I1 q1
  | false => exact hb pins s1 σ H1 Q I1 q1
end
end L2

namespace L2
open PySem PySem.Spec PyProof.Rows

/-! ### a list, a tuple that is read: tracked, frozen, or an object of the module -/
def SqL (K : PySem.W.Frag) (H : Hp) (a : Addr) (xs : List V) : Prop :=
  Rd H a (.lst xs) ∨
    ∃ (o : Obj) (its : Array Value) (n : Nat), K.lookup a = some o ∧ o.cls = .type "list" ∧ o.dict = none ∧ o.data = .seq its n ∧ its.size ≤ sizeLine ∧ Vals xs its.toList
def SqT (K : PySem.W.Frag) (H : Hp) (a : Addr) (xs : List V) : Prop :=
  Rd H a (.tup xs) ∨
    ∃ (o : Obj) (its : Array Value) (n : Nat), K.lookup a = some o ∧ o.cls = .type "tuple" ∧ o.data = .seq its n ∧ its.size ≤ sizeLine ∧ Vals xs its.toList
def absV : Value → Option V
  | .none => some .non
  | .bool b => some (.bl b)
  | .int i _ => some (.int i)
  | .str x _ => some (.str x)
  | .bytes b _ => some (.byt b)
  | .float b _ => some (.flt b)
  | .ref a => some (.ref a)
  | .type n => some (.ty n)
  | _ => none
theorem RelV.abs {x : V} {u : Value} (r : RelV x u) : absV u = some x := by
  cases x with
  | non => cases r; rfl
  | bl _ => cases r; rfl
  | int _ => obtain ⟨t, rfl⟩ := r; rfl
  | str _ => obtain ⟨t, rfl⟩ := r; rfl
  | byt _ => obtain ⟨t, rfl⟩ := r; rfl
  | flt _ => obtain ⟨t, rfl⟩ := r; rfl
  | ref _ => cases r; rfl
  | ty _ => cases r; rfl
theorem RelV.inj {x y : V} {u : Value} (r : RelV x u) (q : RelV y u) : x = y := Option.some.inj (r.abs.symm.trans q.abs)
theorem Vals.inj : ∀ {xs ys : List V} {us : List Value}, Vals xs us → Vals ys us → xs = ys
  | _, _, _, .nil, .nil => rfl
  | _, _, _, .cons r t, .cons r' t' => by rw [r.inj r', Vals.inj t t']
section
variable {X : Cx} {pins : List (Addr × Obj)} {σ : St} {H : Hp} {s : Shared} {a : Addr} {xs ys : List V}
theorem SqL.of {K : PySem.W.Frag} (h : H a = some (.lst xs)) : SqL K H a xs := .inl (.inl h)
theorem SqT.of {K : PySem.W.Frag} (h : H a = some (.tup xs)) : SqT K H a xs := .inl (.inl h)
theorem Inv.list (I : Inv X pins σ H s) (h : SqL X.K H a xs) : ∃ its : List Value, Vals xs its ∧ PlainL s.heap a its.toArray ∧ xs.length ≤ sizeLine := by
  rcases h with h | ⟨o, its, n, hk, hc, hd, hs, hz, r⟩
  · obtain ⟨z, its, n, r, e⟩ := h.ok I.hok
    exact ⟨its, r, ⟨_, n, e, rfl, rfl, rfl⟩, z⟩
  · refine ⟨its.toList, r, ⟨o, n, I.kIn a o hk, hc, hd, by simpa using hs⟩, ?_⟩
    have e := r.length
    simp only [Array.length_toList] at e
    omega
theorem Inv.tuple (I : Inv X pins σ H s) (h : SqT X.K H a xs) : ∃ its : List Value, Vals xs its ∧ IsTup s.heap a its.toArray ∧ xs.length ≤ sizeLine := by
  rcases h with h | ⟨o, its, n, hk, hc, hs, hz, r⟩
  · obtain ⟨z, its, r, p⟩ := h.ok I.hok
    exact ⟨its, r, p, z⟩
  · refine ⟨its.toList, r, ⟨o, I.kIn a o hk, hc, n, by simpa using hs⟩, ?_⟩
    have e := r.length
    simp only [Array.length_toList] at e
    omega
theorem Inv.list_inj (I : Inv X pins σ H s) (h : SqL X.K H a xs) (h' : SqL X.K H a ys) : xs = ys := by
  obtain ⟨its, r, ⟨o, n, e, _, _, d⟩, _⟩ := I.list h
  obtain ⟨its', r', ⟨o', n', e', _, _, d'⟩, _⟩ := I.list h'
  rw [e] at e'; cases e'
  rw [d] at d'
  injection d' with d1 _
  have : its = its' := by simpa using congrArg Array.toList d1
  subst this
  exact r.inj r'
theorem Inv.tuple_inj (I : Inv X pins σ H s) (h : SqT X.K H a xs) (h' : SqT X.K H a ys) : xs = ys := by
  obtain ⟨its, r, ⟨o, e, _, n, d⟩, _⟩ := I.tuple h
  obtain ⟨its', r', ⟨o', e', _, n', d'⟩, _⟩ := I.tuple h'
  rw [e] at e'; cases e'
  rw [d] at d'
  injection d' with d1 _
  have : its = its' := by simpa using congrArg Array.toList d1
  subst this
  exact r.inj r'
end

/-! ### another wish about exceptions -/
abbrev Cx.wish (X : Cx) (E : Value → Shared → Prop) : Cx := { X with xe := E }
/-- no exception leaves -/
abbrev Cx.nox (X : Cx) : Cx := X.wish fun _ _ => False
theorem Cx.Ok.wish {X : Cx} (ok : X.Ok) (E : Value → Shared → Prop) : (X.wish E).Ok :=
  ⟨ok.mod, ok.kind, ok.glob, ok.blt, ok.above, ok.inj, ok.has, ok.cab, ok.hd, ok.frames, ok.stk, ok.exf, ok.bs, ok.bsz, ok.noex, ok.exfs, ok.funs, ok.frf⟩
theorem Cx.Ok.unwish {X : Cx} {E : Value → Shared → Prop} (ok : (X.wish E).Ok) : X.Ok :=
  ⟨ok.mod, ok.kind, ok.glob, ok.blt, ok.above, ok.inj, ok.has, ok.cab, ok.hd, ok.frames, ok.stk, ok.exf, ok.bs, ok.bsz, ok.noex, ok.exfs, ok.funs, ok.frf⟩
section
variable {X : Cx} {pins : List (Addr × Obj)} {σ : St} {H : Hp} {s : Shared} {E : Value → Shared → Prop}
theorem Inv.wish (I : Inv X pins σ H s) (E : Value → Shared → Prop) : Inv (X.wish E) pins σ H s := ⟨I.ok.wish E, I.os, I.bare, I.base, I.loc, I.cell, I.free, I.freeC, I.pin, I.hok, I.len⟩
theorem Inv.unwish (I : Inv (X.wish E) pins σ H s) : Inv X pins σ H s := ⟨I.ok.unwish, I.os, I.bare, I.base, I.loc, I.cell, I.free, I.freeC, I.pin, I.hok, I.len⟩
theorem SP.unwish {D : Ends} {f : Flow} {s' : Shared} (h : SP (X.wish E) pins D f s') : SP X pins D f s' := by
  cases f with
  | next => obtain ⟨σ', H', I, q⟩ := h; exact ⟨σ', H', I.unwish, q⟩
  | brk => obtain ⟨σ', H', I, q⟩ := h; exact ⟨σ', H', I.unwish, q⟩
  | cont => obtain ⟨σ', H', I, q⟩ := h; exact ⟨σ', H', I.unwish, q⟩
  | ret u => obtain ⟨v, σ', H', I, r, q⟩ := h; exact ⟨v, σ', H', I.unwish, r, q⟩
theorem PE.nox {e : Expr} {t : TE} (h : PE X.nox e t) : PE X e t := fun pins s σ H Q I hw =>
  wpAny_mono (h pins s σ H Q (I.wish _) hw) (fun _ _ ⟨v, H', I', r, q⟩ => ⟨v, H', I'.unwish, r, q⟩) fun _ _ z => False.elim z
theorem PT.nox {e : Expr} {t : TT} (h : PT X.nox e t) : PT X e t := fun pins s σ H Q I hw =>
  wpAny_mono (h pins s σ H Q (I.wish _) hw) (fun _ _ ⟨H', I', q⟩ => ⟨H', I'.unwish, q⟩) fun _ _ z => False.elim z
theorem PSs.nox {st : List Stmt} {t : TS} (h : PSs X.nox st t) : PSs X st t := fun pins s σ H D I hw =>
  wpAny_mono (h pins s σ H D (I.wish _) hw) (fun _ _ q => q.unwish) fun _ _ z => False.elim z
end

/-! ### blocks and small statements -/
section
variable {X : Cx} {st : Stmt} {rest : List Stmt} {t u : TS} {e : Expr} {te : TE} {pos : Pos}
def tNext : TS := fun D σ H => D.nx σ H
def tSeq (t u : TS) : TS := fun D σ H => t { D with nx := u D } σ H
theorem pss_nil : PSs X [] tNext := fun _ _ σ H _ I h => wpAny_execs_nil ⟨σ, H, I, h⟩
theorem pss_cons (h1 : PS X st t) (h2 : PSs X rest u) : PSs X (st :: rest) (tSeq t u) := by
  intro pins s σ H D I h
  refine wpAny_execs_cons (thn (h1 pins s σ H { D with nx := u D } I h) fun f s1 q => ?_)
  cases f with
  | next =>
    obtain ⟨σ', H', I', q⟩ := q
    exact h2 pins s1 σ' H' D I' q
  | ret v => exact q
  | brk => exact q
  | cont => exact q
theorem pss_one (h1 : PS X st t) : PSs X [st] t := by
  intro pins s σ H D I h
  refine wpAny_execs_cons (thn (h1 pins s σ H D I h) fun f s1 q => ?_)
  cases f with
  | next => exact wpAny_execs_nil q
  | ret v => exact q
  | brk => exact q
  | cont => exact q
def tBreak : TS := fun D σ H => D.bk σ H
def tCont : TS := fun D σ H => D.ct σ H
theorem ps_pass : PS X (.Pass pos) tNext := fun _ _ σ H _ I h => wpAny_Pass ⟨σ, H, I, h⟩
theorem ps_break : PS X (.Break pos) tBreak := fun _ _ σ H _ I h => wpAny_Break ⟨σ, H, I, h⟩
theorem ps_continue : PS X (.Continue pos) tCont := fun _ _ σ H _ I h => wpAny_Continue ⟨σ, H, I, h⟩
/-- in a def's body nothing is shown -/
theorem Inv.quiet {pins : List (Addr × Obj)} {σ : St} {H : Hp} {s : Shared} (I : Inv X pins σ H s) : interactive X.env = false := by simp [interactive, I.ok.kind]
/-- a docstring -/
theorem ps_doc {x j pos pos'} : PS X (.Expr (.Constant (.str x) j pos) pos') tNext := fun _ s σ H _ I h => wpAny_Expr (Calls.Constant_str (show SP X _ _ .next { s with toks := s.toks + 1 } from ⟨σ, H, I.tok _, h⟩)) I.quiet
/-- an expression whose value is dropped -/
def tDrop (te : TE) : TS := fun D σ H => te σ H fun _ H1 => D.nx σ H1
theorem ps_expr (he : PE X e te) (hs : swapsWith e none pos.line X.env = pure false := by rfl) : PS X (.Expr e pos) (tDrop te) := by
  intro pins s σ H D I h
  exact wpAny_Expr_any (thn (he pins s σ H _ I h) fun v s1 ⟨x, H1, I1, r1, q1⟩ => ⟨σ, H1, I1, q1⟩) I.quiet hs
def tRet (te : TE) : TS := fun D σ H => te σ H D.rt
theorem ps_ret (he : PE X e te) : PS X (.Return (some e) pos) (tRet te) := by
  intro pins s σ H D I h
  exact wpAny_Return_some (thn (he pins s σ H _ I h) fun v s1 ⟨x, H1, I1, r1, q1⟩ => ⟨x, σ, H1, I1, r1, q1⟩)
def tRetN : TS := fun D _ H => D.rt .non H
theorem ps_retN : PS X (.Return none pos) tRetN := fun _ _ σ H _ I h => wpAny_Return_none ⟨.non, σ, H, I, rfl, h⟩
def tIfS (c : TT) (t u : TS) : TS := fun D σ H => c σ H fun b H1 => if b = true then t D σ H1 else u D σ H1
theorem ps_if {c : Expr} {a b : List Stmt} {tc : TT} (hc : PT X c tc) (ha : PSs X a t) (hb : PSs X b u) : PS X (.If c a b pos) (tIfS tc t u) := by
  intro pins s σ H D I h
  refine wpAny_If (thn (hc pins s σ H _ I h) fun d s1 ⟨H1, I1, q1⟩ => ?_)
  cases d with
  | true => exact ha pins s1 σ H1 D I1 q1
  | false => exact hb pins s1 σ H1 D I1 q1
/-- code that the proof never comes to -/
def tNever : TS := fun _ _ _ => False
theorem ps_never : PS X st tNever := fun _ _ _ _ _ _ h => h.elim
theorem pss_never {sts : List Stmt} : PSs X sts tNever := fun _ _ _ _ _ _ h => h.elim
end

/-! ### targets -/
abbrev TG := V → St → Hp → (St → Hp → Prop) → Prop
abbrev TGs := List V → St → Hp → (St → Hp → Prop) → Prop
def PG (X : Cx) (target : Expr) (t : TG) : Prop :=
  ∀ (pins : List (Addr × Obj)) (s : Shared) (σ : St) (H : Hp) (v : V) (u : Value) (Q : St → Hp → Prop), Inv X pins σ H s → RelV v u → t v σ H Q →
    wpAny (model X.prog X.w) X.A (assign target X.env u) (fun _ s' => ∃ σ' H', Inv X pins σ' H' s' ∧ Q σ' H') X.xe s
/-- several targets, one after another -/
def PGs (X : Cx) (ts : List Expr) (t : TGs) : Prop :=
  ∀ (pins : List (Addr × Obj)) (s : Shared) (σ : St) (H : Hp) (vs : List V) (us : List Value) (Q : St → Hp → Prop), Inv X pins σ H s → Vals vs us → t vs σ H Q →
    wpAny (model X.prog X.w) X.A (assignInOrder ((assignEach ts X.env).map (·.2)) us) (fun _ s' => ∃ σ' H', Inv X pins σ' H' s' ∧ Q σ' H') X.xe s
/-- o[i] = v, by values -/
abbrev TSet := V → V → V → Hp → (Hp → Prop) → Prop
def PSet (X : Cx) (t : TSet) : Prop :=
  ∀ (pins : List (Addr × Obj)) (s : Shared) (σ : St) (H : Hp) (o i v : V) (ov iv u : Value) (Q : Hp → Prop), Inv X pins σ H s → RelV o ov → RelV i iv → RelV v u → t o i v H Q →
    wpAny (model X.prog X.w) X.A (setItem ov iv u) (fun _ s' => ∃ H', Inv X pins σ H' s' ∧ Q H') X.xe s
/-- a op= b, by values -/
abbrev TIp := V → V → Hp → VK → Prop
def PIp (X : Cx) (op : Operator) (t : TIp) : Prop :=
  ∀ (pins : List (Addr × Obj)) (s : Shared) (σ : St) (H : Hp) (x y : V) (v u : Value) (Q : VK), Inv X pins σ H s → RelV x v → RelV y u → t x y H Q →
    wpAny (model X.prog X.w) X.A (inplaceOp op v u) (EP X pins σ Q) X.xe s
section
variable {X : Cx} {pos : Pos}
def gName (i : Nat) : TG := fun v σ H Q => Q (σ.set i (some v)) H
theorem pg_name {i : Nat} {x : Str} (hN : X.N.Nodup) (hi : X.N[i]? = some x) (hx : Loc X.env.scope x) (hf : X.fn x = true ∨ X.env.scope.names.lookup x = some .local := by first | exact .inl rfl | exact .inr rfl | assumption) : PG X (.Name x pos) (gName i) := by
  intro pins s σ H v u Q I r h
  exact wpAny_assign_Name (store_ok I hN hi hx r (fun s' I' => ⟨_, H, I', h⟩) hf)
def gNil : TGs := fun vs σ H Q => vs = [] ∧ Q σ H
def gCons (t : TG) (u : TGs) : TGs := fun vs σ H Q => ∃ v r, vs = v :: r ∧ t v σ H fun σ' H' => u r σ' H' Q
theorem pgs_nil : PGs X [] gNil := by
  intro pins s σ H vs us Q I r h
  obtain ⟨e, h⟩ := h
  subst e
  cases r
  exact assignInOrder_nil ⟨σ, H, I, h⟩
theorem pgs_cons {e : Expr} {es : List Expr} {t : TG} {u : TGs} (h1 : PG X e t) (h2 : PGs X es u)
    (hs : (assignEach (e :: es) X.env).map (·.2) = assign e X.env :: (assignEach es X.env).map (·.2) := by rfl) : PGs X (e :: es) (gCons t u) := by
  intro pins s σ H vs us Q I r h
  obtain ⟨v, vr, e1, h⟩ := h
  subst e1
  cases r with
  | cons r rr =>
    rw [hs]
    refine assignInOrder_cons (thn (h1 pins s σ H _ _ _ I r h) fun _ s1 ⟨σ1, H1, I1, q1⟩ => ?_)
    exact h2 pins s1 σ1 H1 _ _ Q I1 rr q1
/-- (a, b, ..) = a tuple of that length -/
def gTup (K : PySem.W.Frag) (n : Nat) (t : TGs) : TG := fun v σ H Q => ∃ a xs, v = .ref a ∧ SqT K H a xs ∧ xs.length = n ∧ t xs σ H Q
theorem pg_tup {es : List Expr} {k : Nat} {t : TGs} {n : Nat} (hc : X.calm = true) (h : PGs X es t)
    (hn : (assignEach es X.env).length = n := by rfl) (hst : (assignEach es X.env).findIdx? (·.1) = none := by rfl) : PG X (.Tuple es k pos) (gTup X.K n t) := by
  intro pins s σ H v u Q I r hw
  obtain ⟨a, xs, e1, hq, hl, hw⟩ := hw
  subst e1
  cases r
  obtain ⟨its, rv, ht, hz⟩ := I.tuple hq
  refine assign_Tuple_tuple (I.ok.hd hc) ht (by simp [hn, ← hl, rv.length]) hst fun h' hx => ?_
  have I1 : Inv X pins σ H { s with heap := h' } := I.kept (t' := s.toks) fun b o e => hx b o (Nat.ne_of_lt (Heap.lt_size e)) e
  exact h pins _ σ H xs _ Q I1 (by simpa using rv) hw
/-- o[i] = .. -/
def gSub (to ti : TE) (t : TSet) : TG := fun v σ H Q => to σ H fun o H1 => ti σ H1 fun i H2 => t o i v H2 fun H3 => Q σ H3
theorem pg_sub {o i : Expr} {to ti : TE} {t : TSet} (ho : PE X o to) (hi : PE X i ti) (hs : PSet X t)
    (ha : ∀ v, assign (.Subscript o i pos) X.env v = (do
      let ov ← holding [v] (eval o X.env)
      let iv ← holding [v, ov] (eval i X.env)
      standAt pos
      holding [v, ov, iv] (setItem ov iv v)
      release [v, ov, iv] []) := by intro _; rfl) : PG X (.Subscript o i pos) (gSub to ti t) := by
  intro pins s σ H v u Q I r h
  rw [ha]
  refine wpAny_bind (wpAny_holding (thn (ho pins s σ H _ I h) fun ov s1 ⟨x, H1, I1, r1, q1⟩ => ?_))
  refine wpAny_bind (wpAny_holding (thn (hi pins s1 σ H1 _ I1 q1) fun iv s2 ⟨y, H2, I2, r2, q2⟩ => ?_))
  refine wpAny_bind (wpAny_standAt (wpAny_bind (wpAny_holding (thn (hs pins s2 σ H2 x y v ov iv u _ I2 r1 r2 r q2) fun _ s3 ⟨H3, I3, q3⟩ => ?_))))
  exact wpAny_release ⟨σ, H3, I3, q3⟩
/-- target = value -/
def tAsg (te : TE) (g : TG) : TS := fun D σ H => te σ H fun x H1 => g x σ H1 D.nx
theorem ps_asg {tg e : Expr} {te : TE} {g : TG} (he : PE X e te) (hg : PG X tg g) (hs : swapsWithSole [tg] e pos.line X.env = pure false := by rfl) (hw : swappedStores [tg] e X.env = pure none := by rfl)
    (h1 : (assignEach [tg] X.env).map (·.2) = [assign tg X.env] := by rfl) : PS X (.Assign [tg] e pos) (tAsg te g) := by
  intro pins s σ H D I h
  refine wpAny_Assign_stores (thn (he pins s σ H _ I h) fun v s1 ⟨x, H1, I1, r1, q1⟩ => ?_) hs hw
  rw [h1]
  exact thn (hg pins s1 σ H1 x v _ I1 r1 q1) fun _ s2 q => q
/-- name = value -/
theorem ps_set {i : Nat} {x : Str} {e : Expr} {te : TE} {pos' : Pos} (hN : X.N.Nodup) (hi : X.N[i]? = some x) (hx : Loc X.env.scope x) (he : PE X e te) (hs : swapsWith e (some (.Name x pos')) pos.line X.env = pure false := by rfl) (hf : X.fn x = true ∨ X.env.scope.names.lookup x = some .local := by first | exact .inl rfl | exact .inr rfl | assumption) :
    PS X (.Assign [.Name x pos'] e pos) (tAsg te (gName i)) := by
  intro pins s σ H D I h
  refine wpAny_Assign_Name (thn (he pins s σ H _ I h) fun v s1 ⟨y, H1, I1, r1, q1⟩ => ?_) hs
  exact store_ok I1 hN hi hx r1 (fun s2 I2 => ⟨_, H1, I2, q1⟩) hf
/-- a, b = x, y with plain local names: stored from the right; the pair itself is not tracked (the opening rows as in PyProof/Rows/TupAssign.lean:23) -/
def tPar (i j : Nat) (ta : TA) : TS := fun D σ H => ta σ H fun vs H1 => ∃ v w, vs = [v, w] ∧ D.nx ((σ.set i (some v)).set j (some w)) H1
theorem ps_par {i j : Nat} {x y : Str} {a b : Expr} {ta : TA} {px py pt : Pos} {kt k2 pt2} (hc : X.calm = true) (hN : X.N.Nodup) (hi : X.N[i]? = some x) (hj : X.N[j]? = some y) (hij : i ≠ j)
    (hx : X.env.scope.names.lookup x = some .local) (hy : X.env.scope.names.lookup y = some .local) (ha : PA X [a, b] ta)
    (hw : swappedStores [.Tuple [.Name x px, .Name y py] kt pt] (.Tuple [a, b] k2 pt2) X.env = pure (some [x, y]))
    (hs : swapsWithSole [.Tuple [.Name x px, .Name y py] kt pt] (.Tuple [a, b] k2 pt2) pos.line X.env = pure false := by rfl) :
    PS X (.Assign [.Tuple [.Name x px, .Name y py] kt pt] (.Tuple [a, b] k2 pt2) pos) (tPar i j ta) := by
  intro pins s σ H D I h
  rw [exec_Assign_arm]
  refine wpAny_bind (wpAny_standAt ?_)
  rw [hs]
  refine wpAny_bind (wpAny_pure ?_)
  rw [if_neg (by decide)]
  refine wpAny_bind (Tuple_ (thn (ha _ pins s σ H _ I h) fun us s1 ⟨vs, H1, I1, r1, q1⟩ => ?_))
  obtain ⟨v, w, e1, q1⟩ := q1
  subst e1
  obtain ⟨u1, u2, rfl, rv, rw'⟩ : ∃ u1 u2, us = [u1, u2] ∧ RelV v u1 ∧ RelV w u2 := by
    cases r1 with
    | cons p q =>
      cases q with
      | cons p' q' =>
        cases q'
        exact ⟨_, _, rfl, p, p'⟩
  refine wpAny_newObj_type ?_ (by show 2 ≤ sizeLine; decide)
  have I2 : Inv X pins σ H1 { s1 with heap := s1.heap.push { cls := .type "tuple", data := .seq [u1, u2].toArray } } := I1.kept (t' := s1.toks) fun b o e => Heap.get?_push_of_some _ e
  rw [hw]
  refine wpAny_bind (wpAny_pure ?_)
  show wpAny (model X.prog X.w) X.A (do rule "assign.swapped-stores"; let items ← unpackItems (.ref s1.heap.objs.size) 2 none; assignInOrder [fun v => bindName X.env y v, fun v => bindName X.env x v] items.reverse; pure Flow.next) _ _ _
  refine wpAny_bind (wpAny_rule (wpAny_bind (unpackItems_tuple (items := #[u1, u2]) (I.ok.hd hc) (IsTup.new s1.heap _) fun h' hx' => ?_)))
  have I3 := I2.kept (h' := h') (t' := s1.toks) fun b o e => hx' b o (Nat.ne_of_lt (Heap.lt_size e)) e
  show wpAny _ _ (assignInOrder [fun v => bindName X.env y v, fun v => bindName X.env x v] [u2, u1] >>= fun _ => pure Flow.next) _ _ _
  refine wpAny_bind (assignInOrder_cons (wpAny_bindName (store_ok I3 hN hj (.inl hy) rw' (fun s2 I4 => ?_) (.inr hy))))
  refine assignInOrder_cons (wpAny_bindName (store_ok I4 hN hi (.inl hx) rv (fun s3 I5 => assignInOrder_nil (wpAny_pure ?_)) (.inr hx)))
  rw [List.set_comm _ _ (Ne.symm hij)] at I5
  exact ⟨_, H1, I5, q1⟩
/-- name op= e -/
def tAug (i : Nat) (te : TE) (ti : TIp) : TS := fun D σ H => ∃ x, σ[i]? = some (some x) ∧ te σ H fun y H1 => ti x y H1 fun z H2 => D.nx (σ.set i (some z)) H2
theorem ps_aug {i : Nat} {x : Str} {e : Expr} {te : TE} {op : Operator} {ti : TIp} {pos' : Pos} (hN : X.N.Nodup) (hi : X.N[i]? = some x) (hx : Loc X.env.scope x) (he : PE X e te) (ho : PIp X op ti) (hf : X.fn x = true ∨ X.env.scope.names.lookup x = some .local := by first | exact .inl rfl | exact .inr rfl | assumption) :
    PS X (.AugAssign (.Name x pos') op e pos) (tAug i te ti) := by
  intro pins s σ H D I h
  obtain ⟨v, e1, h⟩ := h
  obtain ⟨m, hn, hl⟩ := I.loc
  have vis : Vis X.env.scope x := by rcases hx with k | k; exact .inl k; exact .inr (.inl k)
  obtain ⟨u, r, l⟩ := hl i x v hi e1 vis
  refine wpAny_AugAssign_Name ?_
  have go : wpAny (model X.prog X.w) X.A (eval e X.env) (fun w s₂ => wpAny (model X.prog X.w) X.A (inplaceOp op u w) (fun r s₃ => wpAny (model X.prog X.w) X.A (storeName X.env x r) (fun _ => SP X pins D .next) X.xe s₃) X.xe s₂) X.xe s := by
    refine thn (he pins s σ H _ I h) fun w s1 ⟨y, H1, I1, r1, q1⟩ => ?_
    refine thn (ho pins s1 σ H1 v y u w _ I1 r r1 q1) fun z s2 ⟨zv, H2, I2, r2, q2⟩ => ?_
    exact store_ok I2 hN hi hx r2 (fun s3 I3 => ⟨_, H2, I3, q2⟩) hf
  rcases l with ⟨hk, hm⟩ | ⟨hk, c, hc, hcell⟩
  · exact wpAny_loadName_local I.ok.kind hk hn hm go
  · rcases hk with hk | hk
    · exact wpAny_loadName_cell I.ok.kind hk hc hcell go
    · rcases hx with k | k
      · have : X.env.scope.names.lookup x = some .free := hk
        rw [k] at this; cases this
      · have : X.env.scope.names.lookup x = some .free := hk
        rw [k] at this; cases this
/-- o[i] op= e -/
def tAugS (to ti te : TE) (tget : V → V → Hp → VK → Prop) (tip : TIp) (tset : TSet) : TS := fun D σ H => to σ H fun o H1 => ti σ H1 fun i H2 => tget o i H2 fun x H3 => te σ H3 fun y H4 => tip x y H4 fun z H5 => tset o i z H5 fun H6 => D.nx σ H6
/-- o[i], by values -/
def PGet (X : Cx) (t : V → V → Hp → VK → Prop) : Prop :=
  ∀ (pins : List (Addr × Obj)) (s : Shared) (σ : St) (H : Hp) (o i : V) (ov iv : Value) (Q : VK), Inv X pins σ H s → RelV o ov → RelV i iv → t o i H Q →
    wpAny (model X.prog X.w) X.A (getItem ov iv) (EP X pins σ Q) X.xe s
theorem ps_augS {o i e : Expr} {to ti te : TE} {tget : V → V → Hp → VK → Prop} {tip : TIp} {tset : TSet} {op : Operator} {tpos : Pos} (ho : PE X o to) (hi : PE X i ti) (hg : PGet X tget) (he : PE X e te) (hp : PIp X op tip) (hs : PSet X tset)
    (ha : ∀ ov iv new, augStore i ov iv new = (do holding [new, ov, iv] (setItem ov iv new); release [new, ov, iv] []; pure .next) := by intros; rfl) : PS X (.AugAssign (.Subscript o i tpos) op e pos) (tAugS to ti te tget tip tset) := by
  intro pins s σ H D I h
  refine wpAny_AugAssign_SubscriptAny (thn (ho pins s σ H _ I h) fun ov s1 ⟨x1, H1, I1, r1, q1⟩ => ?_) ha
  refine thn (hi pins s1 σ H1 _ I1 q1) fun iv s2 ⟨x2, H2, I2, r2, q2⟩ => ?_
  refine thn (hg pins s2 σ H2 x1 x2 ov iv _ I2 r1 r2 q2) fun old s3 ⟨x3, H3, I3, r3, q3⟩ => ?_
  refine thn (he pins s3 σ H3 _ I3 q3) fun v s4 ⟨x4, H4, I4, r4, q4⟩ => ?_
  refine thn (hp pins s4 σ H4 x3 x4 old v _ I4 r3 r4 q4) fun new s5 ⟨x5, H5, I5, r5, q5⟩ => ?_
  exact thn (hs pins s5 σ H5 x1 x2 x5 ov iv new _ I5 r1 r2 r5 q5) fun _ s6 ⟨H6, I6, q6⟩ => ⟨σ, H6, I6, q6⟩
/-- ints -/
def ipI (f : Int → Int → Int) : TIp := fun x y H Q => ∃ i j, x = .int i ∧ y = .int j ∧ Q (.int (f i j)) H
theorem ip_add : PIp X .Add (ipI fun i j => i + j) := by
  intro pins s σ H x y v u Q I r1 r2 h
  obtain ⟨i, j, e1, e2, q⟩ := h
  subst e1; subst e2
  obtain ⟨t, rfl⟩ := r1
  obtain ⟨t', rfl⟩ := r2
  exact iadd_int ⟨.int _, H, I.tok _, ⟨_, rfl⟩, q⟩
theorem ip_sub : PIp X .Sub (ipI fun i j => i - j) := by
  intro pins s σ H x y v u Q I r1 r2 h
  obtain ⟨i, j, e1, e2, q⟩ := h
  subst e1; subst e2
  obtain ⟨t, rfl⟩ := r1
  obtain ⟨t', rfl⟩ := r2
  exact isub_int ⟨.int _, H, I.tok _, ⟨_, rfl⟩, q⟩
end

/-! ### while -/
section
variable {X : Cx} {pos : Pos}
/-- the invariant W with its measure -/
def tWhile (c : TT) (tb : TS) : TS := fun D σ H => ∃ W : Nat → St → Hp → Prop, (∃ m, W m σ H) ∧ ∀ m σ H, W m σ H →
  c σ H fun b H1 => if b = true then ∃ N : St → Hp → Prop, (∀ σ' H', N σ' H' → ∃ m', m' < m ∧ W m' σ' H') ∧ tb { D with nx := N, ct := N, bk := D.nx } σ H1 else D.nx σ H1
theorem ps_while {c : Expr} {body : List Stmt} {tc : TT} {tb : TS} (hp : PassesOwn (model X.prog X.w) X.A X.env X.xe) (hc : PT X c tc) (hb : PSs X body tb) : PS X (.While c body [] pos) (tWhile tc tb) := by
  intro pins s σ H D I h
  obtain ⟨W, ⟨m0, w0⟩, turn⟩ := h
  refine wpAny_While (codeAny_whileLoop (fun n s' => ∃ σ' H', Inv X pins σ' H' s' ∧ W n σ' H') ?_ m0 ⟨σ, H, I, w0⟩)
  rintro n s1 ⟨σ1, H1, I1, w1⟩
  refine wpAny_passesOwn hp (thn (hc pins s1 σ1 H1 _ I1 (turn n σ1 H1 w1)) fun b s2 ⟨H2, I2, q2⟩ => ?_)
  cases b with
  | true =>
    obtain ⟨N, hN, q2⟩ := q2
    rw [if_pos rfl]
    refine wpAny_passesOwn hp (thn (hb pins s2 σ1 H2 _ I2 q2) fun f s3 q3 => ?_)
    cases f with
    | next =>
      obtain ⟨σ3, H3, I3, n3⟩ := q3
      obtain ⟨m', hm, w3⟩ := hN σ3 H3 n3
      exact ⟨m', hm, σ3, H3, I3, w3⟩
    | cont =>
      obtain ⟨σ3, H3, I3, n3⟩ := q3
      obtain ⟨m', hm, w3⟩ := hN σ3 H3 n3
      exact ⟨m', hm, σ3, H3, I3, w3⟩
    | brk => exact q3
    | ret v => exact q3
  | false =>
    rw [if_neg Bool.false_ne_true]
    exact wpAny_execs_nil ⟨σ1, H2, I2, q2⟩
end

/-! ### what a loop or a comprehension walks -/
/-- at turn i: it yields x (the heap may grow), or it stops -/
structure It where
  go : Nat → Hp → Prop
  yld : Nat → Hp → V → Hp → Prop
  stop : Nat → Hp → Prop
/-- the iterator's own objects may turn: they are not the frame's, not pinned, younger than the entry (or a comprehension's own) -/
def FpOk (X : Cx) (pins : List (Addr × Obj)) (H : Hp) (b : Addr) : Prop :=
  H b = none ∧ b ≠ X.env.locals ∧ b ∉ X.fs ∧ (b ∈ X.ex ∨ X.s₀.heap.objs.size ≤ b) ∧ (∀ x c, X.env.cells.lookup x = some c → c ≠ b) ∧ ∀ p ∈ X.pn ++ pins, p.1 ≠ b
theorem Inv.fpOk {X : Cx} {pins : List (Addr × Obj)} {σ : St} {H H' : Hp} {s : Shared} {b : Addr} (I : Inv X pins σ H s) (hb : s.heap.objs.size ≤ b) (hn : H' b = none) : FpOk X pins H' b := by
  refine ⟨hn, Nat.ne_of_gt (Nat.lt_of_lt_of_le I.lt hb), I.nofs hb, .inr (Nat.le_trans I.sz hb), fun x c e z => ?_, fun p hp z => ?_⟩
  · obtain ⟨v, q⟩ := I.cell x c e
    exact absurd (Nat.lt_of_lt_of_le q.lt (by rw [z]; exact hb)) (Nat.lt_irrefl _)
  · exact absurd (Nat.lt_of_lt_of_le (Heap.lt_size (I.pin p hp).1) (by rw [z]; exact hb)) (Nat.lt_irrefl _)
structure Turn (P : Program) (w : World) (K : PySem.W.Frag) (tg : Expr) (J : It) (fp : List Addr) (it : Addr) (tn : Nat → Heap → Prop) : Prop where
  mem : it ∈ fp
  obj : ∀ i h, tn i h → ∀ b ∈ fp, ∃ o, h.get? b = some o ∧ ∀ v, o.data ≠ .cell v
  keep : ∀ i h h', tn i h → (∀ b ∈ fp, ∀ o, h.get? b = some o → h'.get? b = some o) → tn i h'
  item : ∀ (X : Cx), X.prog = P → X.w = w → X.K = K → X.calm = true → ∀ (i : Nat) (pins : List (Addr × Obj)) (s : Shared) (σ : St) (H : Hp) (E : Value → Shared → Prop), Inv X pins σ H s → (∀ b ∈ fp, FpOk X pins H b) → tn i s.heap → J.go i H →
    wpAny (model P w) X.A (pyNext (.ref it)) (fun r s1 => ∃ u, r = some u ∧
      wpAny (model P w) X.A (letOwnedTupleGo tg (.ref it) u) (fun _ s2 => ∃ x H', Inv X pins σ H' s2 ∧ RelV x u ∧ J.yld i H x H' ∧ tn (i + 1) s2.heap ∧ ∀ b ∈ fp, H' b = none) E s1) E s
  done : ∀ (X : Cx), X.prog = P → X.w = w → X.K = K → X.calm = true → ∀ (i : Nat) (pins : List (Addr × Obj)) (s : Shared) (σ : St) (H : Hp) (E : Value → Shared → Prop), Inv X pins σ H s → (∀ b ∈ fp, FpOk X pins H b) → tn i s.heap → J.stop i H →
    wpAny (model P w) X.A (pyNext (.ref it)) (fun r s1 => r = none ∧ Inv X pins σ H s1) E s
  self : ∀ (A : Around) (i : Nat) (s : Shared) (Q : Value → Shared → Prop) (E : Value → Shared → Prop), tn i s.heap → Q (.ref it) s → wpAny (model P w) A (pyIter (.ref it)) Q E s
abbrev TI := St → Hp → (It → Hp → Prop) → Prop
/-- an iterator has come -/
def PIE (X : Cx) (pins : List (Addr × Obj)) (σ : St) (tg : Expr) (R : It → Hp → Prop) (itv : Value) (s2 : Shared) : Prop :=
  ∃ (it : Addr) (fp : List Addr) (tn : Nat → Heap → Prop) (J : It) (H' : Hp), itv = .ref it ∧ Inv X pins σ H' s2 ∧ Turn X.prog X.w X.K tg J fp it tn ∧ tn 0 s2.heap ∧ (∀ b ∈ fp, FpOk X pins H' b) ∧ R J H'
def PI (X : Cx) (tg iter : Expr) (wi : TI) : Prop :=
  ∀ (pins : List (Addr × Obj)) (s : Shared) (σ : St) (H : Hp) (R : It → Hp → Prop), Inv X pins σ H s → wi σ H R →
    wpAny (model X.prog X.w) X.A (eval iter X.env) (fun v s1 => wpAny (model X.prog X.w) X.A (pyIter v) (PIE X pins σ tg R) X.xe s1) X.xe s

/-- the step ahead of the store is nothing for an iterator that keeps no tuple -/
theorem go_of {M : Model} {A : Around} {E : Value → Shared → Prop} {s : Shared} {tg : Expr} {it : Addr} {u : Value} {o : Obj} {n : String} {vs : Array Value} {Q : Unit → Shared → Prop} (ho : s.heap.get? it = some o) (hc : o.cls = .type n) (hd : o.data = .fields vs)
    (hn : ["enumerate", "zip", "dict_itemiterator", "dict_reverseitemiterator", "odict_iterator", "itertools.zip_longest", "itertools.pairwise"].contains n = false) (hQ : Q () s) : wpAny M A (letOwnedTupleGo tg (.ref it) u) Q E s := by
  unfold letOwnedTupleGo
  cases tg <;> first
    | exact wpAny_pure hQ
    | (cases u <;> first
        | exact wpAny_pure hQ
        | (refine wpAny_bind (wpAny_load ho ?_)
           rw [hc, hd]
           show wpAny M A (if (["enumerate", "zip", "dict_itemiterator", "dict_reverseitemiterator", "odict_iterator", "itertools.zip_longest", "itertools.pairwise"].contains n && vs[0]? == some (rawInt _)) = true then _ else _) Q E s
           rw [if_neg (by intro h; rw [hn, Bool.false_and] at h; cases h)]
           exact wpAny_pure hQ))

/-- the list at a, as it stands at each turn (a loop may append to it) -/
def Itl (K : PySem.W.Frag) (a : Addr) : It :=
  ⟨fun i H => ∃ xs x, SqL K H a xs ∧ xs[i]? = some x, fun i H x H' => H' = H ∧ ∀ xs, SqL K H a xs → xs[i]? = some x, fun i H => ∃ xs, SqL K H a xs ∧ xs.length ≤ i⟩
def Itt (K : PySem.W.Frag) (a : Addr) : It :=
  ⟨fun i H => ∃ xs x, SqT K H a xs ∧ xs[i]? = some x, fun i H x H' => H' = H ∧ ∀ xs, SqT K H a xs → xs[i]? = some x, fun i H => ∃ xs, SqT K H a xs ∧ xs.length ≤ i⟩
/-- lo, lo + 1, .. (n of them) -/
def Itr (lo : Int) (n : Nat) : It := ⟨fun i _ => i < n, fun i H x H' => H' = H ∧ x = .int (lo + i), fun i _ => n ≤ i⟩
theorem turn_list {P : Program} {w : World} {K : PySem.W.Frag} {tg : Expr} (a it : Addr) : Turn P w K tg (Itl K a) [it] it (fun i h => h.IsListIter it a i) where
  mem := by simp
  obj := fun i h st b hb => by
    have e : b = it := by simpa using hb
    subst e
    obtain ⟨o, e, c, d⟩ := st
    exact ⟨o, e, fun v z => by rw [d] at z; cases z⟩
  keep := fun i h h' st k => st.at fun o e => k it (by simp) o e
  item := by
    intro X hP hw hK hc i pins s σ H E I hf st hg
    subst hP hw hK
    obtain ⟨xs, x, hq, hx⟩ := hg
    obtain ⟨its, rv, p, hz⟩ := I.list hq
    obtain ⟨u, hu, ru⟩ := rv.get hx
    obtain ⟨f0, f1, f2, f3, f4, f5⟩ := hf it (by simp)
    refine wpAny_pyNext_list_item st p.isList (x := u) (by simpa using hu) fun h' st' sb => ?_
    have I1 : Inv X pins σ H { s with heap := h' } := I.turned (t' := s.toks) (fun b o hb e => (sb.2 b hb).trans e) f0 f1 f3 f4 f5
    obtain ⟨o, e, c, d⟩ := id st'
    exact ⟨u, rfl, go_of (s := { s with heap := h' }) e c d (by decide) ⟨x, H, I1, ru, ⟨rfl, fun ys hy => by rw [I.list_inj hy hq]; exact hx⟩, st', fun b hb => (hf b hb).1⟩⟩
  done := by
    intro X hP hw hK hc i pins s σ H E I hf st hg
    subst hP hw hK
    obtain ⟨xs, hq, hx⟩ := hg
    obtain ⟨its, rv, p, hz⟩ := I.list hq
    obtain ⟨f0, f1, f2, f3, f4, f5⟩ := hf it (by simp)
    have hl := rv.length
    exact wpAny_pyNext_list_end (I.ok.hd hc) st p.isList (by simp; omega) fun h' eb => ⟨rfl, I.turned (t' := s.toks) (fun b o hb e => eb b o hb e) f0 f1 f3 f4 f5⟩
  self := fun _ _ _ _ _ st h => wpAny_pyIter_listiter st h
theorem turn_tuple {P : Program} {w : World} {K : PySem.W.Frag} {tg : Expr} (a it : Addr) : Turn P w K tg (Itt K a) [it] it (fun i h => h.IsTupleIter it a i) where
  mem := by simp
  obj := fun i h st b hb => by
    have e : b = it := by simpa using hb
    subst e
    obtain ⟨o, e, c, d⟩ := st
    exact ⟨o, e, fun v z => by rw [d] at z; cases z⟩
  keep := fun i h h' st k => st.at fun o e => k it (by simp) o e
  item := by
    intro X hP hw hK hc i pins s σ H E I hf st hg
    subst hP hw hK
    obtain ⟨xs, x, hq, hx⟩ := hg
    obtain ⟨its, rv, p, hz⟩ := I.tuple hq
    obtain ⟨u, hu, ru⟩ := rv.get hx
    obtain ⟨f0, f1, f2, f3, f4, f5⟩ := hf it (by simp)
    refine wpAny_pyNext_tuple_item st (show s.heap.IsTuple a its.toArray from p) (x := u) (by simpa using hu) fun h' st' sb => ?_
    have I1 : Inv X pins σ H { s with heap := h' } := I.turned (t' := s.toks) (fun b o hb e => (sb.2 b hb).trans e) f0 f1 f3 f4 f5
    obtain ⟨o, e, c, d⟩ := id st'
    exact ⟨u, rfl, go_of (s := { s with heap := h' }) e c d (by decide) ⟨x, H, I1, ru, ⟨rfl, fun ys hy => by rw [I.tuple_inj hy hq]; exact hx⟩, st', fun b hb => (hf b hb).1⟩⟩
  done := by
    intro X hP hw hK hc i pins s σ H E I hf st hg
    subst hP hw hK
    obtain ⟨xs, hq, hx⟩ := hg
    obtain ⟨its, rv, p, hz⟩ := I.tuple hq
    obtain ⟨f0, f1, f2, f3, f4, f5⟩ := hf it (by simp)
    have hl := rv.length
    exact wpAny_pyNext_tuple_end (I.ok.hd hc) st (show s.heap.IsTuple a its.toArray from p) (by simp; omega) fun h' eb => ⟨rfl, I.turned (t' := s.toks) (fun b o hb e => eb b o hb e) f0 f1 f3 f4 f5⟩
  self := fun _ _ _ _ _ st h => wpAny_pyIter_tupleiter st h
theorem turn_range {P : Program} {w : World} {K : PySem.W.Frag} {tg : Expr} (it : Addr) (lo : Int) (n : Nat) : Turn P w K tg (Itr lo n) [it] it (fun i h => IsRangeIter h it (lo + (i : Nat) * 1) ((n : Int) - (i : Nat)) 1) where
  mem := by simp
  obj := fun i h st b hb => by
    have e : b = it := by simpa using hb
    subst e
    exact ⟨_, st, fun v z => by
      have z' : Data.fields _ = Data.cell v := z
      cases z'⟩
  keep := fun i h h' st k => k it (by simp) _ st
  item := by
    intro X hP hw hK hc i pins s σ H E I hf st hg
    subst hP hw hK
    obtain ⟨f0, f1, f2, f3, f4, f5⟩ := hf it (by simp)
    have W := Walks.range (prog := X.prog) (w := X.w) (I.ok.hd hc) it lo 1 n
    refine W.item i s _ _ hg st fun v h' tk hv st' kk => ?_
    obtain ⟨t, rfl⟩ := hv
    have I1 : Inv X pins σ H { s with heap := h', toks := tk } := I.turned (fun b o hb e => kk b o (by simpa using hb) e) f0 f1 f3 f4 f5
    refine ⟨_, rfl, go_of (s := { s with heap := h', toks := tk }) (n := "range_iterator") st' rfl rfl (by decide) ⟨.int (lo + i), H, I1, ⟨t, ?_⟩, ⟨rfl, rfl⟩, st', fun b hb => (hf b hb).1⟩⟩
    rw [Int.mul_one]
  done := by
    intro X hP hw hK hc i pins s σ H E I hf st hg
    subst hP hw hK
    obtain ⟨f0, f1, f2, f3, f4, f5⟩ := hf it (by simp)
    exact wpAny_pyNext_range_end (I.ok.hd hc) st (by have : n ≤ i := hg; omega) fun h' eb => ⟨rfl, I.turned (t' := s.toks) (fun b o hb e => eb b o hb e) f0 f1 f3 f4 f5⟩
  self := fun _ _ _ _ _ st h => wpAny_pyIter_rangeiter st h
end L2

namespace L2
open PySem PySem.Spec PyProof.Rows
section
variable {X : Cx} {tg : Expr}
def iList (K : PySem.W.Frag) (tl : TE) : TI := fun σ H R => tl σ H fun x H1 => ∃ a, x = .ref a ∧ (∃ xs, SqL K H1 a xs) ∧ R (Itl K a) H1
def iTup (K : PySem.W.Frag) (tl : TE) : TI := fun σ H R => tl σ H fun x H1 => ∃ a, x = .ref a ∧ (∃ xs, SqT K H1 a xs) ∧ R (Itt K a) H1
theorem pi_list {l : Expr} {tl : TE} (hl : PE X l tl) : PI X tg l (iList X.K tl) := by
  intro pins s σ H R I h
  refine thn (hl pins s σ H _ I h) fun v s1 ⟨x, H1, I1, r1, q1⟩ => ?_
  obtain ⟨a, e, ⟨xs, hq⟩, q⟩ := q1
  subst e
  cases r1
  obtain ⟨its, rv, p, hz⟩ := I1.list hq
  refine wpAny_pyIter_list p.isList ?_
  refine ⟨s1.heap.objs.size, [s1.heap.objs.size], _, _, H1, rfl, I1.kept (t' := s1.toks) fun b o e => Heap.get?_push_of_some _ e, turn_list a _, ⟨_, Heap.get?_push_size _ rfl, rfl, rfl⟩, fun b hb => ?_, q⟩
  have e : b = s1.heap.objs.size := by simpa using hb
  subst e
  exact I1.fpOk (Nat.le_refl _) (I1.hok.fresh (Nat.le_refl _))
theorem pi_tup {l : Expr} {tl : TE} (hl : PE X l tl) : PI X tg l (iTup X.K tl) := by
  intro pins s σ H R I h
  refine thn (hl pins s σ H _ I h) fun v s1 ⟨x, H1, I1, r1, q1⟩ => ?_
  obtain ⟨a, e, ⟨xs, hq⟩, q⟩ := q1
  subst e
  cases r1
  obtain ⟨its, rv, p, hz⟩ := I1.tuple hq
  refine wpAny_pyIter_tuple (show s1.heap.IsTuple a its.toArray from p) ?_
  refine ⟨s1.heap.objs.size, [s1.heap.objs.size], _, _, H1, rfl, I1.kept (t' := s1.toks) fun b o e => Heap.get?_push_of_some _ e, turn_tuple a _, ⟨_, Heap.get?_push_size _ rfl, rfl, rfl⟩, fun b hb => ?_, q⟩
  have e : b = s1.heap.objs.size := by simpa using hb
  subst e
  exact I1.fpOk (Nat.le_refl _) (I1.hok.fresh (Nat.le_refl _))
/-- a range object just made, walked -/
theorem range_it {pins : List (Addr × Obj)} {σ : St} {H : Hp} {s : Shared} {R : It → Hp → Prop} {E : Value → Shared → Prop} {lo hi : Int} {t u v : Tok} {tk : Nat} (I : Inv X pins σ H s) (h1 : -(2 ^ 62) ≤ lo) (h2 : lo < 2 ^ 62) (h3 : -(2 ^ 62) ≤ hi) (h4 : hi < 2 ^ 62)
    (q : R (Itr lo (hi - lo).toNat) H) : wpAny (model X.prog X.w) X.A (pyIter (.ref s.heap.objs.size)) (PIE X pins σ tg R) E { s with heap := s.heap.push { cls := .type "range", data := .fields #[.int lo t, .int hi u, .int 1 v] }, toks := tk } := by
  refine wpAny_pyIter_range (IsRange.new ..) (small_one h1 h2 h3 h4) ?_
  have I1 : Inv X pins σ H { s with heap := s.heap.push { cls := .type "range", data := .fields #[.int lo t, .int hi u, .int 1 v] }, toks := tk } := I.kept fun b o e => Heap.get?_push_of_some _ e
  refine ⟨(s.heap.push { cls := .type "range", data := .fields #[.int lo t, .int hi u, .int 1 v] }).objs.size, [(s.heap.push { cls := .type "range", data := .fields #[.int lo t, .int hi u, .int 1 v] }).objs.size], _, _, H, rfl,
    I1.kept (t' := tk) fun b o e => Heap.get?_push_of_some _ e, turn_range _ lo (hi - lo).toNat, ?_, fun b hb => ?_, q⟩
  · have e1 : lo + ((0 : Nat) : Int) * 1 = lo := by simp
    have e2 : (((hi - lo).toNat : Nat) : Int) - ((0 : Nat) : Int) = Builtin.Range.rangeSize lo hi 1 := by rw [rangeSize_one]; split <;> omega
    show IsRangeIter _ _ (lo + ((0 : Nat) : Int) * 1) ((((hi - lo).toNat : Nat) : Int) - ((0 : Nat) : Int)) 1
    rw [e1, e2]
    exact Heap.get?_push_size _ rfl
  · have e : b = (s.heap.push { cls := .type "range", data := .fields #[.int lo t, .int hi u, .int 1 v] }).objs.size := by simpa using hb
    subst e
    exact I1.fpOk (Nat.le_refl _) (I1.hok.fresh (Nat.le_refl _))
def iRng1 (ta : TA) : TI := fun σ H R => ta σ H fun vs H1 => ∃ j : Int, vs = [.int j] ∧ -(2 ^ 62) ≤ j ∧ j < 2 ^ 62 ∧ R (Itr 0 j.toNat) H1
def iRng2 (ta : TA) : TI := fun σ H R => ta σ H fun vs H1 => ∃ i j : Int, vs = [.int i, .int j] ∧ (-(2 ^ 62) ≤ i ∧ i < 2 ^ 62 ∧ -(2 ^ 62) ≤ j ∧ j < 2 ^ 62) ∧ R (Itr i (j - i).toNat) H1
theorem pi_range1 {a : Expr} {ta : TA} {p pos : Pos} (hg : Gl X "range") (hm : X.mg "range" = none) (ha : PA X [a] ta) (hs : starEach [a] X.env = [(false, eval a X.env)] := by rfl) : PI X tg (.Call (.Name "range" p) [a] [] pos) (iRng1 ta) := by
  intro pins s σ H R I h
  refine Call_ (ld_blt I hg hm boot_range (PyProof.Rows.callWith_type1 (thn (ha pos pins s σ H _ I h) fun us s1 ⟨vs, H1, I1, r1, q1⟩ => ?_) hs rfl))
  obtain ⟨j, e, q1, q2, q⟩ := q1
  subst e
  cases r1 with
  | cons r rr =>
    cases rr
    obtain ⟨t, rfl⟩ := r
    exact call_range_1 (range_it I1 (by omega) (by omega) q1 q2 (by simpa using q))
theorem pi_range2 {a b : Expr} {ta : TA} {p pos : Pos} (hg : Gl X "range") (hm : X.mg "range" = none) (ha : PA X [a, b] ta) (hs : starEach [a, b] X.env = [(false, eval a X.env), (false, eval b X.env)] := by rfl) (hs2 : starEach [b] X.env = [(false, eval b X.env)] := by rfl) :
    PI X tg (.Call (.Name "range" p) [a, b] [] pos) (iRng2 ta) := by
  intro pins s σ H R I h
  refine Call_ (ld_blt I hg hm boot_range (PyProof.Rows.callWith_type1 (thn (ha pos pins s σ H _ I h) fun us s1 ⟨vs, H1, I1, r1, q1⟩ => ?_) (by rw [hs, hs2]) (by rw [hs2]; rfl)))
  obtain ⟨i, j, e, ⟨q1, q2, q3, q4⟩, q⟩ := q1
  subst e
  cases r1 with
  | cons r rr =>
    cases rr with
    | cons r' rr =>
      cases rr
      obtain ⟨t, rfl⟩ := r
      obtain ⟨t', rfl⟩ := r'
      exact call_range_2 (range_it I1 q1 q2 q3 q4 q)

/-! ### for -/
/-- W: the invariant by the turn and a measure; N: what the body is to reach -/
def tFor (wi : TI) (g : TG) (tb : TS) : TS := fun D σ H => wi σ H fun J H1 => ∃ W : Nat → Nat → St → Hp → Prop, (∃ m, W 0 m σ H1) ∧ ∀ i m σ H, W i m σ H →
  (J.stop i H ∧ D.nx σ H) ∨ (J.go i H ∧ ∃ N : St → Hp → Prop, (∀ σ' H', N σ' H' → ∃ m', m' < m ∧ W (i + 1) m' σ' H') ∧ ∀ x H', J.yld i H x H' → g x σ H' fun σ2 H2 => tb { D with nx := N, ct := N, bk := D.nx } σ2 H2)
/-- the records at fp as they stand -/
def pinsAt (fp : List Addr) (h : Heap) : List (Addr × Obj) := fp.filterMap fun b => (h.get? b).map fun o => (b, o)
theorem mem_pinsAt {fp : List Addr} {h : Heap} {b : Addr} {o : Obj} (hb : b ∈ fp) (e : h.get? b = some o) : (b, o) ∈ pinsAt fp h := List.mem_filterMap.mpr ⟨b, hb, by rw [e]; rfl⟩
theorem of_pinsAt {fp : List Addr} {h : Heap} {p : Addr × Obj} (hp : p ∈ pinsAt fp h) : p.1 ∈ fp ∧ h.get? p.1 = some p.2 := by
  obtain ⟨b, hb, e⟩ := List.mem_filterMap.mp hp
  cases q : h.get? b with
  | none => rw [q] at e; cases e
  | some o =>
    rw [q] at e
    have e' : (b, o) = p := Option.some.inj e
    subst e'
    exact ⟨hb, q⟩
theorem Inv.pinned {pins : List (Addr × Obj)} {σ : St} {H : Hp} {s : Shared} {fp : List Addr} (I : Inv X pins σ H s) (hf : ∀ b ∈ fp, FpOk X pins H b) (ho : ∀ b ∈ fp, ∃ o, s.heap.get? b = some o ∧ ∀ v, o.data ≠ .cell v) : Inv X (pins ++ pinsAt fp s.heap) σ H s :=
  I.pins_of fun p hp => (List.mem_append.mp hp).elim (fun z => I.pin p (List.mem_append_right _ z)) fun z => by
    obtain ⟨hb, e⟩ := of_pinsAt z
    obtain ⟨f0, f1, f2, _⟩ := hf p.1 hb
    obtain ⟨o, e', d⟩ := ho p.1 hb
    rw [e] at e'; cases e'
    exact ⟨e, f0, f1, f2, d⟩
theorem Inv.unpinned {pins pl : List (Addr × Obj)} {σ : St} {H : Hp} {s : Shared} (I : Inv X (pins ++ pl) σ H s) : Inv X pins σ H s := I.pins_of fun p hp => I.pin p (List.mem_append_right _ (List.mem_append_left _ hp))
theorem ps_for {iter : Expr} {body : List Stmt} {wi : TI} {g : TG} {tb : TS} {pos : Pos} (hp : PassesOwn (model X.prog X.w) X.A X.env X.xe) (hc : X.calm = true) (hi : PI X tg iter wi) (hg : PG X tg g) (hb : PSs X body tb)
    (hs : ∀ x, foldedSetIterable iter X.env x = pure x := by intro _; rfl) : PS X (.For tg iter body [] pos) (tFor wi g tb) := by
  intro pins s σ H D I h
  refine wpAny_For (thn (hi pins s σ H _ I h) fun v s1 h1 => thn h1 fun itv s2 h2 => ?_) hs
  obtain ⟨it, fp, tn, J, H2, e, I2, T, st2, f2, W, ⟨m0, w0⟩, turn⟩ := h2
  subst e
  -- what stays true of the iterator's objects through the loop
  have stat : ∀ {H' : Hp}, (∀ b ∈ fp, H' b = none) → ∀ b ∈ fp, FpOk X pins H' b := fun hn b hb => ⟨hn b hb, (f2 b hb).2⟩
  refine codeAny_forLoop_any (fun n s' => ∃ i σ' H', Inv X pins σ' H' s' ∧ tn i s'.heap ∧ (∀ b ∈ fp, H' b = none) ∧ W i n σ' H') ?_ m0 ⟨0, σ, H2, I2, st2, fun b hb => (f2 b hb).1, w0⟩
  rintro n s3 ⟨i, σ3, H3, I3, st3, fr3, w3⟩
  rcases turn i n σ3 H3 w3 with ⟨stop, qn⟩ | ⟨go, N, hN, step⟩
  · refine wpAny_passesOwn hp (thn (T.done X rfl rfl rfl hc i pins s3 σ3 H3 X.xe I3 (stat fr3) st3 stop) fun r s4 ⟨hr, I4⟩ => ?_)
    subst hr
    exact wpAny_execs_nil ⟨σ3, H3, I4, qn⟩
  · refine wpAny_passesOwn hp (thn (T.item X rfl rfl rfl hc i pins s3 σ3 H3 X.xe I3 (stat fr3) st3 go) fun r s4 ⟨u, hr, h4⟩ => ?_)
    subst hr
    refine wpAny_passesOwn hp (thn h4 fun _ s5 ⟨x, H5, I5, r5, y5, st5, fr5⟩ => ?_)
    have I5' := I5.pinned (stat fr5) (T.obj _ _ st5)
    refine wpAny_passesOwn hp (thn (hg _ s5 σ3 H5 x u _ I5' r5 (step x H5 y5)) fun _ s6 ⟨σ6, H6, I6, q6⟩ => ?_)
    refine wpAny_passesOwn hp (thn (hb _ s6 σ6 H6 _ I6 q6) fun f s7 q7 => ?_)
    have again : ∀ {σ7 : St} {H7 : Hp}, Inv X (pins ++ pinsAt fp s5.heap) σ7 H7 s7 → N σ7 H7 → ∃ m, m < n ∧ ∃ i σ' H', Inv X pins σ' H' s7 ∧ tn i s7.heap ∧ (∀ b ∈ fp, H' b = none) ∧ W i m σ' H' := fun {σ7 H7} I7 n7 => by
      obtain ⟨m', hm, w7⟩ := hN σ7 H7 n7
      refine ⟨m', hm, i + 1, σ7, H7, I7.unpinned, T.keep _ _ _ st5 fun b hb o e => (I7.pin (b, o) (List.mem_append_right _ (List.mem_append_right _ (mem_pinsAt hb e)))).1, fun b hb => ?_, w7⟩
      obtain ⟨o, e, d⟩ := T.obj _ _ st5 b hb
      exact (I7.pin (b, o) (List.mem_append_right _ (List.mem_append_right _ (mem_pinsAt hb e)))).2.1
    cases f with
    | next => obtain ⟨σ7, H7, I7, n7⟩ := q7; exact again I7 n7
    | cont => obtain ⟨σ7, H7, I7, n7⟩ := q7; exact again I7 n7
    | brk => obtain ⟨σ7, H7, I7, q7⟩ := q7; exact ⟨σ7, H7, I7.unpinned, q7⟩
    | ret v => obtain ⟨x7, σ7, H7, I7, r7, q7⟩ := q7; exact ⟨x7, σ7, H7, I7.unpinned, r7, q7⟩
end

/-! ### the forms one uses -/
/-- over a list that the body leaves as it is -/
theorem for_list {K : PySem.W.Frag} {a : Addr} {xs : List V} {g : TG} {tb : TS} {D : Ends} {σ : St} {H : Hp} (Pv : Nat → St → Hp → Prop) (h0 : Pv 0 σ H) (hl : ∀ i σ H, i ≤ xs.length → Pv i σ H → SqL K H a xs)
    (hs : ∀ i x σ H, xs[i]? = some x → Pv i σ H → g x σ H fun σ2 H2 => tb { D with nx := Pv (i + 1), ct := Pv (i + 1), bk := D.nx } σ2 H2) (hd : ∀ σ H, Pv xs.length σ H → D.nx σ H) :
    ∃ W : Nat → Nat → St → Hp → Prop, (∃ m, W 0 m σ H) ∧ ∀ i m σ H, W i m σ H →
      ((Itl K a).stop i H ∧ D.nx σ H) ∨ ((Itl K a).go i H ∧ ∃ N : St → Hp → Prop, (∀ σ' H', N σ' H' → ∃ m', m' < m ∧ W (i + 1) m' σ' H') ∧ ∀ x H', (Itl K a).yld i H x H' → g x σ H' fun σ2 H2 => tb { D with nx := N, ct := N, bk := D.nx } σ2 H2) := by
  refine ⟨fun i m σ H => m = xs.length - i ∧ i ≤ xs.length ∧ Pv i σ H, ⟨xs.length, by simp, Nat.zero_le _, h0⟩, ?_⟩
  rintro i m σ H ⟨rfl, hi, p⟩
  have q := hl i σ H hi p
  by_cases hlt : i < xs.length
  · refine .inr ⟨⟨xs, xs[i], q, by simp [hlt]⟩, Pv (i + 1), fun σ' H' p' => ⟨xs.length - (i + 1), by omega, rfl, hlt, p'⟩, fun x H' y => ?_⟩
    obtain ⟨e, y⟩ := y
    subst e
    exact hs i x σ _ (y xs q) p
  · have e : i = xs.length := by omega
    subst e
    exact .inl ⟨⟨xs, q, Nat.le_refl _⟩, hd σ H p⟩
theorem for_tup {K : PySem.W.Frag} {a : Addr} {xs : List V} {g : TG} {tb : TS} {D : Ends} {σ : St} {H : Hp} (Pv : Nat → St → Hp → Prop) (h0 : Pv 0 σ H) (hl : ∀ i σ H, i ≤ xs.length → Pv i σ H → SqT K H a xs)
    (hs : ∀ i x σ H, xs[i]? = some x → Pv i σ H → g x σ H fun σ2 H2 => tb { D with nx := Pv (i + 1), ct := Pv (i + 1), bk := D.nx } σ2 H2) (hd : ∀ σ H, Pv xs.length σ H → D.nx σ H) :
    ∃ W : Nat → Nat → St → Hp → Prop, (∃ m, W 0 m σ H) ∧ ∀ i m σ H, W i m σ H →
      ((Itt K a).stop i H ∧ D.nx σ H) ∨ ((Itt K a).go i H ∧ ∃ N : St → Hp → Prop, (∀ σ' H', N σ' H' → ∃ m', m' < m ∧ W (i + 1) m' σ' H') ∧ ∀ x H', (Itt K a).yld i H x H' → g x σ H' fun σ2 H2 => tb { D with nx := N, ct := N, bk := D.nx } σ2 H2) := by
  refine ⟨fun i m σ H => m = xs.length - i ∧ i ≤ xs.length ∧ Pv i σ H, ⟨xs.length, by simp, Nat.zero_le _, h0⟩, ?_⟩
  rintro i m σ H ⟨rfl, hi, p⟩
  have q := hl i σ H hi p
  by_cases hlt : i < xs.length
  · refine .inr ⟨⟨xs, xs[i], q, by simp [hlt]⟩, Pv (i + 1), fun σ' H' p' => ⟨xs.length - (i + 1), by omega, rfl, hlt, p'⟩, fun x H' y => ?_⟩
    obtain ⟨e, y⟩ := y
    subst e
    exact hs i x σ _ (y xs q) p
  · have e : i = xs.length := by omega
    subst e
    exact .inl ⟨⟨xs, q, Nat.le_refl _⟩, hd σ H p⟩
theorem for_range {lo : Int} {n : Nat} {g : TG} {tb : TS} {D : Ends} {σ : St} {H : Hp} (Pv : Nat → St → Hp → Prop) (h0 : Pv 0 σ H)
    (hs : ∀ i σ H, i < n → Pv i σ H → g (.int (lo + i)) σ H fun σ2 H2 => tb { D with nx := Pv (i + 1), ct := Pv (i + 1), bk := D.nx } σ2 H2) (hd : ∀ σ H, Pv n σ H → D.nx σ H) :
    ∃ W : Nat → Nat → St → Hp → Prop, (∃ m, W 0 m σ H) ∧ ∀ i m σ H, W i m σ H →
      ((Itr lo n).stop i H ∧ D.nx σ H) ∨ ((Itr lo n).go i H ∧ ∃ N : St → Hp → Prop, (∀ σ' H', N σ' H' → ∃ m', m' < m ∧ W (i + 1) m' σ' H') ∧ ∀ x H', (Itr lo n).yld i H x H' → g x σ H' fun σ2 H2 => tb { D with nx := N, ct := N, bk := D.nx } σ2 H2) := by
  refine ⟨fun i m σ H => m = n - i ∧ i ≤ n ∧ Pv i σ H, ⟨n, by simp, Nat.zero_le _, h0⟩, ?_⟩
  rintro i m σ H ⟨rfl, hi, p⟩
  by_cases hlt : i < n
  · refine .inr ⟨hlt, Pv (i + 1), fun σ' H' p' => ⟨n - (i + 1), by omega, rfl, hlt, p'⟩, fun x H' y => ?_⟩
    obtain ⟨e, y⟩ := y
    subst e y
    exact hs i σ _ hlt p
  · have e : i = n := by omega
    subst e
    exact .inl ⟨Nat.le_refl _, hd σ H p⟩
/-- while, by a word and a measure of the state -/
theorem while_by {c : TT} {tb : TS} {D : Ends} {σ : St} {H : Hp} (Pv : St → Hp → Prop) (μ : St → Hp → Nat) (h0 : Pv σ H)
    (hs : ∀ σ H, Pv σ H → c σ H fun b H1 => if b = true then tb { D with nx := fun σ' H' => Pv σ' H' ∧ μ σ' H' < μ σ H, ct := fun σ' H' => Pv σ' H' ∧ μ σ' H' < μ σ H, bk := D.nx } σ H1 else D.nx σ H1)
    (mono : ∀ σ H Q Q', (∀ b H1, Q b H1 → Q' b H1) → c σ H Q → c σ H Q') : tWhile c tb D σ H := by
  refine ⟨fun m σ H => m = μ σ H ∧ Pv σ H, ⟨_, rfl, h0⟩, ?_⟩
  rintro m σ H ⟨rfl, p⟩
  refine mono σ H _ _ (fun b H1 q => ?_) (hs σ H p)
  cases b with
  | true => exact ⟨_, fun σ' H' ⟨p', l⟩ => ⟨_, l, rfl, p'⟩, q⟩
  | false => exact q
end L2

namespace L2
open PySem PySem.Spec PyProof.Rows

abbrev R2 := V → V → Hp → VK → Prop
/-- a two-place operation on values: f is binaryOp op, inplaceOp op or compareOp op -/
def OpR (X : Cx) (f : Value → Value → Sem Value) (r : R2) : Prop :=
  ∀ (pins : List (Addr × Obj)) (s : Shared) (σ : St) (H : Hp) (x y : V) (v u : Value) (Q : VK), Inv X pins σ H s → RelV x v → RelV y u → r x y H Q →
    wpAny (model X.prog X.w) X.A (f v u) (EP X pins σ Q) X.xe s
/-- a one-place operation -/
def UnR (X : Cx) (f : Value → Sem Value) (r : V → Hp → VK → Prop) : Prop :=
  ∀ (pins : List (Addr × Obj)) (s : Shared) (σ : St) (H : Hp) (x : V) (v : Value) (Q : VK), Inv X pins σ H s → RelV x v → r x H Q →
    wpAny (model X.prog X.w) X.A (f v) (EP X pins σ Q) X.xe s
/-- a call of a value that is known (a builtin, a type) with values -/
def CallR (X : Cx) (f : Value) (r : List V → Hp → VK → Prop) : Prop :=
  ∀ (pins : List (Addr × Obj)) (s : Shared) (σ : St) (H : Hp) (xs : List V) (us : List Value) (Q : VK), Inv X pins σ H s → Vals xs us → r xs H Q →
    wpAny (model X.prog X.w) X.A (call f us) (EP X pins σ Q) X.xe s
/-- a value's truth -/
def TruR (X : Cx) (r : V → Hp → (Bool → Hp → Prop) → Prop) : Prop :=
  ∀ (pins : List (Addr × Obj)) (s : Shared) (σ : St) (H : Hp) (x : V) (v : Value) (Q : Bool → Hp → Prop), Inv X pins σ H s → RelV x v → r x H Q →
    wpAny (model X.prog X.w) X.A (truthy v) (TP X pins σ Q) X.xe s

def tOp (r : R2) (ta tb : TE) : TE := fun σ H Q => ta σ H fun x H1 => tb σ H1 fun y H2 => r x y H2 Q
def tUn (r : V → Hp → VK → Prop) (ta : TE) : TE := fun σ H Q => ta σ H fun x H1 => r x H1 Q
/-- ints in, under C, and a value out -/
def rI (C : Int → Int → Prop) (g : Int → Int → V) : R2 := fun x y H Q => ∃ i j, x = .int i ∧ y = .int j ∧ C i j ∧ Q (g i j) H
def rI0 (g : Int → Int → V) : R2 := fun x y H Q => ∃ i j, x = .int i ∧ y = .int j ∧ Q (g i j) H
def rU (g : Int → V) : V → Hp → VK → Prop := fun x H Q => ∃ i, x = .int i ∧ Q (g i) H

section
variable {X : Cx} {a b c : Expr} {ta tb tc : TE} {pos : Pos}

theorem binT (ha : PE X a ta) (hb : PE X b tb) {pins : List (Addr × Obj)} {s : Shared} {σ : St} {H : Hp} {R : V → V → Hp → Prop} (I : Inv X pins σ H s)
    (h : ta σ H fun x H1 => tb σ H1 fun y H2 => R x y H2) {Q : Value → Shared → Prop} {f : Value → Value → Sem Value}
    (hf : ∀ v u s2 x y H2, Inv X pins σ H2 s2 → RelV x v → RelV y u → R x y H2 → wpAny (model X.prog X.w) X.A (f v u) Q X.xe s2) :
    wpAny (model X.prog X.w) X.A (eval a X.env) (fun v s₁ => wpAny (model X.prog X.w) X.A (eval b X.env) (fun u s₂ => wpAny (model X.prog X.w) X.A (f v u) Q X.xe s₂) X.xe s₁) X.xe s := by
  refine thn (ha pins s σ H _ I h) fun v s1 ⟨x, H1, I1, r1, q1⟩ => ?_
  refine thn (hb pins s1 σ H1 _ I1 q1) fun u s2 ⟨y, H2, I2, r2, q2⟩ => ?_
  exact hf v u s2 x y H2 I2 r1 r2 q2

theorem pe_op {op : Operator} {r : R2} (ho : OpR X (binaryOp op) r) (ha : PE X a ta) (hb : PE X b tb) : PE X (.BinOp a op b pos) (tOp r ta tb) := by
  intro pins s σ H Q I h
  exact wpAny_BinOp (binT ha hb I h fun v u s2 x y H2 I2 rx ry q => ho pins s2 σ H2 x y v u Q I2 rx ry q)
theorem pe_un {op : UnaryOp} {r : V → Hp → VK → Prop} (ho : UnR X (unaryOp op) r) (ha : PE X a ta) : PE X (.UnaryOp op a pos) (tUn r ta) := by
  intro pins s σ H Q I h
  exact UnaryOp_ (thn (ha pins s σ H _ I h) fun v s1 ⟨x, H1, I1, r1, q1⟩ => ho pins s1 σ H1 x v Q I1 r1 q1)
/-- a op= e at a name: the name's slot i -/
theorem augR {op : Operator} {r : R2} (ho : OpR X (inplaceOp op) r) {pins : List (Addr × Obj)} {s : Shared} {σ : St} {H : Hp} {x y : V} {v u : Value} {Q : VK} (I : Inv X pins σ H s)
    (rx : RelV x v) (ry : RelV y u) (q : r x y H Q) : wpAny (model X.prog X.w) X.A (inplaceOp op v u) (EP X pins σ Q) X.xe s := ho pins s σ H x y v u Q I rx ry q

/-! ### ints -/
theorem opI {f : Value → Value → Sem Value} {C : Int → Int → Prop} {g : Int → Int → Int}
    (rule : ∀ (i j : Int) (t u : Tok) (s : Shared) (Q : Value → Shared → Prop) (E : Value → Shared → Prop), C i j → Q (.int (g i j) s.toks) { s with toks := s.toks + 1 } → wpAny (model X.prog X.w) X.A (f (.int i t) (.int j u)) Q E s) :
    OpR X f (rI C fun i j => .int (g i j)) := by
  intro pins s σ H x y v u Q I rx ry h
  obtain ⟨i, j, rfl, rfl, hc, q⟩ := h
  obtain ⟨t, rfl⟩ := rx
  obtain ⟨t', rfl⟩ := ry
  exact rule i j t t' s _ _ hc ⟨.int (g i j), H, I.tok _, ⟨_, rfl⟩, q⟩
theorem opI0 {f : Value → Value → Sem Value} {g : Int → Int → Int}
    (rule : ∀ (i j : Int) (t u : Tok) (s : Shared) (Q : Value → Shared → Prop) (E : Value → Shared → Prop), Q (.int (g i j) s.toks) { s with toks := s.toks + 1 } → wpAny (model X.prog X.w) X.A (f (.int i t) (.int j u)) Q E s) :
    OpR X f (rI0 fun i j => .int (g i j)) := by
  intro pins s σ H x y v u Q I rx ry h
  obtain ⟨i, j, rfl, rfl, q⟩ := h
  obtain ⟨t, rfl⟩ := rx
  obtain ⟨t', rfl⟩ := ry
  exact rule i j t t' s _ _ ⟨.int (g i j), H, I.tok _, ⟨_, rfl⟩, q⟩
theorem opB0 {f : Value → Value → Sem Value} {g : Int → Int → Bool}
    (rule : ∀ (i j : Int) (t u : Tok) (s : Shared) (Q : Value → Shared → Prop) (E : Value → Shared → Prop), Q (.bool (g i j)) s → wpAny (model X.prog X.w) X.A (f (.int i t) (.int j u)) Q E s) :
    OpR X f (rI0 fun i j => .bl (g i j)) := by
  intro pins s σ H x y v u Q I rx ry h
  obtain ⟨i, j, rfl, rfl, q⟩ := h
  obtain ⟨t, rfl⟩ := rx
  obtain ⟨t', rfl⟩ := ry
  exact rule i j t t' s _ _ ⟨.bl (g i j), H, I, rfl, q⟩

def CDiv (i j : Int) : Prop := 0 < j ∧ j < 1073741824
def CDivN (i j : Int) : Prop := j ≠ 0 ∧ j.natAbs < 1073741824
def CPow (i j : Int) : Prop := 0 ≤ j ∧ j ≤ 1000000 ∧ i.natAbs < 2 ^ 64
def CMul (i j : Int) : Prop := (-(2 ^ 64) < i ∧ i < 2 ^ 64) ∨ (-(2 ^ 64) < j ∧ j < 2 ^ 64)
theorem CMul.ok {i j : Int} (h : CMul i j) : IntMulOk i j := by
  rcases h with ⟨h1, h2⟩ | ⟨h1, h2⟩
  · exact .of_left (intBits_le_64 h1 h2)
  · exact .of_right (intBits_le_64 h1 h2)
theorem two_pow_nn (k : Nat) : (0 : Int) ≤ 2 ^ k := by
  rw [two_pow_cast]
  exact Int.natCast_nonneg _

theorem op_add : OpR X (binaryOp .Add) (rI0 fun i j => .int (i + j)) := opI0 fun _ _ _ _ _ _ _ q => add_int q
theorem op_sub : OpR X (binaryOp .Sub) (rI0 fun i j => .int (i - j)) := opI0 fun _ _ _ _ _ _ _ q => sub_int q
theorem op_mul : OpR X (binaryOp .Mult) (rI CMul fun i j => .int (i * j)) := opI fun _ _ _ _ _ _ _ hc q => mul_int q hc.ok
/-- // by a positive divisor -/
theorem op_fdiv : OpR X (binaryOp .FloorDiv) (rI CDiv fun i j => .int (i / j)) := opI fun i j _ _ _ _ _ hc q => by
  have h1 : (0 : Int) < j := hc.1
  have h2 : j < 1073741824 := hc.2
  exact floordiv_int (by omega) (by rw [Int.fdiv_eq_ediv_of_nonneg i (by omega)]; exact q) (.inl (PyProof.noPylong_small (by omega)))
theorem op_fdivN : OpR X (binaryOp .FloorDiv) (rI CDivN fun i j => .int (i.fdiv j)) := opI fun _ _ _ _ _ _ _ hc q => floordiv_int hc.1 q (.inl (PyProof.noPylong_small hc.2))
/-- % by a positive divisor of any size -/
theorem op_mod : OpR X (binaryOp .Mod) (rI (fun _ j => 0 < j) fun i j => .int (i % j)) := opI fun i j _ _ _ _ _ hc q => by
  have h1 : (0 : Int) < j := hc
  exact mod_int' (by omega) (by rw [Int.fmod_eq_emod_of_nonneg i (by omega)]; exact q)
theorem op_modN : OpR X (binaryOp .Mod) (rI (fun _ j => j ≠ 0) fun i j => .int (i.fmod j)) := opI fun _ _ _ _ _ _ _ hc q => mod_int' hc q
theorem op_pow : OpR X (binaryOp .Pow) (rI CPow fun i j => .int (i ^ j.toNat)) := opI fun _ _ _ _ _ _ _ hc q => pow_int_small hc.1 hc.2.1 hc.2.2 q
theorem op_shl : OpR X (binaryOp .LShift) (rI CPow fun i j => .int (i * 2 ^ j.toNat)) := opI fun _ _ _ _ _ _ _ hc q => lshift_int_small hc.1 hc.2.1 hc.2.2 q
theorem op_shr : OpR X (binaryOp .RShift) (rI (fun _ j => 0 ≤ j) fun i j => .int (i / 2 ^ j.toNat)) := opI fun i j _ _ _ _ _ hc q =>
  rshift_int hc (by rw [Int.fdiv_eq_ediv_of_nonneg i (two_pow_nn _)]; exact q)
theorem op_and : OpR X (binaryOp .BitAnd) (rI0 fun i j => .int (Builtin.bitAnd i j)) := opI0 fun _ _ _ _ _ _ _ q => and_int q
theorem op_or : OpR X (binaryOp .BitOr) (rI0 fun i j => .int (Builtin.bitOr i j)) := opI0 fun _ _ _ _ _ _ _ q => or_int q
theorem op_xor : OpR X (binaryOp .BitXor) (rI0 fun i j => .int (Builtin.bitXor i j)) := opI0 fun _ _ _ _ _ _ _ q => xor_int q

theorem iop_add : OpR X (inplaceOp .Add) (rI0 fun i j => .int (i + j)) := opI0 fun _ _ _ _ _ _ _ q => iadd_int q
theorem iop_sub : OpR X (inplaceOp .Sub) (rI0 fun i j => .int (i - j)) := opI0 fun _ _ _ _ _ _ _ q => isub_int q
theorem iop_mul : OpR X (inplaceOp .Mult) (rI CMul fun i j => .int (i * j)) := opI fun _ _ _ _ _ _ _ hc q => imul_int q hc.ok
theorem iop_fdiv : OpR X (inplaceOp .FloorDiv) (rI CDiv fun i j => .int (i / j)) := opI fun i j _ _ _ _ _ hc q => by
  have h1 : (0 : Int) < j := hc.1
  have h2 : j < 1073741824 := hc.2
  exact ifloordiv_int (by omega) (by rw [Int.fdiv_eq_ediv_of_nonneg i (by omega)]; exact q) (.inl (PyProof.noPylong_small (by omega)))
theorem iop_mod : OpR X (inplaceOp .Mod) (rI (fun _ j => 0 < j) fun i j => .int (i % j)) := opI fun i j _ _ _ _ _ hc q => by
  have h1 : (0 : Int) < j := hc
  exact imod_int (by omega) (by rw [Int.fmod_eq_emod_of_nonneg i (by omega)]; exact q)
theorem iop_shl : OpR X (inplaceOp .LShift) (rI CPow fun i j => .int (i * 2 ^ j.toNat)) := opI fun _ _ _ _ _ _ _ hc q => ilshift_int_small hc.1 hc.2.1 hc.2.2 q
theorem iop_shr : OpR X (inplaceOp .RShift) (rI (fun _ j => 0 ≤ j) fun i j => .int (i / 2 ^ j.toNat)) := opI fun i j _ _ _ _ _ hc q =>
  irshift_int hc (by rw [Int.fdiv_eq_ediv_of_nonneg i (two_pow_nn _)]; exact q)
theorem iop_and : OpR X (inplaceOp .BitAnd) (rI0 fun i j => .int (Builtin.bitAnd i j)) := opI0 fun _ _ _ _ _ _ _ q => iand_int q
theorem iop_or : OpR X (inplaceOp .BitOr) (rI0 fun i j => .int (Builtin.bitOr i j)) := opI0 fun _ _ _ _ _ _ _ q => ior_int q
theorem iop_xor : OpR X (inplaceOp .BitXor) (rI0 fun i j => .int (Builtin.bitXor i j)) := opI0 fun _ _ _ _ _ _ _ q => ixor_int q

theorem unI {f : Value → Sem Value} {g : Int → Int}
    (rule : ∀ (i : Int) (t : Tok) (s : Shared) (Q : Value → Shared → Prop) (E : Value → Shared → Prop), Q (.int (g i) s.toks) { s with toks := s.toks + 1 } → wpAny (model X.prog X.w) X.A (f (.int i t)) Q E s) :
    UnR X f (rU fun i => .int (g i)) := by
  intro pins s σ H x v Q I rx h
  obtain ⟨i, rfl, q⟩ := h
  obtain ⟨t, rfl⟩ := rx
  exact rule i t s _ _ ⟨.int (g i), H, I.tok _, ⟨_, rfl⟩, q⟩
theorem un_neg : UnR X (unaryOp .USub) (rU fun i => .int (-i)) := unI fun _ _ _ _ _ q => neg_int q
theorem un_inv : UnR X (unaryOp .Invert) (rU fun i => .int (Builtin.bitNot i)) := unI fun _ _ _ _ _ q => invert_int q

/-! ### bools among ints: n += (a < b) -/
theorem op_add_ib : OpR X (binaryOp .Add) (fun x y H Q => ∃ i k, x = .int i ∧ y = .bl k ∧ Q (.int (i + b2i k)) H) := by
  intro pins s σ H x y v u Q I rx ry h
  obtain ⟨i, k, rfl, rfl, q⟩ := h
  obtain ⟨t, rfl⟩ := rx
  cases ry
  exact add_int_bool ⟨.int (i + b2i k), H, I.tok _, ⟨_, rfl⟩, q⟩
end

/-! ### comparisons -/
/-- the scalars that == tells apart as data does -/
def scal : V → V → Bool
  | .non, .non => true | .non, .int _ => true | .int _, .non => true | .non, .bl _ => true | .bl _, .non => true | .non, .str _ => true | .str _, .non => true
  | .int _, .int _ => true | .bl _, .bl _ => true | .str _, .str _ => true | .byt _, .byt _ => true
  | .int _, .str _ => true | .str _, .int _ => true | .bl _, .str _ => true | .str _, .bl _ => true
  | _, _ => false
def rEq : R2 := fun x y H Q => scal x y = true ∧ Q (.bl (decide (x = y))) H
def rNe : R2 := fun x y H Q => scal x y = true ∧ Q (.bl (!decide (x = y))) H

theorem dec_int {i j : Int} : decide (V.int i = V.int j) = (i == j) := by
  rw [Bool.eq_iff_iff]
  simp
theorem dec_bl {i j : Bool} : decide (V.bl i = V.bl j) = (i == j) := by
  rw [Bool.eq_iff_iff]
  simp
theorem dec_str {i j : Str} : decide (V.str i = V.str j) = (i == j) := by
  rw [Bool.eq_iff_iff]
  simp
theorem dec_byt {i j : Array UInt8} : decide (V.byt i = V.byt j) = (i.toList == j.toList) := by
  rw [Bool.eq_iff_iff]
  cases i
  cases j
  simp

section
variable {X : Cx} {a b c : Expr} {ta tb tc : TE} {pos : Pos}
theorem fin_bl {pins : List (Addr × Obj)} {σ : St} {H : Hp} {s : Shared} {Q : VK} {k k' : Bool} (I : Inv X pins σ H s) (q : Q (.bl k) H) (e : k = k') : EP X pins σ Q (.bool k') s := by
  subst e
  exact ⟨.bl k, H, I, rfl, q⟩
theorem op_eq : OpR X (compareOp .Eq) rEq := by
  intro pins s σ H x y v u Q I rx ry h
  obtain ⟨hs, q⟩ := h
  cases x with
  | non =>
    cases rx
    cases y with
    | non => cases ry; exact PySem.EqNone.eq_none_none (fin_bl I q (by simp))
    | bl j => cases ry; exact PySem.EqNone.eq_none_bool (fin_bl I q (by simp))
    | int j => obtain ⟨t', rfl⟩ := ry; exact PySem.EqNone.eq_none_int (fin_bl I q (by simp))
    | str j => obtain ⟨t', rfl⟩ := ry; exact PySem.EqNone.eq_none_str (fin_bl I q (by simp))
    | _ => exact absurd (show false = true from hs) Bool.false_ne_true
  | bl i =>
    cases rx
    cases y with
    | non => cases ry; exact PySem.EqNone.eq_bool_none (fin_bl I q (by simp))
    | bl j => cases ry; exact eq_bool (fin_bl I q dec_bl)
    | str j => obtain ⟨t', rfl⟩ := ry; exact PySem.EqMixed.eq_bool_str (fin_bl I q (by simp))
    | _ => exact absurd (show false = true from hs) Bool.false_ne_true
  | int i =>
    obtain ⟨t, rfl⟩ := rx
    cases y with
    | non => cases ry; exact PySem.EqNone.eq_int_none (fin_bl I q (by simp))
    | int j => obtain ⟨t', rfl⟩ := ry; exact eq_int (fin_bl I q dec_int)
    | str j => obtain ⟨t', rfl⟩ := ry; exact PySem.EqMixed.eq_int_str (fin_bl I q (by simp))
    | _ => exact absurd (show false = true from hs) Bool.false_ne_true
  | str i =>
    obtain ⟨t, rfl⟩ := rx
    cases y with
    | non => cases ry; exact PySem.EqNone.eq_str_none (fin_bl I q (by simp))
    | bl j => cases ry; exact PySem.EqMixed.eq_str_bool (fin_bl I q (by simp))
    | int j => obtain ⟨t', rfl⟩ := ry; exact PySem.EqMixed.eq_str_int (fin_bl I q (by simp))
    | str j => obtain ⟨t', rfl⟩ := ry; exact eq_str (fin_bl I q dec_str)
    | _ => exact absurd (show false = true from hs) Bool.false_ne_true
  | byt i =>
    obtain ⟨t, rfl⟩ := rx
    cases y with
    | byt j => obtain ⟨t', rfl⟩ := ry; exact PySem.W.eq_bytes (fin_bl I q dec_byt)
    | _ => exact absurd (show false = true from hs) Bool.false_ne_true
  | _ => cases y <;> exact absurd (show false = true from hs) Bool.false_ne_true
theorem op_ne : OpR X (compareOp .NotEq) rNe := by
  intro pins s σ H x y v u Q I rx ry h
  obtain ⟨hs, q⟩ := h
  cases x with
  | non =>
    cases rx
    cases y with
    | non => cases ry; exact PySem.EqNone.ne_none_none (fin_bl I q (by simp))
    | bl j => cases ry; exact PySem.EqNone.ne_none_bool (fin_bl I q (by simp))
    | int j => obtain ⟨t', rfl⟩ := ry; exact PySem.EqNone.ne_none_int (fin_bl I q (by simp))
    | str j => obtain ⟨t', rfl⟩ := ry; exact PySem.EqNone.ne_none_str (fin_bl I q (by simp))
    | _ => exact absurd (show false = true from hs) Bool.false_ne_true
  | bl i =>
    cases rx
    cases y with
    | non => cases ry; exact PySem.EqNone.ne_bool_none (fin_bl I q (by simp))
    | bl j => cases ry; exact ne_bool (fin_bl I q (congrArg not dec_bl))
    | str j => obtain ⟨t', rfl⟩ := ry; exact PySem.EqMixed.ne_bool_str (fin_bl I q (by simp))
    | _ => exact absurd (show false = true from hs) Bool.false_ne_true
  | int i =>
    obtain ⟨t, rfl⟩ := rx
    cases y with
    | non => cases ry; exact PySem.EqNone.ne_int_none (fin_bl I q (by simp))
    | int j => obtain ⟨t', rfl⟩ := ry; exact ne_int (fin_bl I q (congrArg not dec_int))
    | str j => obtain ⟨t', rfl⟩ := ry; exact PySem.EqMixed.ne_int_str (fin_bl I q (by simp))
    | _ => exact absurd (show false = true from hs) Bool.false_ne_true
  | str i =>
    obtain ⟨t, rfl⟩ := rx
    cases y with
    | non => cases ry; exact PySem.EqNone.ne_str_none (fin_bl I q (by simp))
    | bl j => cases ry; exact PySem.EqMixed.ne_str_bool (fin_bl I q (by simp))
    | int j => obtain ⟨t', rfl⟩ := ry; exact PySem.EqMixed.ne_str_int (fin_bl I q (by simp))
    | str j => obtain ⟨t', rfl⟩ := ry; exact ne_str (fin_bl I q (congrArg not dec_str))
    | _ => exact absurd (show false = true from hs) Bool.false_ne_true
  | byt i =>
    obtain ⟨t, rfl⟩ := rx
    cases y with
    | byt j => obtain ⟨t', rfl⟩ := ry; exact PySem.W.ne_bytes (fin_bl I q (congrArg not dec_byt))
    | _ => exact absurd (show false = true from hs) Bool.false_ne_true
  | _ => cases y <;> exact absurd (show false = true from hs) Bool.false_ne_true

theorem op_lt : OpR X (compareOp .Lt) (rI0 fun i j => .bl (decide (i < j))) := opB0 fun _ _ _ _ _ _ _ q => lt_int q
theorem op_le : OpR X (compareOp .LtE) (rI0 fun i j => .bl (decide (i ≤ j))) := opB0 fun _ _ _ _ _ _ _ q => le_int q
theorem op_gt : OpR X (compareOp .Gt) (rI0 fun i j => .bl (decide (j < i))) := opB0 fun _ _ _ _ _ _ _ q => gt_int q
theorem op_ge : OpR X (compareOp .GtE) (rI0 fun i j => .bl (decide (j ≤ i))) := opB0 fun _ _ _ _ _ _ _ q => ge_int q
theorem op_lt_str : OpR X (compareOp .Lt) (fun x y H Q => ∃ i j, x = .str i ∧ y = .str j ∧ Q (.bl (decide (i.cps.toList < j.cps.toList))) H) := by
  intro pins s σ H x y v u Q I rx ry h
  obtain ⟨i, j, rfl, rfl, q⟩ := h
  obtain ⟨t, rfl⟩ := rx
  obtain ⟨t', rfl⟩ := ry
  exact lt_str (fin_bl I q rfl)
/-- the one string within the other -/
theorem op_in_str : OpR X (compareOp .In) (fun x y H Q => ∃ i j, x = .str i ∧ y = .str j ∧ Q (.bl (!(Builtin.Str.occurrences j i 0 j.length 1).isEmpty)) H) := by
  intro pins s σ H x y v u Q I rx ry h
  obtain ⟨i, j, rfl, rfl, q⟩ := h
  obtain ⟨t, rfl⟩ := rx
  obtain ⟨t', rfl⟩ := ry
  exact in_str (fin_bl I q rfl)

/-- is None, is not None: the right side a value none -/
theorem op_isN : OpR X (compareOp .Is) (fun x y H Q => y = .non ∧ Q (.bl (decide (x = .non))) H) := by
  intro pins s σ H x y v u Q I rx ry h
  obtain ⟨rfl, q⟩ := h
  cases ry
  refine is_none_gen (fin_bl I q ?_)
  cases x <;> first
    | (cases rx; rfl)
    | (obtain ⟨t, rfl⟩ := rx; rfl)
theorem op_notN : OpR X (compareOp .IsNot) (fun x y H Q => y = .non ∧ Q (.bl (!decide (x = .non))) H) := by
  intro pins s σ H x y v u Q I rx ry h
  obtain ⟨rfl, q⟩ := h
  cases ry
  refine isnot_none_gen (fin_bl I q ?_)
  cases x <;> first
    | (cases rx; rfl)
    | (obtain ⟨t, rfl⟩ := rx; rfl)

theorem op_notin_str : OpR X (compareOp .NotIn) (fun x y H Q => ∃ i j, x = .str i ∧ y = .str j ∧ Q (.bl (!(!(Builtin.Str.occurrences j i 0 j.length 1).isEmpty))) H) := by
  intro pins s σ H x y v u Q I rx ry h
  obtain ⟨i, j, rfl, rfl, q⟩ := h
  obtain ⟨t, rfl⟩ := rx
  obtain ⟨t', rfl⟩ := ry
  exact notIn_str (fin_bl I q rfl)
/-- is, is not of two objects that are tracked lists or instances -/
def isObj : HO → Bool
  | .lst _ => true
  | .ins _ _ _ => true
  | _ => false
theorem obj_there {pins : List (Addr × Obj)} {s : Shared} {σ : St} {H : Hp} {a : Addr} {o : HO} (I : Inv X pins σ H s) (h : H a = some o) (p : isObj o = true) : ∃ ob, s.heap.get? a = some ob ∧ ob.cls ≠ .type "tuple" := by
  cases o with
  | lst xs =>
    obtain ⟨_, its, n, _, e⟩ : xs.length ≤ sizeLine ∧ ∃ (its : List Value) (n : Nat), Vals xs its ∧ s.heap.get? a = some { cls := .type "list", data := .seq its.toArray n } := I.hok a _ h
    exact ⟨_, e, (by show Value.type "list" ≠ .type "tuple"; decide +kernel)⟩
  | ins C dx fs =>
    have x := I.hok a _ h
    obtain ⟨_, _, _, e, _⟩ := x
    exact ⟨_, e, (by show Value.ref C ≠ .type "tuple"; exact fun z => by cases z)⟩
  | _ => exact absurd (show false = true from p) Bool.false_ne_true
theorem op_is_ref : OpR X (compareOp .Is) (fun x y H Q => ∃ a b oa ob, x = .ref a ∧ y = .ref b ∧ H a = some oa ∧ isObj oa = true ∧ H b = some ob ∧ isObj ob = true ∧ Q (.bl (decide (a = b))) H) := by
  intro pins s σ H x y v u Q I rx ry h
  obtain ⟨a, b, oa, ob, rfl, rfl, ha, pa, hb, pb, q⟩ := h
  cases rx
  cases ry
  obtain ⟨o1, e1, n1⟩ := obj_there I ha pa
  obtain ⟨o2, e2, _⟩ := obj_there I hb pb
  by_cases z : a = b
  · subst z
    exact wpAny_is_ref_self (fin_bl I q (by simp))
  · exact wpAny_is_ref_other z e1 e2 n1 (fin_bl I q (by simp [z]))
theorem op_isnot_ref : OpR X (compareOp .IsNot) (fun x y H Q => ∃ a b oa ob, x = .ref a ∧ y = .ref b ∧ H a = some oa ∧ isObj oa = true ∧ H b = some ob ∧ isObj ob = true ∧ Q (.bl (!decide (a = b))) H) := by
  intro pins s σ H x y v u Q I rx ry h
  obtain ⟨a, b, oa, ob, rfl, rfl, ha, pa, hb, pb, q⟩ := h
  cases rx
  cases ry
  obtain ⟨o1, e1, n1⟩ := obj_there I ha pa
  obtain ⟨o2, e2, _⟩ := obj_there I hb pb
  by_cases z : a = b
  · subst z
    exact wpAny_isNot_ref_self (fin_bl I q (by simp))
  · exact wpAny_isNot_ref_other z e1 e2 n1 (fin_bl I q (by simp [z]))

/-- two rules for one operation: by cases -/
theorem OpR.or {f : Value → Value → Sem Value} {r r' : R2} (h : OpR X f r) (h' : OpR X f r') : OpR X f (fun x y H Q => r x y H Q ∨ r' x y H Q) := by
  intro pins s σ H x y v u Q I rx ry q
  rcases q with q | q
  · exact h pins s σ H x y v u Q I rx ry q
  · exact h' pins s σ H x y v u Q I rx ry q

theorem nomark (b : Expr) {op : CmpOp} (h : op ≠ .In := by decide) (h2 : op ≠ .NotIn := by decide) : behindInMarks op b = false := by
  have e1 : (op == CmpOp.In) = false := by cases op <;> first | rfl | exact absurd rfl h
  have e2 : (op == CmpOp.NotIn) = false := by cases op <;> first | rfl | exact absurd rfl h2
  cases b <;> simp [behindInMarks, e1, e2]
/-- a comparison as a value; hm: nomark b, or (for in, not in) by with_unfolding_all rfl -/
theorem pe_cmpR {op : CmpOp} {r : R2} (ho : OpR X (compareOp op) r) (ha : PE X a ta) (hb : PE X b tb) (hm : behindInMarks op b = false) : PE X (.Compare a [op] [b] pos) (tOp r ta tb) := by
  intro pins s σ H Q I h
  exact wpAny_Compare1 (binT ha hb I h fun v u s2 x y H2 I2 rx ry q => ho pins s2 σ H2 x y v u Q I2 rx ry q) hm
/-- a reading of a value as a test -/
def tTest (t : TE) : TT := fun σ H Q => t σ H fun x H' => ∃ k, x = .bl k ∧ Q k H'
theorem pt_cmpR {op : CmpOp} {r : R2} (ho : OpR X (compareOp op) r) (ha : PE X a ta) (hb : PE X b tb) (hm : behindInMarks op b = false) : PT X (.Compare a [op] [b] pos) (tTest (tOp r ta tb)) := by
  intro pins s σ H Q I h
  refine wpAny_isTrue_Compare1 (thn (ha pins s σ H _ I h) fun v s1 ⟨x, H1, I1, r1, q1⟩ => thn (hb pins s1 σ H1 _ I1 q1) fun u s2 ⟨y, H2, I2, r2, q2⟩ =>
    thn (ho pins s2 σ H2 x y v u _ I2 r1 r2 q2) fun c s3 ⟨z, H3, I3, r3, k, e, q3⟩ => ?_) hm
  subst e
  cases r3
  exact wpAny_truthy_bool ⟨H3, I3, q3⟩
/-- a op1 b op2 c -/
def tChain (r r' : R2) (ta tb tc : TE) : TE := fun σ H Q => ta σ H fun x H1 => tb σ H1 fun y H2 => r x y H2 fun z H3 => ∃ k, z = .bl k ∧
  (if k = true then tc σ H3 fun w' H4 => r' y w' H4 Q else Q (.bl false) H3)
theorem pe_chain {op op' : CmpOp} {r r' : R2} (ho : OpR X (compareOp op) r) (ho' : OpR X (compareOp op') r') (ha : PE X a ta) (hb : PE X b tb) (hc : PE X c tc)
    (hm : lastMarks [op, op'] [b, c] = false := by with_unfolding_all rfl) : PE X (.Compare a [op, op'] [b, c] pos) (tChain r r' ta tb tc) := by
  intro pins s σ H Q I h
  refine Compare_chain (thn (ha pins s σ H _ I h) fun v s1 ⟨x, H1, I1, r1, q1⟩ => chain_link (thn (hb pins s1 σ H1 _ I1 q1) fun u s2 ⟨y, H2, I2, r2, q2⟩ =>
    thn (ho pins s2 σ H2 x y v u _ I2 r1 r2 q2) fun d s3 ⟨z, H3, I3, r3, k, e, q3⟩ => ?_)) hm
  subst e
  cases r3
  refine wpAny_truthy_bool ?_
  cases k with
  | false => exact ite_ff ⟨.bl false, H3, I3, rfl, q3⟩
  | true => exact ite_tt (chain_last (thn (hc pins s3 σ H3 _ I3 q3) fun w' s4 ⟨z', H4, I4, r4, q4⟩ => ho' pins s4 σ H4 y z' u w' Q I4 r2 r4 q4))
theorem pt_chain {op op' : CmpOp} {r r' : R2} (ho : OpR X (compareOp op) r) (ho' : OpR X (compareOp op') r') (ha : PE X a ta) (hb : PE X b tb) (hc : PE X c tc)
    (hm : lastMarks [op, op'] [b, c] = false := by with_unfolding_all rfl) : PT X (.Compare a [op, op'] [b, c] pos) (tTest (tChain r r' ta tb tc)) := by
  intro pins s σ H Q I h
  refine isTrue_chain (thn (ha pins s σ H _ I h) fun v s1 ⟨x, H1, I1, r1, q1⟩ => test_link (thn (hb pins s1 σ H1 _ I1 q1) fun u s2 ⟨y, H2, I2, r2, q2⟩ =>
    thn (ho pins s2 σ H2 x y v u _ I2 r1 r2 q2) fun d s3 ⟨z, H3, I3, r3, k, e, q3⟩ => ?_)) hm
  subst e
  cases r3
  refine wpAny_truthy_bool ?_
  cases k with
  | false =>
    obtain ⟨k', e', q'⟩ := q3
    cases e'
    exact ite_ff ⟨H3, I3, q'⟩
  | true =>
    refine ite_tt (test_last (thn (hc pins s3 σ H3 _ I3 q3) fun w' s4 ⟨z', H4, I4, r4, q4⟩ => thn (ho' pins s4 σ H4 y z' u w' _ I4 r2 r4 q4) fun d' s5 ⟨z2, H5, I5, r5, k2, e2, q5⟩ => ?_))
    subst e2
    cases r5
    exact wpAny_truthy_bool ⟨H5, I5, q5⟩

/-! ### truth -/
/-- a value's truth by the abstract heap -/
def TruV (K : PySem.W.Frag) (x : V) (H : Hp) (k : Bool) : Prop :=
  match x with
  | .non => k = false
  | .bl b => k = b
  | .int i => k = (i != 0)
  | .str y => y.length ≤ sizeLine ∧ k = ((y.length : Int) != 0)
  | .byt y => y.size ≤ sizeLine ∧ k = ((y.size : Int) != 0)
  | .ref p => (∃ xs, SqL K H p xs ∧ k = !xs.isEmpty) ∨ (∃ xs, SqT K H p xs ∧ k = !xs.isEmpty) ∨ ∃ kvs, H p = some (.dK kvs) ∧ k = !kvs.isEmpty
  | _ => False
theorem isEmpty_kv {κ : Type} {kvs : List (κ × V)} {vs : List (κ × Value)} (r : KV kvs vs) : (!vs.isEmpty) = !kvs.isEmpty := by
  cases r <;> rfl
theorem isEmpty_of {xs : List V} {its : List Value} (r : Vals xs its) : (!its.toArray.isEmpty) = !xs.isEmpty := by
  cases r <;> simp
theorem line63 : (sizeLine : Nat) < 2 ^ 63 := by rw [sizeLine_eq]; decide
theorem tru_ok : TruR X (fun x H Q => ∃ k, TruV X.K x H k ∧ Q k H) := by
  intro pins s σ H x v Q I rx h
  obtain ⟨k, e, q⟩ := h
  have hl := line63
  have hs : sizeLine = 16777216 := sizeLine_eq
  cases x with
  | non =>
    cases rx
    have e' : k = false := e
    subst e'
    exact truthy_none ⟨H, I, q⟩
  | bl b =>
    cases rx
    have e' : k = b := e
    subst e'
    exact wpAny_truthy_bool ⟨H, I, q⟩
  | int i =>
    obtain ⟨t, rfl⟩ := rx
    have e' : k = (i != 0) := e
    subst e'
    exact PySem.P.truthy_int ⟨H, I, q⟩
  | str y =>
    obtain ⟨t, rfl⟩ := rx
    obtain ⟨hy, e'⟩ : y.length ≤ sizeLine ∧ k = ((y.length : Int) != 0) := e
    subst e'
    exact PySem.P.truthy_str (by omega) ⟨H, I.tok _, q⟩
  | byt y =>
    obtain ⟨t, rfl⟩ := rx
    obtain ⟨hy, e'⟩ : y.size ≤ sizeLine ∧ k = ((y.size : Int) != 0) := e
    subst e'
    exact PySem.W.truthy_bytes (by omega) ⟨H, I.tok _, q⟩
  | ref p =>
    cases rx
    have e' : (∃ xs, SqL X.K H p xs ∧ k = !xs.isEmpty) ∨ (∃ xs, SqT X.K H p xs ∧ k = !xs.isEmpty) ∨ ∃ kvs, H p = some (.dK kvs) ∧ k = !kvs.isEmpty := e
    rcases e' with ⟨xs, hx, e'⟩ | ⟨xs, hx, e'⟩ | ⟨kvs, hx, e'⟩
    · subst e'
      obtain ⟨its, r, pl, hz⟩ := I.list hx
      have hlen := r.length
      exact wpAny_truthy_list pl.isList (by simp only [List.size_toArray]; omega) ⟨H, I.tok _, by rw [isEmpty_of r]; exact q⟩
    · subst e'
      obtain ⟨its, r, pl, hz⟩ := I.tuple hx
      have hlen := r.length
      exact truthy_tuple pl (by simp only [List.size_toArray]; omega) ⟨H, I.tok _, by rw [isEmpty_of r]; exact q⟩
    · subst e'
      obtain ⟨hz, hS, vs, r, m⟩ : kvs.length ≤ sizeLine ∧ (p == sysModules) = false ∧ ∃ vs, KV kvs vs ∧ s.heap.DictOf (mixKind X.prog X.w) p vs := I.hok p _ hx
      have hlen : kvs.length = vs.length := Paired.length r
      exact wpAny_truthy_dict hS m (by omega) ⟨H, I.tok _, by rw [isEmpty_kv r]; exact q⟩
  | _ => exact (show False from e).elim
/-- any expression whose test is its value's truth (a name, a call, a subscript, a field ..: he by fun _ => rfl) -/
theorem pt_truth (ha : PE X a ta) (he : ∀ whole, isTrue a X.env whole = (do let v ← whole; standAt a.pos; holding [v] (truthy v))) :
    PT X a (fun σ H Q => ta σ H fun x H' => ∃ k, TruV X.K x H' k ∧ Q k H') := by
  intro pins s σ H Q I h
  exact isTrue_plain (thn (ha pins s σ H _ I h) fun v s1 ⟨x, H1, I1, r1, q1⟩ => tru_ok pins s1 σ H1 x v Q I1 r1 q1) (he _)

/-! ### strs and bytes -/
theorem pe_byt {x : List UInt8} {k : Nat} : PE X (.Constant (.bytes x) k pos) (fun _ H Q => Q (.byt x.toArray) H) := fun _ _ _ H _ I h => PySem.W.Constant_bytes ⟨.byt x.toArray, H, I.tok _, ⟨_, rfl⟩, h⟩
theorem op_add_str : OpR X (binaryOp .Add) (fun x y H Q => ∃ i j, x = .str i ∧ y = .str j ∧ i.length + j.length ≤ sizeLine ∧ Q (.str (i ++ j)) H) := by
  intro pins s σ H x y v u Q I rx ry h
  obtain ⟨i, j, rfl, rfl, hz, q⟩ := h
  obtain ⟨t, rfl⟩ := rx
  obtain ⟨t', rfl⟩ := ry
  exact add_str (fun t' tk => ⟨.str (i ++ j), H, I.tok _, ⟨_, rfl⟩, q⟩) hz
theorem iop_add_str : OpR X (inplaceOp .Add) (fun x y H Q => ∃ i j, x = .str i ∧ y = .str j ∧ i.length + j.length ≤ sizeLine ∧ Q (.str (i ++ j)) H) := by
  intro pins s σ H x y v u Q I rx ry h
  obtain ⟨i, j, rfl, rfl, hz, q⟩ := h
  obtain ⟨t, rfl⟩ := rx
  obtain ⟨t', rfl⟩ := ry
  exact iadd_str (fun t' tk => ⟨.str (i ++ j), H, I.tok _, ⟨_, rfl⟩, q⟩) hz
theorem op_add_byt : OpR X (binaryOp .Add) (fun x y H Q => ∃ i j, x = .byt i ∧ y = .byt j ∧ i.size + j.size ≤ 16777216 ∧ Q (.byt (i ++ j)) H) := by
  intro pins s σ H x y v u Q I rx ry h
  obtain ⟨i, j, rfl, rfl, hz, q⟩ := h
  obtain ⟨t, rfl⟩ := rx
  obtain ⟨t', rfl⟩ := ry
  exact PySem.W.KBy.add_bytes hz (fun t' tk => ⟨.byt (i ++ j), H, I.tok _, ⟨_, rfl⟩, q⟩)

def PlainIxT (b : Expr) : Prop := ∀ o i, subscripted b false o i = operate [o, i] (getItem o i)
/-- s[i], 0 ≤ i < len -/
theorem pe_item_str (ha : PE X a ta) (hb : PE X b tb) (hs : PlainIxT b) :
    PE X (.Subscript a b pos) (tOp (fun x y H Q => ∃ z i c, x = .str z ∧ y = .int i ∧ 0 ≤ i ∧ i < 2 ^ 63 ∧ i < z.length ∧ z.cps[i.toNat]? = some c ∧ Q (.str ⟨#[c]⟩) H) ta tb) := by
  intro pins s σ H Q I h
  refine Subscript_ (binT ha hb I h fun v u s2 x y H2 I2 rx ry q => ?_)
  obtain ⟨z, i, c, rfl, rfl, h0, h63, h1, hc, q⟩ := q
  obtain ⟨t, rfl⟩ := rx
  obtain ⟨t', rfl⟩ := ry
  have e : seqIndex? i z.length = some i.toNat := PySem.StrLaws.seqIndex_nonneg h0 h1
  exact tail_any (typeIs_str s2 z t) slot_str_getitem.lookup (getItem_str (c := c) (by
    have e1 : decide (i < -(2 ^ 63 : Int)) = false := decide_eq_false (by omega)
    have e2 : decide (i ≥ 2 ^ 63) = false := decide_eq_false (by omega)
    rw [e1, e2] <;> rfl) (by rw [e]; exact hc) ⟨.str ⟨#[c]⟩, H2, I2.tok _, ⟨_, rfl⟩, q⟩) (hs _ _)
/-- b[i], 0 ≤ i < len -/
theorem pe_item_byt (ha : PE X a ta) (hb : PE X b tb) (hs : PlainIxT b) :
    PE X (.Subscript a b pos) (tOp (fun x y H Q => ∃ (z : List UInt8) (i : Int), x = .byt z.toArray ∧ y = .int i ∧ z.length ≤ sizeLine ∧ 0 ≤ i ∧ i < z.length ∧ Q (.int ((z.getD i.toNat 0).toNat : Nat)) H) ta tb) := by
  intro pins s σ H Q I h
  refine Subscript_ (binT ha hb I h fun v u s2 x y H2 I2 rx ry q => ?_)
  obtain ⟨z, i, rfl, rfl, hz, h0, h1, q⟩ := q
  obtain ⟨t, rfl⟩ := rx
  obtain ⟨t', rfl⟩ := ry
  have hl : sizeLine = 16777216 := sizeLine_eq
  exact tail_any (PySem.W.typeIs_bytes s2 z.toArray t) PySem.W.FB.slot_bytes_getitem.lookup (PySem.W.getItem_bytes (by omega) h0 h1 ⟨.int ((z.getD i.toNat 0).toNat : Nat), H2, I2.tok _, ⟨_, rfl⟩, q⟩) (hs _ _)

/-! ### scalar builtins, by CallR -/
theorem vals1 {x : V} {us : List Value} (r : Vals [x] us) : ∃ u, us = [u] ∧ RelV x u := by
  cases r with
  | cons r1 r2 => cases r2; exact ⟨_, rfl, r1⟩
theorem vals2 {x y : V} {us : List Value} (r : Vals [x, y] us) : ∃ u w', us = [u, w'] ∧ RelV x u ∧ RelV y w' := by
  cases r with
  | cons r1 r2 =>
    cases r2 with
    | cons r3 r4 => cases r4; exact ⟨_, _, rfl, r1, r3⟩
theorem call_abs : CallR X (.builtin "abs") (fun xs H Q => ∃ i, xs = [.int i] ∧ Q (.int (if i < 0 then -i else i)) H) := by
  intro pins s σ H xs us Q I r h
  obtain ⟨i, rfl, q⟩ := h
  obtain ⟨u, rfl, t, rfl⟩ := vals1 r
  exact call_abs_int fun u tk => ⟨.int (if i < 0 then -i else i), H, I.tok _, ⟨_, rfl⟩, q⟩
theorem call_max2 (hc : X.calm = true) : CallR X (.builtin "max") (fun xs H Q => ∃ i j, xs = [.int i, .int j] ∧ Q (.int (if j > i then j else i)) H) := by
  intro pins s σ H xs us Q I r h
  obtain ⟨i, j, rfl, q⟩ := h
  obtain ⟨u, w', rfl, ⟨t, rfl⟩, ⟨t', rfl⟩⟩ := vals2 r
  refine max_two_ints (I.ok.hd hc) fun h' tk k => ⟨_, H, I.kept k, ?_, q⟩
  by_cases hj : j > i
  · rw [if_pos hj, if_pos hj]; exact ⟨_, rfl⟩
  · rw [if_neg hj, if_neg hj]; exact ⟨_, rfl⟩
theorem call_min2 (hc : X.calm = true) : CallR X (.builtin "min") (fun xs H Q => ∃ i j, xs = [.int i, .int j] ∧ Q (.int (if j < i then j else i)) H) := by
  intro pins s σ H xs us Q I r h
  obtain ⟨i, j, rfl, q⟩ := h
  obtain ⟨u, w', rfl, ⟨t, rfl⟩, ⟨t', rfl⟩⟩ := vals2 r
  refine min_two_ints (I.ok.hd hc) fun h' tk k => ⟨_, H, I.kept k, ?_, q⟩
  by_cases hj : j < i
  · rw [if_pos hj, if_pos hj]; exact ⟨_, rfl⟩
  · rw [if_neg hj, if_neg hj]; exact ⟨_, rfl⟩
theorem call_int1 : CallR X (.type "int") (fun xs H Q => (∃ i, xs = [.int i] ∧ Q (.int i) H) ∨ ∃ k, xs = [.bl k] ∧ Q (.int (if k then 1 else 0)) H) := by
  intro pins s σ H xs us Q I r h
  rcases h with ⟨i, rfl, q⟩ | ⟨k, rfl, q⟩
  · obtain ⟨u, rfl, t, rfl⟩ := vals1 r
    exact call_int_int ⟨.int i, H, I, ⟨_, rfl⟩, q⟩
  · obtain ⟨u, rfl, r1⟩ := vals1 r
    cases r1
    exact call_int_bool ⟨.int (if k then 1 else 0), H, I.tok _, ⟨_, rfl⟩, q⟩
theorem call_bool1 : CallR X (.type "bool") (fun xs H Q => (∃ i, xs = [.int i] ∧ Q (.bl (i != 0)) H) ∨ ∃ k, xs = [.bl k] ∧ Q (.bl k) H) := by
  intro pins s σ H xs us Q I r h
  rcases h with ⟨i, rfl, q⟩ | ⟨k, rfl, q⟩
  · obtain ⟨u, rfl, t, rfl⟩ := vals1 r
    exact call_bool_int ⟨.bl (i != 0), H, I, rfl, q⟩
  · obtain ⟨u, rfl, r1⟩ := vals1 r
    cases r1
    exact call_bool_bool ⟨.bl k, H, I, rfl, q⟩
theorem call_str_int : CallR X (.type "str") (fun xs H Q => ∃ i, xs = [.int i] ∧ i.natAbs.log2 < 1920 ∧ Q (.str (toString i)) H) := by
  intro pins s σ H xs us Q I r h
  obtain ⟨i, rfl, hz, q⟩ := h
  obtain ⟨u, rfl, t, rfl⟩ := vals1 r
  exact PySem.P.str_of_int hz ⟨.str _, H, I.tok _, ⟨_, rfl⟩, q⟩
theorem call_ord : CallR X (.builtin "ord") (fun xs H Q => ∃ x, xs = [.str x] ∧ x.length = 1 ∧ Q (.int (x.cps.getD 0 0 : Nat)) H) := by
  intro pins s σ H xs us Q I r h
  obtain ⟨x, rfl, hz, q⟩ := h
  obtain ⟨u, rfl, t, rfl⟩ := vals1 r
  exact ord_of_one hz ⟨.int _, H, I.tok _, ⟨_, rfl⟩, q⟩
theorem call_chr : CallR X (.builtin "chr") (fun xs H Q => ∃ i, xs = [.int i] ∧ 0 ≤ i ∧ i ≤ 1114111 ∧ Q (.str ⟨#[i.toNat]⟩) H) := by
  intro pins s σ H xs us Q I r h
  obtain ⟨i, rfl, h0, h1, q⟩ := h
  obtain ⟨u, rfl, t, rfl⟩ := vals1 r
  exact chr_of_range h0 h1 ⟨.str _, H, I.tok _, ⟨_, rfl⟩, q⟩
/-- len of a str, a bytes, a list, a tuple -/
def LenV (K : PySem.W.Frag) (x : V) (H : Hp) (n : Nat) : Prop :=
  match x with
  | .str y => y.length ≤ sizeLine ∧ n = y.length
  | .byt y => y.size ≤ sizeLine ∧ n = y.size
  | .ref p => (∃ xs, SqL K H p xs ∧ n = xs.length) ∨ ∃ xs, SqT K H p xs ∧ n = xs.length
  | _ => False
theorem call_len : CallR X (.builtin "len") (fun xs H Q => ∃ x n, xs = [x] ∧ LenV X.K x H n ∧ Q (.int n) H) := by
  intro pins s σ H xs us Q I r h
  obtain ⟨x, n, rfl, e, q⟩ := h
  obtain ⟨u, rfl, rx⟩ := vals1 r
  have hl := line63
  have hs : sizeLine = 16777216 := sizeLine_eq
  cases x with
  | str y =>
    obtain ⟨t, rfl⟩ := rx
    obtain ⟨hy, e'⟩ : y.length ≤ sizeLine ∧ n = y.length := e
    subst e'
    exact len_str (by omega) ⟨.int _, H, I.tok _, ⟨_, rfl⟩, q⟩
  | byt y =>
    obtain ⟨t, rfl⟩ := rx
    obtain ⟨hy, e'⟩ : y.size ≤ sizeLine ∧ n = y.size := e
    subst e'
    exact PySem.W.len_bytes (by omega) ⟨.int _, H, I.tok _, ⟨_, rfl⟩, q⟩
  | ref p =>
    cases rx
    have e' : (∃ xs, SqL X.K H p xs ∧ n = xs.length) ∨ ∃ xs, SqT X.K H p xs ∧ n = xs.length := e
    rcases e' with ⟨xs, hx, e'⟩ | ⟨xs, hx, e'⟩
    · subst e'
      obtain ⟨its, r', pl, hz⟩ := I.list hx
      have hlen := r'.length
      exact Calls.call_len_list pl.isList (by simp only [List.size_toArray]; omega) ⟨.int xs.length, H, I.tok _, ⟨_, by simp only [List.size_toArray]; rw [hlen]⟩, q⟩
    · subst e'
      obtain ⟨its, r', pl, hz⟩ := I.tuple hx
      have hlen := r'.length
      exact len_tuple pl (by simp only [List.size_toArray]; omega) ⟨.int xs.length, H, I.tok _, ⟨_, by simp only [List.size_toArray]; rw [hlen]⟩, q⟩
  | _ => exact (show False from e).elim
/-- divmod: a new tuple -/
theorem call_divmod : CallR X (.builtin "divmod") (fun xs H Q => ∃ i j, xs = [.int i, .int j] ∧ CDiv i j ∧ ∀ p, H p = none → Q (.ref p) (upd H p (.tup [.int (i / j), .int (i % j)]))) := by
  intro pins s σ H xs us Q I r h
  obtain ⟨i, j, rfl, ⟨h1, h2⟩, q⟩ := h
  obtain ⟨u, w', rfl, ⟨t, rfl⟩, ⟨t', rfl⟩⟩ := vals2 r
  refine divmod_int (by omega) ?_ (.inl (PyProof.noPylong_small (by omega)))
  rw [Int.fdiv_eq_ediv_of_nonneg i (by omega), Int.fmod_eq_emod_of_nonneg i (by omega)]
  have hn : H s.heap.objs.size = none := I.hok.fresh (Nat.le_refl _)
  refine ⟨.ref s.heap.objs.size, _, ?_, rfl, q _ hn⟩
  refine I.laid (fun b o e => Heap.get?_push_of_some _ e) (Nat.le_refl _) ⟨by simp only [List.length_cons, List.length_nil]; rw [sizeLine_eq]; decide, [.int (i / j) s.toks, .int (i % j) (s.toks + 1)], .cons ⟨_, rfl⟩ (.cons ⟨_, rfl⟩ .nil), ?_⟩
  exact ⟨_, Heap.get?_push_size s.heap rfl, rfl, 0, rfl⟩
end
end L2

namespace L2
open PySem PySem.Spec PyProof.Rows

/-! ### an instance, its attributes a map -/
structure ObjM (h : Heap) (x dx C : Addr) (mA : Str → Option Value) : Prop where
  obj : h.get? x = some (PySem.W.instObj C dx)
  ns : h.Ns1 dx mA
  ne : dx ≠ x

theorem lookIn_ns {h : Heap} {dx : Addr} {mA : Str → Option Value} (n : h.Ns1 dx mA) : ∃ od, h.get? dx = some od ∧ ∀ name, PySem.W.lookIn name od = some (mA name) := by
  obtain ⟨o, es, ep, ho, hd, hk, _, hm⟩ := n
  refine ⟨o, ho, fun name => ?_⟩
  have e := hm name
  unfold nsFind findBy at e
  rw [← Array.find?_toList] at e
  unfold PySem.W.lookIn
  rw [hd]
  dsimp only
  split
  · rename_i y q
    rw [q] at e
    exact congrArg some e
  · rename_i q
    rw [q] at e
    have a : es.toList.any (·.refKey) = false := by
      rw [List.any_eq_false]
      intro y hy
      obtain ⟨z, t, hkey⟩ := hk y (Array.mem_toList_iff.mp hy)
      simp [DictEntry.refKey, hkey]
    have a' : ¬ es.toList.any (·.refKey) = true := by rw [a]; exact Bool.false_ne_true
    rw [if_neg a']
    exact congrArg some e

theorem ObjM.look {h : Heap} {x dx C : Addr} {mA : Str → Option Value} (I : ObjM h x dx C mA) : ∃ od, PySem.W.InstAt h x (PySem.W.instObj C dx) C (some od) ∧ ∀ name, PySem.W.lookIn name od = some (mA name) :=
  let ⟨od, ho, hl⟩ := lookIn_ns I.ns
  ⟨od, ⟨I.obj, rfl, rfl, ho⟩, hl⟩

section
variable {prog : Program} {w : World} {A : Around} {E : Value → Shared → Prop} {s : Shared} {K : PySem.W.Frag} {x dx C f : Addr} {mA : Str → Option Value} {name : Str} {v : Value}

theorem get_map {expr : Bool} {Q : Value → Shared → Prop} (X : K.In s.heap) (I : ObjM s.heap x dx C mA) (hg : PySem.W.plainGet K C name = true) (hh : PySem.W.hasDictIn K C = true)
    (ha : PySem.W.findIn K (.ref C) name = some none) (hv : mA name = some v) (hv' : PySem.W.handedIn v = true) (h : Q v { s with toks := s.toks + 1 }) :
    wpAny (model prog w) A (getAttr (.ref x) name expr) Q E s := by
  obtain ⟨od, J, hl⟩ := I.look
  exact PySem.W.get_value X J (PySem.W.plainGet_of hg).1 (PySem.W.findObj_own hh ha rfl (by rw [hl, hv])) hv' h

theorem get_const {expr : Bool} {a : Value} {Q : Value → Shared → Prop} (X : K.In s.heap) (I : ObjM s.heap x dx C mA) (hg : PySem.W.plainGet K C name = true) (hh : PySem.W.hasDictIn K C = true)
    (ha : PySem.W.findIn K (.ref C) name = some (some a)) (hn : PySem.W.specialIn K a "__get__" = some none) (hc : PySem.W.copiedNames.contains name = false) (hv : mA name = none) (hv' : PySem.W.handedIn a = true)
    (h : Q a { s with toks := s.toks + 1 }) : wpAny (model prog w) A (getAttr (.ref x) name expr) Q E s := by
  obtain ⟨od, J, hl⟩ := I.look
  exact PySem.W.get_value X J (PySem.W.plainGet_of hg).1 (PySem.W.findObj_cls hh ha hn hv' hc (by rw [hl, hv])) hv' h

theorem get_meth {pl : Sem Bool} {Q : Value × List Value → Shared → Prop} (X : K.In s.heap) (I : ObjM s.heap x dx C mA) (hg : PySem.W.plainGet K C name = true)
    (hf : PySem.W.findIn K (.ref C) name = some (some (.ref f))) (ht : PySem.W.isFn K (.ref f) = true) (hv : mA name = none) (h : Q (.ref f, [.ref x]) s) :
    wpAny (model prog w) A (getMethod (.ref x) name pl) Q E s := by
  obtain ⟨od, J, hl⟩ := I.look
  exact PySem.W.method_fn X J (PySem.W.plainGet_of hg).1 (PySem.W.plainGet_of hg).2 hf (beq_iff_eq.mp ht) (by show (PySem.W.lookIn name od).map (·.isSome) = some false; rw [hl, hv]; rfl) h

theorem set_map {ns : List Str} {Q : Unit → Shared → Prop} (X : K.In s.heap) (I : ObjM s.heap x dx C mA)
    (hs : PySem.W.findIn K (.ref C) "__setattr__" = some (some (.builtin "object.__setattr__"))) (hp : PySem.W.plainOver K C = true) (ht : PySem.W.takerIn K C name = some none) (hh : PySem.W.hasDictIn K C = true)
    (hw : PySem.Within mA ns) (hsz : ns.length ≤ sizeLine)
    (h : ∀ h', ObjM h' x dx C (fun y => if y = name then some v else mA y) → Heap.SameBut dx s.heap h' → Q () { s with heap := h', toks := s.toks + 2 }) :
    wpAny (model prog w) A (setAttr (.ref x) name v) Q E s := by
  obtain ⟨od, J, hl⟩ := I.look
  refine PySem.W.set_plain X J hs (PySem.W.osa_open (s := { s with toks := s.toks + 1 }) (r := none) X J hp ht fun b => ?_)
  obtain ⟨cd, hc, hd'⟩ := PySem.W.any_some hh
  have hx : s.heap.get? x = some ⟨.ref C, some dx, .plain, #[]⟩ := I.obj
  refine wpAny_bind (wpAny_pure (wpAny_bind (wpAny_bind (wpAny_loadPart hx (wpAny_bind (PySem.W.Looks.here (s := { s with toks := s.toks + 1 }) (PySem.W.looks_clsIn X hc) ?_))))))
  rw [hd']
  refine wpAny_pure (a := some dx) (wpAny_bind (wpAny_pure (wpAny_bind ?_)))
  refine wpAny_nsSet1 (s := { s with toks := s.toks + 1 }) I.ns fun h' hn2 hs2 => ?_
  obtain ⟨oD, esD, epD, hoD, hdD, hcD⟩ := hn2.count (PySem.Within.cons name v hw)
  refine wpAny_bind (wpAny_lookBehind hoD (by rw [hdD]; exact pastItsLine_dict (Nat.le_trans hcD (by rw [List.length_cons]; omega))) ?_)
  exact wpAny_pure (h _ ⟨(hs2.2 _ (Ne.symm I.ne)).trans I.obj, hn2, I.ne⟩ hs2)

/-- C(..): the dict at the heap's end, the instance behind it; then its __init__ -/
theorem make_map {R : Result → Shared → Prop} {vs : List Value} {kw : List (Str × Value)} (X : K.In s.heap) (hm : PySem.W.makesIn K C = true)
    (hi : PySem.W.findIn K (.ref C) "__init__" = some (some (.ref f))) (hf : PySem.W.typeIn K (.ref f) = some (.type "function"))
    (h : codeAny (model prog w) (A.under (.builtin "type.__call__" ⟨.ref C :: vs, kw⟩)) (.call (.ref f) ⟨.ref (s.heap.objs.size + 1) :: vs, kw⟩) (PySem.W.InitBack (s.heap.objs.size + 1) R)
      { s with heap := (s.heap.push PySem.W.emptyDict).push (PySem.W.instObj C s.heap.objs.size) }) :
    codeAny (model prog w) A (.call (.ref C) ⟨vs, kw⟩) R s := by
  obtain ⟨hh, g, d, t, os⟩ := s
  exact PySem.W.make_core (PySem.W.makes_of X hm) (PySem.W.looks_findIn X hi) (fun self => PySem.W.bind_fn X self hf) (.inl rfl) h
/-- C() where there is no __init__ but object's -/
theorem make_map0 {R : Result → Shared → Prop} (X : K.In s.heap) (hm : PySem.W.makesIn K C = true)
    (hi : PySem.W.findIn K (.ref C) "__init__" = some (some (.builtin "object.__init__")))
    (hb : ∀ self, PySem.W.Looks (model prog w) s.heap (bindSpecial (.builtin "object.__init__") self) (.builtin "object.__init__", [self]))
    (h : codeAny (model prog w) (A.under (.builtin "type.__call__" ⟨[.ref C], []⟩)) (.call (.builtin "object.__init__") ⟨[.ref (s.heap.objs.size + 1)], []⟩) (PySem.W.InitBack (s.heap.objs.size + 1) R)
      { s with heap := (s.heap.push PySem.W.emptyDict).push (PySem.W.instObj C s.heap.objs.size) }) :
    codeAny (model prog w) A (.call (.ref C) ⟨[], []⟩) R s := by
  obtain ⟨hh, g, d, t, os⟩ := s
  exact PySem.W.make_core (PySem.W.makes_of X hm) (PySem.W.looks_findIn X hi) hb (.inr ⟨rfl, rfl⟩) h
end

/-! ### the attributes as a list of pairs -/
def putF (f : Str) (v : V) : List (Str × V) → List (Str × V)
  | [] => [(f, v)]
  | (g, x) :: r => if g = f then (g, v) :: r else (g, x) :: putF f v r
theorem lookup_putF (f g : Str) (v : V) : ∀ fs : List (Str × V), (putF f v fs).lookup g = if g = f then some v else fs.lookup g
  | [] => by
    show List.lookup g [(f, v)] = _
    by_cases h : g = f
    · have hb : (g == f) = true := beq_iff_eq.mpr h
      simp only [List.lookup, hb, if_pos h]
    · have hb : (g == f) = false := beq_eq_false_iff_ne.mpr h
      simp only [List.lookup, hb, if_neg h]
  | (k, x) :: r => by
    have ih := lookup_putF f g v r
    rw [show putF f v ((k, x) :: r) = (if k = f then (k, v) :: r else (k, x) :: putF f v r) from rfl]
    by_cases hk : k = f
    · rw [if_pos hk]
      by_cases h : g = k
      · have hb : (g == k) = true := beq_iff_eq.mpr h
        simp only [List.lookup, hb, if_pos (h.trans hk)]
      · have hb : (g == k) = false := beq_eq_false_iff_ne.mpr h
        simp only [List.lookup, hb, if_neg (fun e : g = f => h (e.trans hk.symm))]
    · rw [if_neg hk]
      by_cases h : g = k
      · have hb : (g == k) = true := beq_iff_eq.mpr h
        simp only [List.lookup, hb, if_neg (fun e : g = f => hk (h.symm.trans e))]
      · have hb : (g == k) = false := beq_eq_false_iff_ne.mpr h
        simp only [List.lookup, hb]
        exact ih
theorem keys_putF (f : Str) (v : V) : ∀ fs : List (Str × V), f ∈ (putF f v fs).map (·.1) ∧ ∀ g, g ∈ fs.map (·.1) → g ∈ (putF f v fs).map (·.1)
  | [] => ⟨by simp [putF], fun g h => by simp at h⟩
  | (k, x) :: r => by
    obtain ⟨i1, i2⟩ := keys_putF f v r
    rw [show putF f v ((k, x) :: r) = (if k = f then (k, v) :: r else (k, x) :: putF f v r) from rfl]
    by_cases hk : k = f
    · rw [if_pos hk]
      subst hk
      exact ⟨by simp, fun g h => by simpa using h⟩
    · rw [if_neg hk]
      refine ⟨?_, fun g h => ?_⟩
      · rw [List.map_cons]
        exact List.mem_cons_of_mem _ i1
      · rw [List.map_cons] at h ⊢
        rcases List.mem_cons.mp h with e | e
        · exact List.mem_cons.mpr (.inl e)
        · exact List.mem_cons_of_mem _ (i2 g e)
theorem length_putF (f : Str) (v : V) : ∀ fs : List (Str × V), (putF f v fs).length ≤ fs.length + 1
  | [] => by simp [putF]
  | (k, x) :: r => by
    have ih := length_putF f v r
    rw [show putF f v ((k, x) :: r) = (if k = f then (k, v) :: r else (k, x) :: putF f v r) from rfl]
    by_cases hk : k = f
    · rw [if_pos hk, List.length_cons, List.length_cons]; omega
    · rw [if_neg hk, List.length_cons, List.length_cons]; omega

theorem RelO.some_of {v : V} {o : Option Value} (r : RelO (some v) o) : ∃ u, o = some u ∧ RelV v u := by
  cases o with
  | none => exact (show False from r).elim
  | some u => exact ⟨u, rfl, r⟩
theorem RelO.none_of {o : Option Value} (r : RelO none o) : o = none := by
  cases o with
  | none => rfl
  | some u => exact (show False from r).elim
theorem handed_of {v : V} {u : Value} (r : RelV v u) : PySem.W.handedIn u = true := by
  cases v with
  | non => cases (show u = Value.none from r); rfl
  | bl b => cases (show u = Value.bool b from r); rfl
  | int i => obtain ⟨t, e⟩ := (show ∃ t, u = Value.int i t from r); cases e; rfl
  | str x => obtain ⟨t, e⟩ := (show ∃ t, u = Value.str x t from r); cases e; rfl
  | byt b => obtain ⟨t, e⟩ := (show ∃ t, u = Value.bytes b t from r); cases e; rfl
  | flt b => obtain ⟨t, e⟩ := (show ∃ t, u = Value.float b t from r); cases e; rfl
  | ref a => cases (show u = Value.ref a from r); rfl
  | ty n => cases (show u = Value.type n from r); rfl

section
variable {P : Program} {w : World} {H H' : Hp} {h h' : Heap} {a C dx : Addr} {fs fs' : List (Str × V)}
theorem ins_get (hok : HOk P w H h) (e : H a = some (.ins C dx fs)) : ∃ mA, ObjM h a dx C mA ∧ (∀ f, RelO (fs.lookup f) (mA f)) ∧ PySem.Within mA (fs.map (·.1)) ∧ fs.length ≤ 1000 ∧ H dx = some (.own a) := by
  obtain ⟨d, z, ne, ob, mA, n, r, q⟩ := (show ObjOk P w H h a (.ins C dx fs) from hok a _ e)
  exact ⟨mA, ⟨ob, n, ne⟩, r, q, z, d⟩
end

/-! ### what of the text a class must have -/
structure Cls (K : PySem.W.Frag) (C : Addr) : Prop where
  pg : PySem.W.plainGet K C Str.empty = true
  hd : PySem.W.hasDictIn K C = true
  po : PySem.W.plainOver K C = true
  sa : PySem.W.findIn K (.ref C) "__setattr__" = some (some (.builtin "object.__setattr__"))
theorem Cls.get {K : PySem.W.Frag} {C : Addr} (c : Cls K C) (f : Str) : PySem.W.plainGet K C f = true := c.pg
/-- no class of it has the name -/
def NoAttr (K : PySem.W.Frag) (C : Addr) (f : Str) : Prop := PySem.W.findIn K (.ref C) f = some none
theorem NoAttr.taker {K : PySem.W.Frag} {C : Addr} {f : Str} (n : NoAttr K C f) : PySem.W.takerIn K C f = some none := by
  unfold PySem.W.takerIn
  rw [show PySem.W.findIn K (.ref C) f = some none from n]
  rfl
/-- a constant of the class -/
structure Con (K : PySem.W.Frag) (C : Addr) (f : Str) (v : V) (u : Value) : Prop where
  at_ : PySem.W.findIn K (.ref C) f = some (some u)
  rel : RelV v u
  get : PySem.W.specialIn K u "__get__" = some none
  cp : PySem.W.copiedNames.contains f = false
/-- a method: a plain def of the class or of one above it -/
structure Meth (K : PySem.W.Frag) (C : Addr) (m : Str) (f : Addr) : Prop where
  at_ : PySem.W.findIn K (.ref C) m = some (some (.ref f))
  fn : PySem.W.isFn K (.ref f) = true
  kp : PySem.W.keepIn K (.ref f) = true

section
variable {X : Cx} {pins : List (Addr × Obj)} {σ : St} {H : Hp} {s : Shared} {a C dx : Addr} {fs : List (Str × V)} {f : Str} {v : V} {A : Around} {E : Value → Shared → Prop}

theorem getattr_ok {b : Bool} {Q : Value → Shared → Prop} (I : Inv X pins σ H s) (e : H a = some (.ins C dx fs)) (c : Cls X.K C) (n : NoAttr X.K C f) (l : fs.lookup f = some v)
    (h : ∀ u s', Inv X pins σ H s' → RelV v u → Q u s') : wpAny (model X.prog X.w) A (getAttr (.ref a) f b) Q E s := by
  obtain ⟨mA, O, r, _, _, _⟩ := ins_get I.hok e
  obtain ⟨u, hu, ru⟩ := RelO.some_of (v := v) (o := mA f) (by rw [← l]; exact r f)
  exact get_map I.kIn O (c.get f) c.hd n hu (handed_of ru) (h u _ (I.tok _) ru)

theorem getcon_ok {b : Bool} {u : Value} {Q : Value → Shared → Prop} (I : Inv X pins σ H s) (e : H a = some (.ins C dx fs)) (c : Cls X.K C) (k : Con X.K C f v u) (l : fs.lookup f = none)
    (h : ∀ s', Inv X pins σ H s' → Q u s') : wpAny (model X.prog X.w) A (getAttr (.ref a) f b) Q E s := by
  obtain ⟨mA, O, r, _, _, _⟩ := ins_get I.hok e
  have hn : mA f = none := RelO.none_of (by rw [← l]; exact r f)
  exact get_const I.kIn O (c.get f) c.hd k.at_ k.get k.cp hn (handed_of k.rel) (h _ (I.tok _))

theorem getmeth_ok {m : Str} {g : Addr} {pl : Sem Bool} {Q : Value × List Value → Shared → Prop} (I : Inv X pins σ H s) (e : H a = some (.ins C dx fs)) (c : Cls X.K C) (k : Meth X.K C m g) (l : fs.lookup m = none)
    (h : Q (.ref g, [.ref a]) s) : wpAny (model X.prog X.w) A (getMethod (.ref a) m pl) Q E s := by
  obtain ⟨mA, O, r, _, _, _⟩ := ins_get I.hok e
  have hn : mA m = none := RelO.none_of (by rw [← l]; exact r m)
  exact get_meth I.kIn O (c.get m) k.at_ k.fn hn h

theorem setattr_ok {y : V} {u : Value} {Q : Unit → Shared → Prop} (I : Inv X pins σ H s) (e : H a = some (.ins C dx fs)) (c : Cls X.K C) (n : NoAttr X.K C f) (hl : fs.length < 1000) (ry : RelV y u)
    (h : ∀ s', Inv X pins σ (upd H a (.ins C dx (putF f y fs))) s' → Q () s') : wpAny (model X.prog X.w) A (setAttr (.ref a) f u) Q E s := by
  obtain ⟨mA, O, r, wi, _, ho⟩ := ins_get I.hok e
  have hz : (fs.map (·.1)).length ≤ sizeLine := by rw [List.length_map, sizeLine_eq]; omega
  refine set_map I.kIn O c.sa c.po n.taker c.hd wi hz fun h' O' sb => h _ ?_
  have hd : ∃ o, h'.get? dx = some o := let ⟨o, _, _, e', _⟩ := O'.ns; ⟨o, e'⟩
  refine I.write (x := a) (e := dx) (by rw [e]; exact True.intro) (.inr ho) (fun b q hb z => (sb.2 b hb).trans z) hd ?_
  refine ⟨by rw [upd_ne O.ne]; exact ho, ?_, O.ne, O'.obj, _, O'.ns, fun g => ?_, fun g hg => ?_⟩
  · have := length_putF f y fs; omega
  · show RelO ((putF f y fs).lookup g) (if g = f then some u else mA g)
    rw [lookup_putF]
    by_cases q : g = f
    · rw [if_pos q, if_pos q]; exact ry
    · rw [if_neg q, if_neg q]; exact r g
  · by_cases q : g = f
    · rw [q]; exact (keys_putF f y fs).1
    · refine (keys_putF f y fs).2 g (wi g fun z => hg ?_)
      show (if g = f then some u else mA g) = none
      rw [if_neg q]; exact z

/-- a new instance, tracked, without attributes -/
theorem Inv.made (I : Inv X pins σ H s) : Inv X pins σ (upd (upd H s.heap.objs.size (.own (s.heap.objs.size + 1))) (s.heap.objs.size + 1) (.ins C s.heap.objs.size []))
    { s with heap := (s.heap.push PySem.W.emptyDict).push (PySem.W.instObj C s.heap.objs.size) } := by
  have e1 : (s.heap.push PySem.W.emptyDict).get? s.heap.objs.size = some PySem.W.emptyDict := Heap.get?_push_size s.heap rfl
  have e2 : ((s.heap.push PySem.W.emptyDict).push (PySem.W.instObj C s.heap.objs.size)).get? (s.heap.objs.size + 1) = some (PySem.W.instObj C s.heap.objs.size) := by
    have := Heap.get?_push_size (s.heap.push PySem.W.emptyDict) (o := PySem.W.instObj C s.heap.objs.size) rfl
    rwa [Heap.size_push] at this
  have e3 : (s.heap.push PySem.W.emptyDict).Ns s.heap.objs.size (fun _ => none) := ⟨PySem.W.emptyDict, #[], _, e1, rfl, (fun e he => absurd he (by simp)), fun _ => rfl⟩
  have I1 := I.laid (a := s.heap.objs.size) (o := .own (s.heap.objs.size + 1)) (h' := s.heap.push PySem.W.emptyDict) (t' := s.toks) (fun b u q => Heap.get?_push_of_some _ q) (Nat.le_refl _) ⟨_, e1⟩
  refine I1.laid (a := s.heap.objs.size + 1) (o := .ins C s.heap.objs.size []) (t' := s.toks) (fun b u q => Heap.get?_push_of_some _ q) (Nat.le_of_eq (Heap.size_push _ _)) ?_
  have ne : s.heap.objs.size ≠ s.heap.objs.size + 1 := Nat.ne_of_lt (Nat.lt_succ_self _)
  refine ⟨by rw [upd_ne ne, upd_same], Nat.zero_le _, ne, e2, fun _ => none, (Heap.Ns1.of_empty e3).at fun o q => Heap.get?_push_of_some _ q, fun _ => True.intro, fun y hy => absurd rfl hy⟩

/-- e.f where nothing but the object is asked: through attributeBase (super) and the last hold -/
theorem attr_of {prog : Program} {w : World} {env : Env} {e : Expr} {f : Str} {pos : Pos} {s : Shared} {Q : Value → Shared → Prop} (hb : attributeBase e f env (eval e env) = eval e env)
    (h : wpAny (model prog w) A (eval e env) (fun o s₁ => wpAny (model prog w) A (getAttr o f true) Q E s₁) E s) : wpAny (model prog w) A (eval (.Attribute e f pos) env) Q E s :=
  Attribute_any_ h (by rw [arm_eval_Attribute, hb])
end

/-! ### readings and rules -/
/-- e.f, an attribute of the instance -/
def tFld (K : PySem.W.Frag) (ta : TE) (f : Str) : TE := fun σ H Q => ta σ H fun x H1 => ∃ a C dx fs v, x = .ref a ∧ H1 a = some (.ins C dx fs) ∧ Cls K C ∧ NoAttr K C f ∧ fs.lookup f = some v ∧ Q v H1
/-- e.f, a constant of the class -/
def tCon (K : PySem.W.Frag) (ta : TE) (f : Str) : TE := fun σ H Q => ta σ H fun x H1 => ∃ a C dx fs v u, x = .ref a ∧ H1 a = some (.ins C dx fs) ∧ Cls K C ∧ Con K C f v u ∧ fs.lookup f = none ∧ Q v H1
/-- e.f = value -/
def sFld (K : PySem.W.Frag) (ta tv : TE) (f : Str) : TS := fun D σ H => tv σ H fun y H1 => ta σ H1 fun x H2 => ∃ a C dx fs, x = .ref a ∧ H2 a = some (.ins C dx fs) ∧ Cls K C ∧ NoAttr K C f ∧ fs.length < 1000 ∧
  D.nx σ (upd H2 a (.ins C dx (putF f y fs)))
/-- an augmented operator on two values -/
def InOp (X : Cx) (op : Operator) (rd : V → V → Hp → VK → Prop) : Prop :=
  ∀ (pins : List (Addr × Obj)) (s : Shared) (σ : St) (H : Hp) (x y : V) (u v : Value) (Q : VK), Inv X pins σ H s → RelV x u → RelV y v → rd x y H Q → wpAny (model X.prog X.w) X.A (inplaceOp op u v) (EP X pins σ Q) X.xe s
/-- e.f op= value -/
def sFldAug (K : PySem.W.Frag) (ta tv : TE) (rd : V → V → Hp → VK → Prop) (f : Str) : TS := fun D σ H => ta σ H fun x H1 => ∃ a C dx fs v, x = .ref a ∧ H1 a = some (.ins C dx fs) ∧ Cls K C ∧ NoAttr K C f ∧ fs.lookup f = some v ∧
  tv σ H1 fun y H2 => rd v y H2 fun z H3 => ∃ dx' fs', H3 a = some (.ins C dx' fs') ∧ fs'.length < 1000 ∧ D.nx σ (upd H3 a (.ins C dx' (putF f z fs')))

section
variable {X : Cx} {o e value : Expr} {f : Str} {pos pos' tpos : Pos} {ta tv : TE}
theorem pe_fld (he : PE X e ta) (hb : attributeBase e f X.env (eval e X.env) = eval e X.env) : PE X (.Attribute e f pos) (tFld X.K ta f) := by
  intro pins s σ H Q I h
  refine attr_of hb (thn (he pins s σ H _ I h) fun u s1 ⟨x, H1, I1, rx, a, C, dx, fs, v, ex, ea, c, n, l, q⟩ => ?_)
  subst ex
  obtain rfl : u = Value.ref a := rx
  exact getattr_ok I1 ea c n l fun u' s2 I2 ru => ⟨v, H1, I2, ru, q⟩
theorem pe_con (he : PE X e ta) (hb : attributeBase e f X.env (eval e X.env) = eval e X.env) : PE X (.Attribute e f pos) (tCon X.K ta f) := by
  intro pins s σ H Q I h
  refine attr_of hb (thn (he pins s σ H _ I h) fun u s1 ⟨x, H1, I1, rx, a, C, dx, fs, v, u0, ex, ea, c, k, l, q⟩ => ?_)
  subst ex
  obtain rfl : u = Value.ref a := rx
  exact getcon_ok I1 ea c k l fun s2 I2 => ⟨v, H1, I2, k.rel, q⟩
theorem ps_fld (ha : PE X o ta) (hv : PE X value tv) (hs : swapsWith value (some (.Attribute o f pos')) pos.line X.env = pure false) : PS X (.Assign [.Attribute o f pos'] value pos) (sFld X.K ta tv f) := by
  intro pins s σ H D I h
  refine plainObj_wpAny_Assign_Attribute (thn (hv pins s σ H _ I h) fun u s1 ⟨y, H1, I1, ry, q⟩ => thn (ha pins s1 σ H1 _ I1 q) fun ov s2 ⟨x, H2, I2, rx, a, C, dx, fs, ex, ea, c, n, l, q2⟩ => ?_) hs
  subst ex
  obtain rfl : ov = Value.ref a := rx
  exact setattr_ok I2 ea c n l ry fun s3 I3 => ⟨σ, _, I3, q2⟩
theorem ps_fldaug {op : Operator} {rd : V → V → Hp → VK → Prop} (ha : PE X o ta) (hv : PE X value tv) (hop : InOp X op rd) : PS X (.AugAssign (.Attribute o f tpos) op value pos) (sFldAug X.K ta tv rd f) := by
  intro pins s σ H D I h
  refine wpAny_AugAssign_AttributeAny (thn (ha pins s σ H _ I h) fun ov s1 ⟨x, H1, I1, rx, a, C, dx, fs, v, ex, ea, c, n, l, q⟩ => ?_)
  subst ex
  obtain rfl : ov = Value.ref a := rx
  refine getattr_ok I1 ea c n l fun u s2 I2 ru => thn (hv pins s2 σ H1 _ I2 q) fun w3 s3 ⟨y, H2, I3, ry, q3⟩ => thn (hop pins s3 σ H2 v y u w3 _ I3 ru ry q3) fun w4 s4 ⟨z, H3, I4, rz, dx', fs', ea', l', q4⟩ => ?_
  exact setattr_ok I4 ea' c n l' rz fun s5 I5 => ⟨σ, _, I5, q4⟩
def rAdd : V → V → Hp → VK → Prop := fun x y H Q => ∃ i j, x = .int i ∧ y = .int j ∧ Q (.int (i + j)) H
def rSub : V → V → Hp → VK → Prop := fun x y H Q => ∃ i j, x = .int i ∧ y = .int j ∧ Q (.int (i - j)) H
theorem in_add : InOp X .Add rAdd := by
  rintro pins s σ H x y u v Q I rx ry ⟨i, j, rfl, rfl, q⟩
  obtain ⟨t, rfl⟩ := (show ∃ t, u = Value.int i t from rx)
  obtain ⟨t', rfl⟩ := (show ∃ t', v = Value.int j t' from ry)
  exact PyProof.Rows.iadd_int ⟨.int (i + j), H, I.tok _, ⟨_, rfl⟩, q⟩
theorem in_sub : InOp X .Sub rSub := by
  rintro pins s σ H x y u v Q I rx ry ⟨i, j, rfl, rfl, q⟩
  obtain ⟨t, rfl⟩ := (show ∃ t, u = Value.int i t from rx)
  obtain ⟨t', rfl⟩ := (show ∃ t', v = Value.int j t' from ry)
  exact PyProof.Rows.isub_int ⟨.int (i - j), H, I.tok _, ⟨_, rfl⟩, q⟩

/-- what is between an instance and its method: the tree of a method call -/
theorem methcall_of {pl : Sem Bool} {m : Str} {apos : Pos} {args : List Expr} {pins : List (Addr × Obj)} {s : Shared} {σ : St} {H : Hp} {Q : Value → Shared → Prop} {te : TE} (he : PE X e te) (I : Inv X pins σ H s)
    (h : te σ H fun x H1 => ∃ a C dx fs g, x = .ref a ∧ H1 a = some (.ins C dx fs) ∧ Cls X.K C ∧ Meth X.K C m g ∧ fs.lookup m = none ∧
      ∀ s1, Inv X pins σ H1 s1 → wpAny (model X.prog X.w) X.A (callWith pos (.ref g) [.ref a] (backTo pos (starEach args X.env)) (backToKw pos (keywordEach [] X.env))) Q X.xe s1)
    (ht : eval (.Call (.Attribute e m apos) args [] pos) X.env = (do
      let ov ← eval e X.env
      standAt apos.atName
      let (f, first) ← holding [ov] (getMethod ov m pl)
      callWith pos f first (backTo pos (starEach args X.env)) (backToKw pos (keywordEach [] X.env)))) :
    wpAny (model X.prog X.w) X.A (eval (.Call (.Attribute e m apos) args [] pos) X.env) Q X.xe s := by
  refine PySem.W.methodCall_KW (pl := pl) (thn (he pins s σ H _ I h) fun u s1 ⟨x, H1, I1, rx, a, C, dx, fs, g, ex, ea, c, k, l, q⟩ => ?_) ht
  subst ex
  obtain rfl : u = Value.ref a := rx
  exact getmeth_ok I1 ea c k l (q s1 I1)
end

/-! ### isinstance -/
section
variable {X : Cx} {pins : List (Addr × Obj)} {σ : St} {H : Hp} {s : Shared} {A : Around} {E : Value → Shared → Prop} {Q : Value → Shared → Prop} {c : Value} {b : Bool}
/-- the type of a value, as the fragment's deciders take it; for an instance its class -/
inductive TyOf (K : PySem.W.Frag) (H : Hp) : V → Value → Prop where
  | non : TyOf K H .non (.type "NoneType")
  | bl (x : Bool) : TyOf K H (.bl x) (.type "bool")
  | int (i : Int) : TyOf K H (.int i) (.type "int")
  | str (x : Str) : TyOf K H (.str x) (.type "str")
  | flt (x : UInt64) : TyOf K H (.flt x) (.type "float")
  | lst {a : Addr} {xs : List V} (e : H a = some (.lst xs)) : TyOf K H (.ref a) (.type "list")
  | frz {a : Addr} {o : Obj} {xs : List V} (e : H a = some (.frz o (.lst xs))) : TyOf K H (.ref a) (.type "list")
  | tup {a : Addr} {xs : List V} (e : H a = some (.tup xs)) : TyOf K H (.ref a) (.type "tuple")
  | dK {a : Addr} {kvs : List (Key × V)} (e : H a = some (.dK kvs)) : TyOf K H (.ref a) (.type "dict")
  | dT {a : Addr} {kvs : List (List Key × V)} (e : H a = some (.dT kvs)) : TyOf K H (.ref a) (.type "dict")
  | ins {a C dx : Addr} {fs : List (Str × V)} (e : H a = some (.ins C dx fs)) (cl : Cls K C) (ha : PySem.W.findIn K (.ref C) "__class__" = some (some (.builtin "object.__class__")))
      (hn : PySem.W.specialIn K (.builtin "object.__class__") "__get__" = some (some (.builtin "getset_descriptor.__get__"))) (htk : PySem.W.takesIn K (.builtin "object.__class__") = some true)
      (hm : PySem.W.mroIn K C (.type "object") = some true) : TyOf K H (.ref a) (.ref C)
/-- isinstance(x, c) for one class c, a built-in or an own one: kitOne's answer -/
theorem isinst_ok {x : V} {u t : Value} (I : Inv X pins σ H s) (rx : RelV x u) (ty : TyOf X.K H x t) (e : PySem.W.kitOne X.K t c = some b) (h : ∀ tk, Q (.bool b) { s with toks := tk }) :
    wpAny (model X.prog X.w) A (call (.builtin "isinstance") [u, c]) Q E s := by
  cases ty with
  | non => cases (show u = Value.none from rx); exact PySem.W.kia_one PySem.W.kitx_none I.kIn True.intro e (fun z => nomatch z) h
  | bl y => cases (show u = Value.bool y from rx); exact PySem.W.kia_one PySem.W.kitx_bool I.kIn True.intro e (fun z => nomatch z) h
  | int i => obtain ⟨t, q⟩ := (show ∃ t, u = Value.int i t from rx); cases q; exact PySem.W.kia_one PySem.W.kitx_int I.kIn True.intro e (fun z => nomatch z) h
  | str y => obtain ⟨t, q⟩ := (show ∃ t, u = Value.str y t from rx); cases q; exact PySem.W.kia_one PySem.W.kitx_str I.kIn True.intro e (fun z => nomatch z) h
  | flt y => obtain ⟨t, q⟩ := (show ∃ t, u = Value.float y t from rx); cases q; exact PySem.W.kia_one PySem.W.kitx_float I.kIn True.intro e (fun z => nomatch z) h
  | @lst a xs ea =>
    cases (show u = Value.ref a from rx)
    obtain ⟨_, _, n, _, h1⟩ := (show ObjOk X.prog X.w H s.heap a (.lst xs) from I.hok a _ ea)
    exact PySem.W.kia_one PySem.W.kitx_list I.kIn ⟨_, h1, rfl⟩ e (fun z => nomatch z) h
  | @frz a ob xs ea =>
    cases (show u = Value.ref a from rx)
    obtain ⟨_, _, _, n, _, h1⟩ := (show ObjOk X.prog X.w H s.heap a (.frz ob (.lst xs)) from I.hok a _ ea)
    exact PySem.W.kia_one PySem.W.kitx_list I.kIn ⟨_, h1, rfl⟩ e (fun z => nomatch z) h
  | @tup a xs ea =>
    cases (show u = Value.ref a from rx)
    obtain ⟨_, _, _, p⟩ := (show ObjOk X.prog X.w H s.heap a (.tup xs) from I.hok a _ ea)
    obtain ⟨o, h1, h2, _⟩ := p
    exact PySem.W.kia_one PySem.W.kitx_tuple I.kIn ⟨o, h1, h2⟩ e (fun z => nomatch z) h
  | @dK a kvs ea =>
    cases (show u = Value.ref a from rx)
    obtain ⟨_, _, vs, _, p⟩ := (show ObjOk X.prog X.w H s.heap a (.dK kvs) from I.hok a _ ea)
    obtain ⟨o, es, ep, h1, h2, _⟩ := p
    exact PySem.W.kia_one PySem.W.kitx_dict I.kIn ⟨o, h1, h2.1⟩ e (fun z => nomatch z) h
  | @dT a kvs ea =>
    cases (show u = Value.ref a from rx)
    obtain ⟨_, _, xs, _, o, es, ep, h1, h2, _⟩ := (show ObjOk X.prog X.w H s.heap a (.dT kvs) from I.hok a _ ea)
    exact PySem.W.kia_one PySem.W.kitx_dict I.kIn ⟨o, h1, h2.1⟩ e (fun z => nomatch z) h
  | @ins a C dx fs ea cl ha hn htk hm =>
    cases (show u = Value.ref a from rx)
    obtain ⟨mA, O, _⟩ := ins_get I.hok ea
    obtain ⟨od, J, _⟩ := O.look
    exact PySem.W.kia_one (PySem.W.kitx_own (cl.get _) cl.hd ha hn htk hm) I.kIn J e (fun z => nomatch z) h
end
end L2

namespace L2
open PySem PySem.Spec PyProof.Rows

/-! ### room -/
structure Room (k : Nat) (A : Around) : Prop where
  hd : A.handled = none
  dp : A.depth + 3 * k + 5 < recursionLimit
  un : A.units + 16 * k + 200 < cLine
theorem Room.mono {j k : Nat} {A : Around} (r : Room k A) (h : j ≤ k) : Room j A := ⟨r.hd, by have := r.dp; omega, by have := r.un; omega⟩
theorem Room.deeper {k : Nat} {A : Around} (r : Room (k + 1) A) (env : Env) : Room k (A.deeper env) :=
  ⟨r.hd, by have := r.dp; show A.depth + 1 + 3 * k + 5 < _; omega, by have := r.un; show A.units + 3 + 16 * k + 200 < _; omega⟩
theorem Room.in1 {k : Nat} {A : Around} (r : Room (k + 1) A) : Room k A.in1 :=
  ⟨r.hd, by have := r.dp; show A.depth + 3 * k + 5 < _; omega, by have := r.un; show A.units + 1 + 16 * k + 200 < _; omega⟩
theorem make_depth {A : Around} {C : Addr} {us : List Value} {kw : List (Str × Value)} : (A.under (.builtin "type.__call__" ⟨.ref C :: us, kw⟩)).depth = A.depth + 1 := by
  first | rfl | simp [Around.under, Code.weight, Code.isCreation, Code.isGuard, Code.isCaller, Code.frames, Code.isFrame, guardIds]
theorem make_units {A : Around} {C : Addr} {us : List Value} {kw : List (Str × Value)} : (A.under (.builtin "type.__call__" ⟨.ref C :: us, kw⟩)).units = A.units + 1 := by
  first | rfl | simp [Around.under, Code.cUnits, Code.frames, Code.isFrame]
theorem Room.make {k : Nat} {A : Around} (r : Room (k + 1) A) (C : Addr) (us : List Value) (kw : List (Str × Value)) : Room k (A.under (.builtin "type.__call__" ⟨.ref C :: us, kw⟩)) :=
  ⟨r.hd, by have := r.dp; rw [make_depth]; omega, by have := r.un; rw [make_units]; omega⟩
theorem Room.depth {k : Nat} {A : Around} (r : Room k A) : A.depth < recursionLimit := by have := r.dp; omega
theorem Room.units {k : Nat} {A : Around} (r : Room k A) : A.units + 64 < cLine := by have := r.un; omega
theorem Room.units0 {k : Nat} {A : Around} (r : Room k A) : A.units < cLine := by have := r.un; omega

/-! ### argument lists and displays -/
def tNil : TA := fun _ H Q => Q [] H
def tCons (ta : TE) (tr : TA) : TA := fun σ H Q => ta σ H fun x H1 => tr σ H1 fun xs H2 => Q (x :: xs) H2
section
variable {X : Cx} {e : Expr} {es : List Expr} {te : TE} {t : TA} {pos : Pos}
theorem pa_nil : PA X [] tNil := fun _ _ _ _ H Q I h => Calls.spliced_nil ⟨[], H, I, .nil, h⟩
theorem pa_cons (ha : PE X e te) (hr : PA X es t) (hs : starEach (e :: es) X.env = (false, eval e X.env) :: starEach es X.env := by rfl) : PA X (e :: es) (tCons te t) := by
  intro pos pins s σ H Q I h
  rw [hs]
  show wpAny _ _ (spliced ((false, eval e X.env) :: backTo pos (starEach es X.env))) _ _ s
  refine Calls.spliced_cons (thn (ha pins s σ H _ I h) fun u s1 ⟨x, H1, I1, r1, q1⟩ => ?_)
  exact thn (hr pos pins s1 σ H1 _ I1 q1) fun us s2 ⟨xs, H2, I2, r2, q2⟩ => ⟨x :: xs, H2, I2, .cons r1 r2, q2⟩

/-- a tuple, a list of written items -/
def tTup (t : TA) : TE := fun σ H Q => t σ H fun xs H1 => xs.length ≤ sizeLine ∧ ∀ p, H1 p = none → Q (.ref p) (upd H1 p (.tup xs))
def tLst (t : TA) : TE := fun σ H Q => t σ H fun xs H1 => xs.length ≤ sizeLine ∧ ∀ p, H1 p = none → Q (.ref p) (upd H1 p (.lst xs))
theorem pe_tup {x1} (h : PA X es t) : PE X (.Tuple es x1 pos) (tTup t) := by
  intro pins s σ H Q I hq
  refine wpAny_Tuple_spliced (thn (h pos pins s σ H _ I hq) fun us s1 ⟨xs, H1, I1, r, z, q⟩ => ⟨by rw [← r.length]; exact z, ?_⟩)
  have hf : H1 s1.heap.objs.size = none := I1.hok.fresh (Nat.le_refl _)
  refine ⟨.ref s1.heap.objs.size, upd H1 s1.heap.objs.size (.tup xs), I1.laid (t' := s1.toks) (fun b u e => Heap.get?_push_of_some _ e) (Nat.le_refl _) ?_, rfl, q _ hf⟩
  exact ⟨z, us, r, ⟨_, Heap.get?_push_size _ rfl, rfl, _, rfl⟩⟩
theorem pe_lst (h : PA X es t) : PE X (.List es pos) (tLst t) := by
  intro pins s σ H Q I hq
  refine wpAny_List_spliced (thn (h pos pins s σ H _ I hq) fun us s1 ⟨xs, H1, I1, r, z, q⟩ => ⟨by rw [← r.length]; exact z, ?_⟩)
  have hf : H1 s1.heap.objs.size = none := I1.hok.fresh (Nat.le_refl _)
  refine ⟨.ref s1.heap.objs.size, upd H1 s1.heap.objs.size (.lst xs), I1.laid (t' := s1.toks) (fun b u e => Heap.get?_push_of_some _ e) (Nat.le_refl _) ?_, rfl, q _ hf⟩
  exact ⟨z, us, 0, r, Heap.get?_push_size _ rfl⟩
end

/-! ### what a def promises -/
/-- a def's promise: the bound arguments in the parameters' order, the heap, the wanted end, the wanted exception -/
abbrev Sp := List V → Hp → VK → XK → Prop
/-- how an exception lies behind a call (file 08 gives it): the callers' frames, abstract heap and state ahead of the call, the wish, the exception, the state -/
abbrev CXT := List Env → Hp → Shared → XK → Value → Shared → Prop

/-- the state at a call -/
structure Env0 (P : Program) (w : World) (K : PySem.W.Frag) (mg : Str → Option Value) (base : Heap) (A : Around) (outer : List Env) (s : Shared) (H : Hp) : Prop where
  frames : A.frames = some outer
  mod : Mod K mg base
  bs : ∀ b o, base.get? b = some o → s.heap.get? b = some o ∧ H b = none
  bsz : base.objs.size ≤ s.heap.objs.size
  funs : s.heap.FunFrames base outer
  frf : ∀ b ∈ frs outer, H b = none
  hok : HOk P w H s.heap
  bare : AllBare s.gens
/-- a call's end -/
def CE (outer : List Env) (P : Program) (w : World) (H : Hp) (s : Shared) (Q : VK) (u : Value) (s' : Shared) : Prop :=
  ∃ v H', s'.os = s.os ∧ AllBare s'.gens ∧ Un (frs outer) [] H H' s.heap s'.heap ∧ HOk P w H' s'.heap ∧ RelV v u ∧ Q v H'
def CR (CX : CXT) (outer : List Env) (P : Program) (w : World) (H : Hp) (s : Shared) (Q : VK) (E : XK) (r : Result) (s' : Shared) : Prop :=
  match r with
  | .ok (.ret u) => CE outer P w H s Q u s'
  | .ok _ => False
  | .error e => CX outer H s E e s'
structure FnOk (P : Program) (w : World) (K : PySem.W.Frag) (mg : Str → Option Value) (base : Heap) (CX : CXT) (k : Nat) (f : Addr) (fd : FuncData) (ps : List Str) (sp : Sp) : Prop where
  len : ∀ vs H Q E, sp vs H Q E → vs.length = ps.length
  run : ∀ (A : Around) (outer : List Env) (s : Shared) (H : Hp) (args : Args) (us : List Value) (vs : List V) (Q : VK) (E : XK), Room k A → Env0 P w K mg base A outer s H → BindsTo s fd args (ps.zip us) → Vals vs us → sp vs H Q E →
    codeAny (model P w) A (.call (.ref f) args) (CR CX outer P w H s Q E) s
theorem FnOk.mono {P : Program} {w : World} {K : PySem.W.Frag} {mg : Str → Option Value} {base : Heap} {CX : CXT} {j k : Nat} {f : Addr} {fd : FuncData} {ps : List Str} {sp : Sp} (F : FnOk P w K mg base CX j f fd ps sp) (h : j ≤ k) :
    FnOk P w K mg base CX k f fd ps sp := ⟨F.len, fun A outer s H args us vs Q E hr => F.run A outer s H args us vs Q E (hr.mono h)⟩
/-- a weaker promise -/
theorem FnOk.imp {P : Program} {w : World} {K : PySem.W.Frag} {mg : Str → Option Value} {base : Heap} {CX : CXT} {k : Nat} {f : Addr} {fd : FuncData} {ps : List Str} {sp sp' : Sp} (F : FnOk P w K mg base CX k f fd ps sp)
    (h : ∀ vs H Q E, sp' vs H Q E → sp vs H Q E) : FnOk P w K mg base CX k f fd ps sp' :=
  ⟨fun vs H Q E q => F.len vs H Q E (h _ _ _ _ q), fun A outer s H args us vs Q E hr he hb hv hs => F.run A outer s H args us vs Q E hr he hb hv (h _ _ _ _ hs)⟩

theorem Env0.make {P : Program} {w : World} {K : PySem.W.Frag} {mg : Str → Option Value} {base : Heap} {A : Around} {outer : List Env} {s : Shared} {H : Hp} (e : Env0 P w K mg base A outer s H) (C : Addr) (us : List Value) (kw : List (Str × Value)) :
    Env0 P w K mg base (A.under (.builtin "type.__call__" ⟨.ref C :: us, kw⟩)) outer s H := ⟨by first | exact e.frames | (simpa [Around.under, Code.envs, Code.isFrame, pushEnvs] using e.frames), e.mod, e.bs, e.bsz, e.funs, e.frf, e.hok, e.bare⟩
theorem Env0.in1 {P : Program} {w : World} {K : PySem.W.Frag} {mg : Str → Option Value} {base : Heap} {A : Around} {outer : List Env} {s : Shared} {H : Hp} (e : Env0 P w K mg base A outer s H) :
    Env0 P w K mg base A.in1 outer s H := ⟨e.frames, e.mod, e.bs, e.bsz, e.funs, e.frf, e.hok, e.bare⟩

section
variable {X : Cx} {pins : List (Addr × Obj)} {σ : St} {H : Hp} {s s' : Shared}
/-- from a body: what a callee wants -/
theorem Inv.env0 (I : Inv X pins σ H s) : Env0 X.prog X.w X.K X.mg X.base X.A X.stack s H :=
  ⟨I.ok.frames, I.ok.mod, I.bs, Nat.le_trans I.ok.bsz I.sz, I.stack, I.stkFree, I.hok, I.bare⟩
/-- behind a call -/
theorem Inv.after {Q : VK} {u : Value} (I : Inv X pins σ H s) (h : CE X.stack X.prog X.w H s Q u s') : EP X pins σ Q u s' := by
  obtain ⟨v, H', os, bare, un, hok, r, q⟩ := h
  obtain ⟨hh, g, d, t, os'⟩ := s'
  obtain rfl : os' = s.os := os
  exact ⟨v, H', I.call (h' := hh) (g' := g) (d' := d) (t' := t) (ch := []) un hok bare (fun b z => absurd z (by simp)), r, q⟩
end

/-! ### calls -/
/-- f(..): the written arguments, then the defaults dvs; E: what is wanted of an exception -/
def tCall (sp : Sp) (dvs : List V) (E : XK) (t : TA) : TE := fun σ H Q => t σ H fun vs H1 => sp (vs ++ dvs) H1 Q E
/-- o.m(..) of an instance of the class at C -/
def tMeth (C : Addr) (m : Str) (sp : Sp) (dvs : List V) (E : XK) (ta : TE) (t : TA) : TE := fun σ H Q => ta σ H fun x H1 => ∃ a dx fs, x = .ref a ∧ H1 a = some (.ins C dx fs) ∧ fs.lookup m = none ∧
  t σ H1 fun vs H2 => sp (x :: (vs ++ dvs)) H2 Q E
/-- C(..): a new instance and its dict, then __init__ -/
def tMake (C : Addr) (sp : Sp) (dvs : List V) (E : XK) (t : TA) : TE := fun σ H Q => t σ H fun vs H1 => ∀ x dx, H1 x = none → H1 dx = none → dx ≠ x →
  sp (.ref x :: (vs ++ dvs)) (upd (upd H1 dx (.own x)) x (.ins C dx [])) (fun v H2 => v = .non ∧ Q (.ref x) H2) E

/-- how the parameters are bound: us the positional arguments, kw the keywords' values by name, ds the defaults that fill up -/
def Binds (K : PySem.W.Frag) (fd : FuncData) (ps : List Str) (ds : List Value) : Prop :=
  ∀ (s : Shared) (us : List Value), K.In s.heap → (us ++ ds).length = ps.length → BindsTo s fd ⟨us, []⟩ (ps.zip (us ++ ds))
/-- every parameter is given -/
theorem Binds.all {K : PySem.W.Frag} {fd : FuncData} {ps : List Str} (h : ∀ us : List Value, us.length = ps.length → bindArgs fd ⟨us, []⟩ = pure (ps.zip us)) : Binds K fd ps [] := fun s us _ hl => by
  rw [List.append_nil] at hl ⊢
  exact .of_eq (h us hl)

/-- an exception of a callee reaches what this body wants of exceptions -/
def Passes (CX : CXT) (X : Cx) (E : XK) : Prop := ∀ (pins : List (Addr × Obj)) (σ : St) (H : Hp) (s : Shared) (e : Value) (s' : Shared), Inv X pins σ H s → CX X.stack H s E e s' → X.xe e s'

section
variable {X : Cx} {CX : CXT} {k : Nat} {f C : Addr} {fd : FuncData} {ps : List Str} {sp : Sp} {dvs : List V} {ds : List Value} {E : XK} {x m : Str} {p pos apos : Pos} {e o : Expr} {es : List Expr} {ta : TE} {t : TA}

/-- the callee runs -/
theorem run_fn {pins : List (Addr × Obj)} {σ : St} {H : Hp} {s : Shared} {Q : VK} {us : List Value} {vs : List V} (F : FnOk X.prog X.w X.K X.mg X.base CX k f fd ps sp) (hr : Room k X.A) (hb : Binds X.K fd ps ds) (hd : Vals dvs ds) (hx : Passes CX X E)
    (I : Inv X pins σ H s) (r : Vals vs us) (h : sp (vs ++ dvs) H Q E) : wpAny (model X.prog X.w) X.A (call (.ref f) us) (EP X pins σ Q) X.xe s := by
  have r2 : Vals (vs ++ dvs) (us ++ ds) := r.append hd
  have hl : (us ++ ds).length = ps.length := by rw [← r2.length]; exact F.len _ _ _ _ h
  refine wpAny_call (codeAny_mono (F.run X.A X.stack s H ⟨us, []⟩ (us ++ ds) (vs ++ dvs) Q E hr I.env0 (hb s us I.kIn hl) r2 h) fun r s' hq => ?_)
  cases r with
  | error e => exact hx pins σ H s e s' I hq
  | ok fl =>
    cases fl with
    | ret u => exact I.after hq
    | next => exact False.elim hq
    | brk => exact False.elim hq
    | cont => exact False.elim hq

theorem pe_call (F : FnOk X.prog X.w X.K X.mg X.base CX k f fd ps sp) (hr : Room k X.A) (hg : Gl X x) (hm : X.mg x = some (.ref f)) (hk : PySem.W.keepIn X.K (.ref f) = true) (hb : Binds X.K fd ps ds) (hd : Vals dvs ds) (hx : Passes CX X E)
    (ha : PA X (e :: es) t) (hdb : (x == ("__debug__" : Str)) = false := by decide) (he : starEach (e :: es) X.env = (false, eval e X.env) :: starEach es X.env := by rfl) (hpl : (backTo pos (starEach es X.env)).any (·.1) = false := by rfl) :
    PE X (.Call (.Name x p) (e :: es) [] pos) (tCall sp dvs E t) := by
  intro pins s σ H Q I h
  refine wpAny_Call_Name_kw (ld_glob I hg hm ?_ hdb)
  refine PySem.W.callWith_K (h₀ := X.base) I.ok.mod.kin hk (thn (ha pos pins s σ H _ I h) fun us s1 ⟨vs, H1, I1, r, q⟩ => ⟨I1.kIn, ?_⟩) he hpl
  exact run_fn F hr hb hd hx I1 r q
theorem pe_call0 (F : FnOk X.prog X.w X.K X.mg X.base CX k f fd ps sp) (hr : Room k X.A) (hg : Gl X x) (hm : X.mg x = some (.ref f)) (hk : PySem.W.keepIn X.K (.ref f) = true) (hb : Binds X.K fd ps ds) (hd : Vals dvs ds) (hx : Passes CX X E)
    (hdb : (x == ("__debug__" : Str)) = false := by decide) : PE X (.Call (.Name x p) [] [] pos) (tCall sp dvs E tNil) := by
  intro pins s σ H Q I h
  refine wpAny_Call_Name_kw (ld_glob I hg hm ?_ hdb)
  exact PySem.W.callWith_K0 I.kIn hk (run_fn (us := []) F hr hb hd hx I .nil h)

/-- o.m(e, ..) -/
theorem pe_meth {pl : Sem Bool} (he : PE X o ta) (c : Cls X.K C) (hm : Meth X.K C m f) (F : FnOk X.prog X.w X.K X.mg X.base CX k f fd ps sp) (hr : Room k X.A) (hb : Binds X.K fd ps ds) (hd : Vals dvs ds) (hx : Passes CX X E) (ha : PA X (e :: es) t)
    (hst : starEach (e :: es) X.env = (false, eval e X.env) :: starEach es X.env := by rfl) (hpl : (backTo pos (starEach es X.env)).any (·.1) = false := by rfl)
    (ht : eval (.Call (.Attribute o m apos) (e :: es) [] pos) X.env = (do
      let ov ← eval o X.env
      standAt apos.atName
      let (f, first) ← holding [ov] (getMethod ov m pl)
      callWith pos f first (backTo pos (starEach (e :: es) X.env)) (backToKw pos (keywordEach [] X.env))) := by rfl) :
    PE X (.Call (.Attribute o m apos) (e :: es) [] pos) (tMeth C m sp dvs E ta t) := by
  intro pins s σ H Q I h
  refine PySem.W.methodCall_KW (pl := pl) (thn (he pins s σ H _ I h) fun u s1 ⟨x, H1, I1, rx, a, dx, fs, ex, ea, l, q⟩ => ?_) ht
  subst ex
  obtain rfl : u = Value.ref a := rx
  refine getmeth_ok I1 ea c hm l ?_
  refine PySem.W.callWith_K (first := [.ref a]) (h₀ := X.base) I.ok.mod.kin hm.kp (thn (ha pos pins s1 σ H1 _ I1 q) fun us s2 ⟨vs, H2, I2, r, q2⟩ => ⟨I2.kIn, ?_⟩) hst hpl
  exact run_fn (us := .ref a :: us) (vs := .ref a :: vs) F hr hb hd hx I2 (.cons rfl r) q2
/-- o.m() -/
theorem pe_meth0 {pl : Sem Bool} (he : PE X o ta) (c : Cls X.K C) (hm : Meth X.K C m f) (F : FnOk X.prog X.w X.K X.mg X.base CX k f fd ps sp) (hr : Room k X.A) (hb : Binds X.K fd ps ds) (hd : Vals dvs ds) (hx : Passes CX X E)
    (ht : eval (.Call (.Attribute o m apos) [] [] pos) X.env = (do
      let ov ← eval o X.env
      standAt apos.atName
      let (f, first) ← holding [ov] (getMethod ov m pl)
      callWith pos f first (backTo pos (starEach [] X.env)) (backToKw pos (keywordEach [] X.env))) := by rfl) :
    PE X (.Call (.Attribute o m apos) [] [] pos) (tMeth C m sp dvs E ta tNil) := by
  intro pins s σ H Q I h
  refine PySem.W.methodCall_KW (pl := pl) (thn (he pins s σ H _ I h) fun u s1 ⟨x, H1, I1, rx, a, dx, fs, ex, ea, l, q⟩ => ?_) ht
  subst ex
  obtain rfl : u = Value.ref a := rx
  refine getmeth_ok I1 ea c hm l ?_
  exact PySem.W.callWith_K0 (first := [.ref a]) I1.kIn hm.kp (run_fn (us := [.ref a]) (vs := [.ref a]) F hr hb hd hx I1 (.cons rfl .nil) q)

/-- what a class must have to be made -/
structure Mk (K : PySem.W.Frag) (C f : Addr) : Prop where
  makes : PySem.W.makesIn K C = true
  init : PySem.W.findIn K (.ref C) "__init__" = some (some (.ref f))
  fn : PySem.W.isFn K (.ref f) = true
  kp : PySem.W.keepIn K (.ref C) = true

theorem run_make {pins : List (Addr × Obj)} {σ : St} {H : Hp} {s : Shared} {Q : VK} {us : List Value} {vs : List V} (M : Mk X.K C f) (F : FnOk X.prog X.w X.K X.mg X.base CX k f fd ps sp) (hr : Room (k + 1) X.A) (hb : Binds X.K fd ps ds) (hd : Vals dvs ds)
    (hx : Passes CX X E) (I : Inv X pins σ H s) (r : Vals vs us)
    (h : ∀ x dx, H x = none → H dx = none → dx ≠ x → sp (.ref x :: (vs ++ dvs)) (upd (upd H dx (.own x)) x (.ins C dx [])) (fun v H2 => v = .non ∧ Q (.ref x) H2) E) :
    wpAny (model X.prog X.w) X.A (call (.ref C) us) (EP X pins σ Q) X.xe s := by
  have hq := h (s.heap.objs.size + 1) s.heap.objs.size (I.hok.fresh (Nat.le_succ _)) (I.hok.fresh (Nat.le_refl _)) (Nat.ne_of_lt (Nat.lt_succ_self _))
  have I2 := Inv.made (C := C) I
  have r2 : Vals (V.ref (s.heap.objs.size + 1) :: (vs ++ dvs)) (Value.ref (s.heap.objs.size + 1) :: (us ++ ds)) := .cons rfl (r.append hd)
  have hl : (Value.ref (s.heap.objs.size + 1) :: us ++ ds).length = ps.length := by
    have e := r2.length
    rw [F.len _ _ _ _ hq] at e
    exact e.symm
  refine wpAny_call (make_map (f := f) I.kIn M.makes M.init (beq_iff_eq.mp M.fn) (codeAny_mono (F.run _ X.stack _ _ ⟨Value.ref (s.heap.objs.size + 1) :: us, []⟩ (Value.ref (s.heap.objs.size + 1) :: (us ++ ds)) _ _ E (hr.make C us [])
    (I2.env0.make C us []) (hb _ (Value.ref (s.heap.objs.size + 1) :: us) I2.kIn hl) r2 hq) fun r s' hq' => ?_))
  cases r with
  | error e => exact hx pins σ _ _ e s' I2 hq'
  | ok fl =>
    cases fl with
    | ret u =>
      obtain ⟨v, H', I3, rv, ev, q3⟩ := I2.after hq'
      subst ev
      exact ⟨rv, ⟨V.ref (s.heap.objs.size + 1), H', I3, rfl, q3⟩⟩
    | next => exact False.elim hq'
    | brk => exact False.elim hq'
    | cont => exact False.elim hq'
theorem pe_make (M : Mk X.K C f) (F : FnOk X.prog X.w X.K X.mg X.base CX k f fd ps sp) (hr : Room (k + 1) X.A) (hg : Gl X x) (hm : X.mg x = some (.ref C)) (hb : Binds X.K fd ps ds) (hd : Vals dvs ds) (hx : Passes CX X E)
    (ha : PA X (e :: es) t) (hdb : (x == ("__debug__" : Str)) = false := by decide) (he : starEach (e :: es) X.env = (false, eval e X.env) :: starEach es X.env := by rfl) (hpl : (backTo pos (starEach es X.env)).any (·.1) = false := by rfl) :
    PE X (.Call (.Name x p) (e :: es) [] pos) (tMake C sp dvs E t) := by
  intro pins s σ H Q I h
  refine wpAny_Call_Name_kw (ld_glob I hg hm ?_ hdb)
  refine PySem.W.callWith_K (h₀ := X.base) I.ok.mod.kin M.kp (thn (ha pos pins s σ H _ I h) fun us s1 ⟨vs, H1, I1, r, q⟩ => ⟨I1.kIn, ?_⟩) he hpl
  exact run_make M F hr hb hd hx I1 r q
theorem pe_make0 (M : Mk X.K C f) (F : FnOk X.prog X.w X.K X.mg X.base CX k f fd ps sp) (hr : Room (k + 1) X.A) (hg : Gl X x) (hm : X.mg x = some (.ref C)) (hb : Binds X.K fd ps ds) (hd : Vals dvs ds) (hx : Passes CX X E)
    (hdb : (x == ("__debug__" : Str)) = false := by decide) : PE X (.Call (.Name x p) [] [] pos) (tMake C sp dvs E tNil) := by
  intro pins s σ H Q I h
  refine wpAny_Call_Name_kw (ld_glob I hg hm ?_ hdb)
  exact PySem.W.callWith_K0 I.kIn M.kp (run_make (us := []) M F hr hb hd hx I .nil h)
end

/-! ### keywords -/
/-- the values of the keywords, from the left -/
def PK (X : Cx) (kws : List Keyword) (t : TA) : Prop :=
  ∀ (pos : Pos) (pins : List (Addr × Obj)) (s : Shared) (σ : St) (H : Hp) (Q : List V → Hp → Prop), Inv X pins σ H s → t σ H Q → wpAny (model X.prog X.w) X.A (evalAll ((backToKw pos (keywordEach kws X.env)).map (·.2))) (AP X pins σ Q) X.xe s
section
variable {X : Cx} {CX : CXT} {k : Nat} {f C : Addr} {fd : FuncData} {ps ks : List Str} {sp : Sp} {E : XK} {x m : Str} {p pos apos kpos : Pos} {e o : Expr} {es : List Expr} {kws : List Keyword} {te ta : TE} {t tk : TA} {nm : Option Str}
theorem pk_nil : PK X [] tNil := fun _ _ _ _ H Q I h => wpAny_evalAll_nil ⟨[], H, I, .nil, h⟩
theorem pk_cons (ha : PE X e te) (hr : PK X kws t) : PK X (⟨nm, e, kpos⟩ :: kws) (tCons te t) := by
  intro pos pins s σ H Q I h
  show wpAny _ _ (evalAll ((do let v ← eval e X.env; standAt pos; pure v) :: (backToKw pos (keywordEach kws X.env)).map (·.2))) _ _ s
  refine wpAny_evalAll_cons (wpAny_bind (thn (ha pins s σ H _ I h) fun u s1 ⟨x, H1, I1, r1, q1⟩ => wpAny_bind (wpAny_standAt (wpAny_pure ?_))))
  exact thn (hr pos pins s1 σ H1 _ I1 q1) fun us s2 ⟨xs, H2, I2, r2, q2⟩ => ⟨x :: xs, H2, I2, .cons r1 r2, q2⟩

/-- how a call with keywords binds: g puts the positional values us and the keywords' values ws (names ks) in the parameters' order, defaults among them -/
structure KBinds (K : PySem.W.Frag) (fd : FuncData) (ps ks : List Str) (g : List Value → List Value → List Value) (gV : List V → List V → List V) : Prop where
  to : ∀ (s : Shared) (us ws : List Value), K.In s.heap → (g us ws).length = ps.length → BindsTo s fd ⟨us, ks.zip ws⟩ (ps.zip (g us ws))
  rel : ∀ {vs : List V} {us : List Value} {zs : List V} {ws : List Value}, Vals vs us → Vals zs ws → Vals (gV vs zs) (g us ws)
def tCallK (sp : Sp) (gV : List V → List V → List V) (E : XK) (t tk : TA) : TE := fun σ H Q => t σ H fun vs H1 => tk σ H1 fun zs H2 => sp (gV vs zs) H2 Q E
variable {g : List Value → List Value → List Value} {gV : List V → List V → List V}
theorem run_fnk {pins : List (Addr × Obj)} {σ : St} {H : Hp} {s : Shared} {Q : VK} {us ws : List Value} {vs zs : List V} (F : FnOk X.prog X.w X.K X.mg X.base CX k f fd ps sp) (hr : Room k X.A) (hb : KBinds X.K fd ps ks g gV) (hx : Passes CX X E)
    (I : Inv X pins σ H s) (r : Vals vs us) (rz : Vals zs ws) (h : sp (gV vs zs) H Q E) : wpAny (model X.prog X.w) X.A (call (.ref f) us (ks.zip ws)) (EP X pins σ Q) X.xe s := by
  have r2 := hb.rel r rz
  have hl : (g us ws).length = ps.length := by rw [← r2.length]; exact F.len _ _ _ _ h
  refine wpAny_call (codeAny_mono (F.run X.A X.stack s H ⟨us, ks.zip ws⟩ (g us ws) (gV vs zs) Q E hr I.env0 (hb.to s us ws I.kIn hl) r2 h) fun r s' hq => ?_)
  cases r with
  | error e => exact hx pins σ H s e s' I hq
  | ok fl =>
    cases fl with
    | ret u => exact I.after hq
    | next => exact False.elim hq
    | brk => exact False.elim hq
    | cont => exact False.elim hq
/-- f(e, .., k = v, ..) -/
theorem pe_callK (F : FnOk X.prog X.w X.K X.mg X.base CX k f fd ps sp) (hr : Room k X.A) (hg : Gl X x) (hm : X.mg x = some (.ref f)) (hk : PySem.W.keepIn X.K (.ref f) = true) (hb : KBinds X.K fd ps ks g gV) (hx : Passes CX X E)
    (ha : PA X (e :: es) t) (hkw : PK X kws tk) (hall : (backToKw pos (keywordEach kws X.env)).all (·.1.isSome) = true := by rfl) (hks : (backToKw pos (keywordEach kws X.env)).filterMap (·.1) = ks := by rfl)
    (hdb : (x == ("__debug__" : Str)) = false := by decide) (he : starEach (e :: es) X.env = (false, eval e X.env) :: starEach es X.env := by rfl)
    (hpl : ((backTo pos (starEach (e :: es) X.env)).any (·.1) || (backToKw pos (keywordEach kws X.env)).any (·.1.isNone)) = false := by rfl) :
    PE X (.Call (.Name x p) (e :: es) kws pos) (tCallK sp gV E t tk) := by
  intro pins s σ H Q I h
  refine wpAny_Call_Name_kw (ld_glob I hg hm ?_ hdb)
  refine PySem.W.callWith_KW (h₀ := X.base) I.ok.mod.kin hk hall (thn (ha pos pins s σ H _ I h) fun us s1 ⟨vs, H1, I1, r, q⟩ => ?_) hpl he
  refine thn (hkw pos pins s1 σ H1 _ I1 q) fun ws s2 ⟨zs, H2, I2, rz, q2⟩ => ⟨I2.kIn, ?_⟩
  rw [hks]
  exact run_fnk F hr hb hx I2 r rz q2
end

/-! ### a def's body keeps its promise -/
/-- names: the parameters first -/
structure FnScope (N P : List Str) (sc : Scope) : Prop where
  kind : sc.kind = .function
  co : sc.isCoroutine = false
  gen : sc.isGenerator = false
  nd : N.Nodup
  pre : N.take P.length = P
  par : ∀ x ∈ P, sc.names.lookup x = some .local ∨ sc.names.lookup x = some .cell
  nofree : ∀ y ∈ sc.names, y.2 ≠ .free

theorem bindL_out {kindOf : Str → Option NameKind} {x : Str} : ∀ {binds : List (Str × Value)} {m : Str → Option Value}, (∀ v, (x, v) ∉ binds) → bindL kindOf binds m x = m x
  | [], _, _ => rfl
  | (n, v) :: r, m, h => by
    unfold bindL
    rw [bindL_out fun w hw => h w (List.mem_cons_of_mem _ hw)]
    split
    · have : x ≠ n := by rintro rfl; exact h v List.mem_cons_self
      simp [this]
    · rfl
theorem bindC_out {kindOf : Str → Option NameKind} {x : Str} : ∀ {binds : List (Str × Value)} {m : Str → Option Value}, (∀ v, (x, v) ∉ binds) → bindC kindOf binds m x = m x
  | [], _, _ => rfl
  | (n, v) :: r, m, h => by
    unfold bindC
    rw [bindC_out fun w hw => h w (List.mem_cons_of_mem _ hw)]
    split
    · rfl
    · have : x ≠ n := by rintro rfl; exact h v List.mem_cons_self
      simp [this]
theorem bindL_get {kindOf : Str → Option NameKind} {x : Str} {v : Value} : ∀ {P : List Str} {vs : List Value} {i : Nat} {m : Str → Option Value}, P.Nodup → P[i]? = some x → vs[i]? = some v → kindOf x = some .local →
    bindL kindOf (P.zip vs) m x = some v
  | [], _, _, _, _, h, _, _ => by simp at h
  | _ :: _, [], _, _, _, _, h, _ => by simp at h
  | p :: P, w :: vs, 0, m, nd, h1, h2, hk => by
    simp at h1 h2; subst h1; subst h2
    show bindL kindOf ((p, w) :: P.zip vs) m p = _
    unfold bindL
    rw [bindL_out fun v hv => (List.nodup_cons.mp nd).1 (List.of_mem_zip hv).1, if_pos hk]
    simp
  | p :: P, w :: vs, i + 1, m, nd, h1, h2, hk => by
    show bindL kindOf ((p, w) :: P.zip vs) m x = _
    unfold bindL
    exact bindL_get (i := i) (List.nodup_cons.mp nd).2 (by simpa using h1) (by simpa using h2) hk
theorem bindC_get {kindOf : Str → Option NameKind} {x : Str} {v : Value} : ∀ {P : List Str} {vs : List Value} {i : Nat} {m : Str → Option Value}, P.Nodup → P[i]? = some x → vs[i]? = some v → kindOf x ≠ some .local →
    bindC kindOf (P.zip vs) m x = some v
  | [], _, _, _, _, h, _, _ => by simp at h
  | _ :: _, [], _, _, _, _, h, _ => by simp at h
  | p :: P, w :: vs, 0, m, nd, h1, h2, hk => by
    simp at h1 h2; subst h1; subst h2
    show bindC kindOf ((p, w) :: P.zip vs) m p = _
    unfold bindC
    rw [bindC_out fun v hv => (List.nodup_cons.mp nd).1 (List.of_mem_zip hv).1, if_neg hk]
    simp
  | p :: P, w :: vs, i + 1, m, nd, h1, h2, hk => by
    show bindC kindOf ((p, w) :: P.zip vs) m x = _
    unfold bindC
    exact bindC_get (i := i) (List.nodup_cons.mp nd).2 (by simpa using h1) (by simpa using h2) hk

/-- the names' values at the entry -/
def start (N : List Str) (vs : List V) : St := vs.map some ++ List.replicate (N.length - vs.length) none

/-- the context of a def's body, at its entry; an exception leaves the frame, then lies as CX says -/
def cxOf (CX : CXT) (P : Program) (w : World) (K : PySem.W.Frag) (mg : Str → Option Value) (base : Heap) (N : List Str) (qual : Str) (scope : Scope) (f : Addr) (cd : Value) (A : Around) (outer : List Env) (s : Shared) (H : Hp) (E : XK) : Cx where
  prog := P
  w := w
  K := K
  mg := mg
  base := base
  A := A.deeper (envOfC qual scope s.heap.objs.size f cd)
  N := N
  s₀ := s
  H₀ := H
  env := envOfC qual scope s.heap.objs.size f cd
  outer := outer
  stack := envOfC qual scope s.heap.objs.size f cd :: outer
  ex := []
  calm := true
  fn := fun _ => true
  pn := []
  xe := fun e s' => wpAny (model P w) (A.deeper (envOfC qual scope s.heap.objs.size f cd)) (leaving (envOfC qual scope s.heap.objs.size f cd) e) (fun _ s'' => CX outer H s E e s'') (fun e' s'' => CX outer H s E e' s'') s'

theorem cell_has {sc : Scope} {n : Nat} {x : Str} (h : sc.names.lookup x = some .cell) : ∃ c, (cellsFrom n sc.names []).lookup x = some c := by
  have q := PySem.W.cellsFrom_some sc.names n [] (.inl h)
  exact Option.isSome_iff_exists.mp q

theorem inv_start {CX : CXT} {P : Program} {w : World} {K : PySem.W.Frag} {mg : Str → Option Value} {base : Heap} {N ps : List Str} {qual : Str} {scope : Scope} {f : Addr} {cd : Value} {A : Around} {outer : List Env} {s s1 : Shared} {H : Hp} {E : XK} {us : List Value} {vs : List V}
    (S : FnScope N ps scope) (hd : A.handled = none) (e0 : Env0 P w K mg base A outer s H) (hl : vs.length = ps.length) (r : Vals vs us)
    (x : InCallC s s.heap.objs.size (bindL (envOfC qual scope s.heap.objs.size f cd).kindOf (ps.zip us) fun _ => none) (cellsFrom (s.heap.objs.size + 1) scope.names []) (bindC (envOfC qual scope s.heap.objs.size f cd).kindOf (ps.zip us) fun _ => none) s1) :
    Inv (cxOf CX P w K mg base N qual scope f cd A outer s H E) [] (start N vs) H s1 := by
  have hpl : ps.length ≤ N.length := by have := congrArg List.length S.pre; rw [List.length_take] at this; omega
  obtain ⟨h1, tk, rfl, hk⟩ := x.done
  have noA : ∀ b : Addr, b ∉ (cxOf CX P w K mg base N qual scope f cd A outer s H E).ex := fun b z => absurd (show b ∈ ([] : List Addr) from z) (by simp)
  refine ⟨⟨e0.mod, S.kind, rfl, rfl, Nat.le_refl _, fun y z c h1 h2 => ?_, fun y hy => ?_, fun y c _ h => ?_, fun _ => hd, Around.frames_deeper e0.frames, .inr ⟨rfl, rfl⟩, fun b z => absurd z (noA b), e0.bs, e0.bsz, fun b _ _ => noA b, fun b z => absurd z (noA b), e0.funs, e0.frf⟩,
    rfl, e0.bare, Un.kept hk, ⟨_, x.toInCall.ns, fun i y v h1 h2 h3 => ?_⟩, fun y c h => ⟨_, x.cell y c h⟩, e0.hok.fresh (Nat.le_refl _), fun y c h => ?_, fun p hp => absurd (show p ∈ ([] : List (Addr × Obj)) from hp) (by simp), e0.hok.kept hk, ?_⟩
  · exact name_of_addr x.apart (PySem.mem_of_lookup h1) (PySem.mem_of_lookup h2)
  · have hy : scope.names.lookup y = some .cell ∨ scope.names.lookup y = some .free := hy
    rcases hy with hy | hy
    · exact cell_has hy
    · exact absurd rfl (S.nofree _ (PySem.mem_of_lookup hy))
  · exact Nat.le_of_lt (x.above y c (PySem.mem_of_lookup h))
  · have hi : i < vs.length := by
      unfold start at h2
      by_cases hi : i < vs.length
      · exact hi
      · rw [List.getElem?_append_right (by simpa using hi)] at h2
        rw [List.getElem?_replicate] at h2
        split at h2 <;> cases h2
    have ha : vs[i]? = some v := by
      unfold start at h2
      rw [List.getElem?_append_left (by simpa using hi), List.getElem?_map] at h2
      cases e : vs[i]? with
      | none => rw [e] at h2; cases h2
      | some a => rw [e] at h2; cases h2; rfl
    obtain ⟨u, hu, rv⟩ := r.get ha
    have hp : ps[i]? = some y := by
      rw [← S.pre, List.getElem?_take_of_lt (by omega)]; exact h1
    have ndP : ps.Nodup := by rw [← S.pre]; exact S.nd.sublist (List.take_sublist _ _)
    refine ⟨u, rv, ?_⟩
    rcases S.par y (List.mem_of_getElem? hp) with k | k
    · exact .inl ⟨k, bindL_get ndP hp hu k⟩
    · obtain ⟨c, e⟩ := cell_has (n := s.heap.objs.size + 1) k
      refine .inr ⟨.inl k, c, e, ?_⟩
      have q := x.cell y c e
      rw [bindC_get ndP hp hu (by show scope.names.lookup y ≠ _; rw [k]; decide)] at q
      exact q
  · exact e0.hok.fresh (Nat.le_of_lt (x.above y c (PySem.mem_of_lookup h)))
  · unfold start
    show _ = N.length
    rw [List.length_append, List.length_map, List.length_replicate]
    omega

/-- THE RULE: a def (or a method) of the text, by its body. The body's reading t is chosen for each entry; it is run at the parameters' values -/
theorem fn_of {CX : CXT} {P : Program} {w : World} {K : PySem.W.Frag} {mg : Str → Option Value} {base : Heap} {k : Nat} {f : Addr} {name qual : Str} {params : Arguments} {body : List Stmt} {scope : Scope} {dV kV doc pm cdv ct oc : Value} {an od : Option Addr}
    {osl : Array (Option Value)} {N ps : List Str} {sp : Sp} (lk : K.lookup f = some ⟨oc, od, .func (PySem.W.fnOf name qual params body scope dV kV doc pm an cdv ct), osl⟩) (hcd : PySem.W.codeIn K cdv qual = true) (S : FnScope N ps scope)
    (len : ∀ vs H Q E, sp vs H Q E → vs.length = ps.length)
    (hbody : ∀ (A : Around) (outer : List Env) (s : Shared) (H : Hp) (vs : List V) (Q : VK) (E : XK), Room k (A.deeper (envOfC qual scope s.heap.objs.size f cdv)) → sp vs H Q E →
      ∃ t, PSs (cxOf CX P w K mg base N qual scope f cdv A outer s H E) body t ∧ t { nx := fun _ H' => Q .non H', rt := Q } (start N vs) H) :
    FnOk P w K mg base CX (k + 1) f (PySem.W.fnOf name qual params body scope dV kV doc pm an cdv ct) ps sp := by
  refine ⟨len, fun A outer s H args us vs Q E hr e0 hb r hsp => ?_⟩
  have hl := len _ _ _ _ hsp
  have KX : K.In s.heap := e0.mod.kin.keeps fun b o e => (e0.bs b o e).1
  have lim : s.heap.NoLimit := e0.mod.nolimit.keeps fun b o e => (e0.bs b o e).1
  have hkind : ∀ y ∈ ps.zip us, scope.names.lookup y.1 = some .local ∨ (scope.names.lookup y.1 = some .cell ∧ ((cellsFrom (s.heap.objs.size + 1) scope.names []).lookup y.1).isSome = true) := fun ⟨n, v⟩ hy => by
    rcases S.par n (List.of_mem_zip hy).1 with q | q
    · exact .inl q
    · exact .inr ⟨q, PySem.W.cellsFrom_some _ _ _ (.inl q)⟩
  refine codeAny_call_function hr.depth (KX _ _ lk) rfl S.co S.gen rfl (PySem.W.codeRec_of KX hcd) (hb _ _ _ _ ?_)
  refine wpAny_newFunctionEnv_cells S.kind hkind fun env he s1 x => ?_
  subst he
  refine ⟨lim.keeps x.toInCall.keep, codeAny_func ?_⟩
  obtain ⟨t, ht, hq⟩ := hbody A outer s H vs Q E (hr.deeper _) hsp
  have I : Inv (cxOf CX P w K mg base N qual scope f cdv A outer s H E) [] (start N vs) H s1 := inv_start S hr.hd e0 hl r x
  refine wpAny_mono (ht [] s1 (start N vs) H _ I hq) (fun fl s' hs => ?_) fun e s' hs => hs
  have fin : ∀ {σ' : St} {H' : Hp} {v : V} {u : Value}, Inv (cxOf CX P w K mg base N qual scope f cdv A outer s H E) [] σ' H' s' → RelV v u → Q v H' → CE outer P w H s Q u s' :=
    fun {σ' H' v u} J rv q => ⟨v, H', J.os, J.bare, J.base, J.hok, rv, q⟩
  cases fl with
  | ret u =>
    obtain ⟨v, σ', H', J, rv, q⟩ := hs
    exact fin J rv q
  | next =>
    obtain ⟨σ', H', J, q⟩ := hs
    exact fin (v := V.non) (u := Value.none) J rfl q
  | brk =>
    obtain ⟨_, _, _, q⟩ := hs
    exact False.elim q
  | cont =>
    obtain ⟨_, _, _, q⟩ := hs
    exact False.elim q
end L2

namespace L2
open PySem PySem.Spec PyProof.Rows
section
variable {X : Cx} {x : Str} {p pos : Pos} {e : Expr} {es : List Expr} {t : TA} {id T : String} {r : List V → Hp → VK → Prop}

def tCB (r : List V → Hp → VK → Prop) (t : TA) : TE := fun σ H Q => t σ H fun vs H1 => r vs H1 Q
/-- f(e, ..), f a built-in function -/
theorem pe_callB (hc : CallR X (.builtin id) r) (hg : Gl X x) (hm : X.mg x = none) (hv : bootBuiltins x = some (.builtin id)) (ha : PA X (e :: es) t) (hn : x ≠ "__name__" := by decide) (hdb : (x == ("__debug__" : Str)) = false := by decide)
    (he : starEach (e :: es) X.env = (false, eval e X.env) :: starEach es X.env := by rfl) (hpl : (backTo pos (starEach es X.env)).any (·.1) = false := by rfl) : PE X (.Call (.Name x p) (e :: es) [] pos) (tCB r t) := by
  intro pins s σ H Q I h
  refine wpAny_Call_Name_kw (ld_blt I hg hm hv ?_ hn hdb)
  exact PyProof.Rows.callWith_builtin1 (thn (ha pos pins s σ H _ I h) fun us s1 ⟨vs, H1, I1, r1, q1⟩ => hc pins s1 σ H1 vs us Q I1 r1 q1) he hpl
/-- T(e, ..), T a built-in type -/
theorem pe_callTy (hc : CallR X (.type T) r) (hg : Gl X x) (hm : X.mg x = none) (hv : bootBuiltins x = some (.type T)) (ha : PA X (e :: es) t) (hn : x ≠ "__name__" := by decide) (hdb : (x == ("__debug__" : Str)) = false := by decide)
    (he : starEach (e :: es) X.env = (false, eval e X.env) :: starEach es X.env := by rfl) (hpl : (backTo pos (starEach es X.env)).any (·.1) = false := by rfl) : PE X (.Call (.Name x p) (e :: es) [] pos) (tCB r t) := by
  intro pins s σ H Q I h
  refine wpAny_Call_Name_kw (ld_blt I hg hm hv ?_ hn hdb)
  exact PyProof.Rows.callWith_type1 (thn (ha pos pins s σ H _ I h) fun us s1 ⟨vs, H1, I1, r1, q1⟩ => hc pins s1 σ H1 vs us Q I1 r1 q1) he hpl
/-- T() -/
theorem pe_callTy0 (hc : CallR X (.type T) r) (hg : Gl X x) (hm : X.mg x = none) (hv : bootBuiltins x = some (.type T)) (hn : x ≠ "__name__" := by decide) (hdb : (x == ("__debug__" : Str)) = false := by decide) :
    PE X (.Call (.Name x p) [] [] pos) (tCB r tNil) := by
  intro pins s σ H Q I h
  refine wpAny_Call_Name_kw (ld_blt I hg hm hv ?_ hn hdb)
  exact PyProof.Rows.callWith_type0 (hc pins s σ H [] [] Q I .nil h)
end
end L2

namespace HT
open PySem PyProof.Rows

/-- t < u of tuples of ints -/
def lexLt : List Int → List Int → Bool
  | [], [] => false
  | [], _ :: _ => true
  | _ :: _, [] => false
  | x :: xs, y :: ys => if x = y then lexLt xs ys else decide (x < y)
theorem lexLt_cons (x y : Int) (xs ys : List Int) : lexLt (x :: xs) (y :: ys) = if x = y then lexLt xs ys else decide (x < y) := rfl
theorem lexLt_nil_nil : lexLt [] [] = false := rfl
theorem lexLt_nil_cons (y : Int) (ys : List Int) : lexLt [] (y :: ys) = true := rfl
theorem lexLt_cons_nil (x : Int) (xs : List Int) : lexLt (x :: xs) [] = false := rfl

theorem eqAt_int (A : Around) (s : Shared) (a : Int) (t : Tok) (c : Int) (u : Tok) : ∃ e, SeqAt.EqAt A s (.int a t) (.int c u) e ∧ (e = true ↔ a = c) :=
  ⟨(a == c), SeqAt.EqAt.int_int a t c u, by simp⟩
theorem rcLt_int (A : Around) (s : Shared) (a : Int) (t : Tok) (c : Int) (u : Tok) (prog : Program) (w : World) (E : Value → Shared → Prop) (Q : Value → Shared → Prop) (h : Q (.bool (decide (a < c))) s) :
    wpAny (model prog w) A (richCompare .Lt (.int a t) (.int c u)) Q E s :=
  (PyProof.Rows.lt_int h : wpAny (model prog w) A (compareOp .Lt (.int a t) (.int c u)) Q E s)

section
open PySem.SeqAt
open PySem.AutoSeq1 (wpAny_loadPart')
open PySem.MeetsSeq PySem.MeetsSeq2 PySem.MeetsSeq3

theorem tuple_lt_ints (l b : Addr) (items items2 : Array Value) (n n2 : Nat) (dd dd2 : Option Addr) (sl sl2 : Array (Option Value)) (ns ms : List Int) (hi : IntsAre items.toList ns) (hj : IntsAre items2.toList ms) :
    Meets (Builtin.«tuple.__lt__» ⟨[.ref l, .ref b], []⟩)
      (fun _ R s => s.heap.get? l = some { cls := .type "tuple", dict := dd, data := .seq items n, slots := sl } ∧ s.heap.get? b = some { cls := .type "tuple", dict := dd2, data := .seq items2 n2, slots := sl2 } ∧
        R (.ok (.ret (.bool (lexLt ns ms)))) s) :=
  .of_wp fun prog w A R s h => by
    obtain ⟨hp, g, d, tk, os⟩ := s; obtain ⟨hl, hb, h⟩ := h
    have f2 := AutoSeq1.sub_tuple_tuple
    have z1 : items.size = ns.length := by rw [← hi.length]; simp
    have z2 : items2.size = ms.length := by rw [← hj.length]; simp
    wp_walk using wpAny_loadPart' hl, wpAny_loadPart' hb, wpAny_forIn_list _ (fun rest b s' => b.1 = none ∧ s' = ⟨hp, g, d, tk, os⟩ ∧ ∃ (vs ws : List Value) (ns' ms' : List Int), rest = vs.zip ws ∧
      IntsAre vs ns' ∧ IntsAre ws ms' ∧ ns'.length + items2.size = ms'.length + items.size ∧ R (.ok (.ret (.bool (lexLt ns' ms')))) ⟨hp, g, d, tk, os⟩) _
    case turn =>
      rintro ⟨y, x⟩ rest b s' ⟨hb', rfl, vs, ws, ns', ms', hz, hvi, hwi, hlen, hR⟩
      cases hvi with
      | nil => rw [List.zip_nil_left] at hz; cases hz
      | cons a t hvi' =>
        cases hwi with
        | nil => rw [List.zip_nil_right] at hz; cases hz
        | cons c u hwi' =>
          rw [List.zip_cons_cons] at hz
          injection hz with hyx hrest
          injection hyx with hy hx
          subst hy hx
          rw [lexLt_cons] at hR
          simp only [List.length_cons] at hlen
          obtain ⟨e, he, hiff⟩ := eqAt_int A.in1 ⟨hp, g, d, tk, os⟩ a t c u
          refine wpAny_bind (he prog w _ _ ?_)
          cases e with
          | true =>
            rw [if_pos (hiff.mp rfl)] at hR
            wp_walk
            exact ⟨rfl, rfl, _, _, _, _, hrest, hvi', hwi', by omega, hR⟩
          | false =>
            rw [if_neg (fun q => absurd (hiff.mpr q) Bool.false_ne_true)] at hR
            have hri := rcLt_int A.in1 ⟨hp, g, d, tk, os⟩ a t c u prog w
            wp_walk using hri
            exact ⟨_, rfl, by simpa using hR⟩
    case fin =>
      rintro ⟨b1, b2⟩ s' ⟨hb', rfl, vs, ws, ns', ms', hz, hvi, hwi, hlen, hR⟩
      simp only at hb'
      subst hb'
      have hv : lexLt ns' ms' = decide (items.size < items2.size) := by
        cases hvi with
        | nil =>
          cases hwi with
          | nil =>
            simp only [List.length_nil] at hlen
            rw [lexLt_nil_nil]
            exact (decide_eq_false (by omega)).symm
          | cons c u hw =>
            simp only [List.length_nil, List.length_cons] at hlen
            rw [lexLt_nil_cons]
            exact (decide_eq_true (by omega)).symm
        | cons a t hv =>
          cases hwi with
          | nil =>
            simp only [List.length_nil, List.length_cons] at hlen
            rw [lexLt_cons_nil]
            exact (decide_eq_false (by omega)).symm
          | cons c u hw =>
            rw [List.zip_cons_cons] at hz
            cases hz
      rw [hv] at hR
      wp_walk
      exact ⟨_, rfl, by simpa [Builtin.Tuple.tupleCompareSizes] using hR⟩
    case h =>
      exact ⟨rfl, rfl, items.toList, items2.toList, ns, ms, rfl, hi, hj, by omega, h⟩
end

section
variable {prog : Program} {w : World} {A : Around} {E : Value → Shared → Prop} {s : Shared}

theorem lt_tupInts {l b : Addr} {items items2 : Array Value} {ns ms : List Int} {Q : Value → Shared → Prop} (hl : IsTup s.heap l items) (hb : IsTup s.heap b items2) (hi : IntsAre items.toList ns) (hj : IntsAre items2.toList ms)
    (hu : A.units < cLine) (h : Q (.bool (lexLt ns ms)) s) : wpAny (model prog w) A (compareOp .Lt (.ref l) (.ref b)) Q E s := by
  obtain ⟨⟨cls, dd, data, sl⟩, ho, hc, n, hd⟩ := id hl
  obtain ⟨⟨cls2, dd2, data2, sl2⟩, ho2, hc2, n2, hd2⟩ := id hb
  simp only at hc hd hc2 hd2
  subst hc hd hc2 hd2
  exact richCompare_meets_room (op := .Lt) ⟨_, ho, rfl⟩ ⟨_, ho2, rfl⟩ PySem.F.slot_tuple_lt PySem.F.entry_tuple_lt (PySem.F.args_tuple_lt_2 _ _) (tuple_lt_ints l b items items2 n n2 dd dd2 sl sl2 ns ms hi hj)
    ⟨ho, ho2, show Value.bool (lexLt ns ms) ≠ Value.notImplemented ∧ Q (.bool (lexLt ns ms)) s from ⟨(fun x => nomatch x), h⟩⟩ hu

/-- t + u, t not empty -/
theorem cat_tup {t b : Addr} {vs ws : List Value} {Q : Value → Shared → Prop} (ht : IsTup s.heap t vs.toArray) (hb : IsTup s.heap b ws.toArray) (hv : vs ≠ [])
    (h1 : ws = [] → Q (.ref t) s) (h2 : ws ≠ [] → Q (.ref s.heap.objs.size) { s with heap := s.heap.push { cls := .type "tuple", data := .seq (vs ++ ws).toArray } })
    (hsz : vs.length + ws.length ≤ sizeLine) : wpAny (model prog w) A (binaryOp .Add (.ref t) (.ref b)) Q E s := by
  obtain ⟨⟨cls, dd, data, sl⟩, ho, hc, n, hd⟩ := id ht
  obtain ⟨⟨cls2, dd2, data2, sl2⟩, ho2, hc2, n2, hd2⟩ := id hb
  simp only at hc hd hc2 hd2
  subst hc hd hc2 hd2
  have e : vs.toArray ++ ws.toArray = (vs ++ ws).toArray := by simp
  by_cases hw : ws = []
  · exact concat_meets ⟨_, ho, rfl⟩ ⟨_, ho2, rfl⟩ noFill_tuple_add seq_tuple_add PySem.F.slot_tuple_add PySem.F.entry_tuple_add (PySem.F.args_tuple_add_2 _ _)
      (tuple_addW1 t b vs.toArray ws.toArray n n2 dd dd2 sl sl2 (by simpa using hv) (by simp [hw])) ⟨ho, ho2, h1 hw⟩
  · refine concat_meets ⟨_, ho, rfl⟩ ⟨_, ho2, rfl⟩ noFill_tuple_add seq_tuple_add PySem.F.slot_tuple_add PySem.F.entry_tuple_add (PySem.F.args_tuple_add_2 _ _)
      (tuple_addW2 t b vs.toArray ws.toArray n n2 dd dd2 sl sl2 (by simpa using hv) (by simpa using hw) (by rw [List.size_toArray, List.size_toArray]; exact hsz)) ⟨ho, ho2, ?_⟩
    rw [e]
    exact h2 hw

/-! ### t[a:b], not the whole -/
/-- a slice's bound as a place among n (d where it is left out) -/
def sIx (n d : Nat) : Option Int → Nat
  | none => d
  | some v => if v < 0 then (v + (n : Int)).toNat else min v.toNat n
theorem sIx_none (n d : Nat) : sIx n d none = d := rfl
theorem sIx_nat (n d k : Nat) : sIx n d (some (k : Int)) = min k n := by
  show (if (k : Int) < 0 then ((k : Int) + (n : Int)).toNat else min (k : Int).toNat n) = min k n
  rw [if_neg (by omega), Int.toNat_natCast]
theorem sIx_le (n d : Nat) (hd : d ≤ n) (o : Option Int) : sIx n d o ≤ n := by
  cases o with
  | none => exact hd
  | some v =>
    show (if v < 0 then (v + (n : Int)).toNat else min v.toNat n) ≤ n
    by_cases hv : v < 0
    · rw [if_pos hv]; omega
    · rw [if_neg hv]; exact Nat.min_le_right _ _
theorem clip_eq (v : Int) (n d : Nat) : (if v < 0 then max (v + (n : Int)) 0 else min v (n : Int)) = ((sIx n d (some v) : Nat) : Int) := by
  show (if v < 0 then max (v + (n : Int)) 0 else min v (n : Int)) = (((if v < 0 then (v + (n : Int)).toNat else min v.toNat n) : Nat) : Int)
  by_cases hv : v < 0
  · simp only [if_pos hv]; omega
  · simp only [if_neg hv]; omega
theorem adjust_gen (lo hi : Option Int) (n : Nat) : Builtin.Slice.sliceAdjust lo hi 1 (n : Int) = (((sIx n 0 lo : Nat) : Int), ((sIx n n hi : Nat) : Int)) := by
  have h1 : ¬ ((1 : Int) < 0) := by omega
  unfold Builtin.Slice.sliceAdjust
  simp only [h1, if_false]
  refine Prod.ext ?_ ?_
  · cases lo with
    | none => rfl
    | some v => exact clip_eq v n 0
  · cases hi with
    | none => rfl
    | some v => exact clip_eq v n n
theorem places_gen (i j : Nat) : Builtin.Slice.slicePlaces (i : Int) (j : Int) 1 = j - i := by
  unfold Builtin.Slice.slicePlaces
  have h1 : (1 : Int) > 0 := by omega
  simp only [h1, if_true, Int.ediv_one]
  split <;> omega
theorem slicePart_ {v : Value} {o : Option Int} {Q : Option Int → Shared → Prop} (p : IsPart v o) (h : Q o s) : wpAny (model prog w) A (Builtin.Slice.slicePartIndex v) Q E s := by
  cases p with
  | none => exact slicePart_none h
  | int i t => exact slicePart_int h
theorem sliceApplied_gen {sl : Addr} {vl vu : Value} {lo hi : Option Int} {n : Nat} {Q : Int × Int × Nat → Shared → Prop} (hs : s.heap.IsSliceOf sl vl vu .none) (pl : IsPart vl lo) (pu : IsPart vu hi)
    (h : Q (((sIx n 0 lo : Nat) : Int), 1, sIx n n hi - sIx n 0 lo) s) : wpAny (model prog w) A (Builtin.Slice.sliceApplied (.ref sl) (pure (n : Int))) Q E s := by
  obtain ⟨os, hos, hcs, hds⟩ := id hs
  unfold Builtin.Slice.sliceApplied Builtin.Slice.sliceFields
  refine wpAny_bind (wpAny_bind (wpAny_field hos hds (x := vl) rfl (wpAny_bind (wpAny_field hos hds (x := vu) rfl (wpAny_bind (wpAny_field hos hds (x := .none) rfl (wpAny_pure ?_)))))))
  refine wpAny_bind (slicePart_none ?_)
  show wpAny _ _ (if ((1 : Int) == 0) = true then _ else _) _ _ s
  rw [if_neg (by decide)]
  refine wpAny_bind (slicePart_ pl (wpAny_bind (slicePart_ pu (wpAny_bind (wpAny_pure ?_)))))
  show wpAny _ _ (match Builtin.Slice.sliceAdjust lo hi 1 (n : Int) with | (lo, hi) => pure (lo, (1 : Int), Builtin.Slice.slicePlaces lo hi 1)) _ _ s
  rw [adjust_gen lo hi n]
  show wpAny _ _ (pure (((sIx n 0 lo : Nat) : Int), (1 : Int), Builtin.Slice.slicePlaces ((sIx n 0 lo : Nat) : Int) ((sIx n n hi : Nat) : Int) 1)) _ _ s
  rw [places_gen]
  exact wpAny_pure h
theorem pick_gen (xs : Array Value) (i k : Nat) : ((List.range k).filterMap fun (m : Nat) => xs[((i : Int) + (m : Int) * 1).toNat]?).toArray = ((xs.toList.drop i).take k).toArray := by
  have e : (fun (m : Nat) => xs[((i : Int) + (m : Int) * 1).toNat]?) = fun m => xs[i + m]? := by
    funext m
    have : ((i : Int) + (m : Int) * 1).toNat = i + m := by omega
    rw [this]
  rw [e]
  have := pick_run xs i k
  rw [List.filterMap_map] at this
  have e2 : ((fun x => xs[x]?) ∘ fun x => i + x) = fun m => xs[i + m]? := rfl
  rw [e2] at this
  rw [this]

theorem getItem_tuple_cut {t sl : Addr} {items : Array Value} {vl vu : Value} {lo hi : Option Int} {Q : Value → Shared → Prop} (ht : IsTup s.heap t items) (hs : s.heap.IsSliceOf sl vl vu .none) (pl : IsPart vl lo) (pu : IsPart vu hi)
    (hw : ¬ (sIx items.size 0 lo = 0 ∧ sIx items.size items.size hi = items.size))
    (h : Q (.ref s.heap.objs.size) { s with heap := s.heap.push { cls := .type "tuple", data := .seq ((items.toList.drop (sIx items.size 0 lo)).take (sIx items.size items.size hi - sIx items.size 0 lo)).toArray } })
    (hsz : items.size ≤ sizeLine) : wpAny (model prog w) A (getItem (.ref t) (.ref sl)) Q E s := by
  have htake : sizeOk (.seq ((items.toList.drop (sIx items.size 0 lo)).take (sIx items.size items.size hi - sIx items.size 0 lo)).toArray) := by
    show ((items.toList.drop (sIx items.size 0 lo)).take (sIx items.size items.size hi - sIx items.size 0 lo)).toArray.size ≤ sizeLine
    rw [List.size_toArray, List.length_take, List.length_drop, Array.length_toList]
    omega
  have hj : sIx items.size items.size hi ≤ items.size := sIx_le _ _ (Nat.le_refl _) hi
  obtain ⟨os, hos, hcs, hds⟩ := id hs
  have hTs : s.TypeIs (.ref sl) "slice" := ⟨os, hos, hcs⟩
  unfold getItem
  try with_reducible refine wpAny_holding ?_
  first | refine wpAny_bind (wpAny_pure ?_) | skip
  refine wpAny_bind (wpAny_sequenceKey ht.typeIs (by decide) ?_)
  refine wpAny_bind (wpAny_callSpecial?_slot (name := Str.ofString "__getitem__") ht.typeIs PyProof.Rows.slot_tuple_getitem
    (wpAny_call_entry PyProof.Rows.slot_tuple_getitem ht.typeIs entry_tuple_getitem ?_ (args_tuple_getitem _ _)))
  show wpAny _ _ (Builtin.Tuple.tupleItemsOf (.ref t) >>= _) _ _ s
  refine wpAny_bind (tupleItemsOf_ ht ?_)
  refine wpAny_bind (wpAny_typeOf hTs ?_)
  rw [if_pos (by decide)]
  refine wpAny_bind (sliceApplied_gen hs pl pu ?_)
  have hno : ¬ ((((sIx items.size 0 lo : Nat) : Int) == 0 && (1 : Int) == 1 && (sIx items.size items.size hi - sIx items.size 0 lo) == items.size) = true) := by
    intro q
    rw [Bool.and_eq_true, Bool.and_eq_true] at q
    have q1 : ((sIx items.size 0 lo : Nat) : Int) = 0 := eq_of_beq q.1.1
    have q2 : sIx items.size items.size hi - sIx items.size 0 lo = items.size := eq_of_beq q.2
    exact hw ⟨by omega, by omega⟩
  show wpAny _ _ (if (((sIx items.size 0 lo : Nat) : Int) == 0 && (1 : Int) == 1 && (sIx items.size items.size hi - sIx items.size 0 lo) == items.size) = true then _ else _) _ _ s
  rw [if_neg hno, pick_gen]
  first
    | exact wpAny_bind (m := Builtin.Tuple.tupleExact _) (wpAny_newObj_type (wpAny_pure ⟨_, rfl, wpAny_pure h⟩) htake)
    | exact wpAny_bind (m := Builtin.Tuple.tupleExact _) (wpAny_newObj_type (wpAny_bind (wpAny_pure (wpAny_pure ⟨_, rfl, wpAny_pure h⟩))) htake)
    | exact wpAny_bind (wpAny_bind (m := Builtin.Tuple.tupleExact _) (wpAny_newObj_type (wpAny_pure (wpAny_pure ⟨_, rfl, wpAny_pure h⟩)) htake))
    | exact wpAny_bind (wpAny_bind (m := Builtin.Tuple.tupleExact _) (wpAny_newObj_type (wpAny_pure ⟨_, rfl, wpAny_pure h⟩) htake))
end
end HT

namespace L2
open PySem PySem.Spec PyProof.Rows

/-! ### the parts of a slice -/
abbrev TO := St → Hp → (Option Int → Hp → Prop) → Prop
/-- a slice's part (left out, or an int) -/
def PO (X : Cx) (e : Option Expr) (t : TO) : Prop :=
  ∀ (pins : List (Addr × Obj)) (s : Shared) (σ : St) (H : Hp) (Q : Option Int → Hp → Prop), Inv X pins σ H s → t σ H Q →
    wpAny (model X.prog X.w) X.A (evalPart e X.env) (fun u s' => ∃ o H', Inv X pins σ H' s' ∧ IsPart u o ∧ Q o H') X.xe s
def tNoPart : TO := fun _ H Q => Q none H
def tPart (t : TE) : TO := fun σ H Q => t σ H fun x H1 => ∃ i, x = .int i ∧ Q (some i) H1

theorem intsAre_of {ns : List Int} : ∀ {us : List Value}, Vals (ns.map V.int) us → IntsAre us ns := by
  induction ns with
  | nil => intro us r; rw [List.map_nil] at r; cases r; exact .nil
  | cons n ns ih =>
    intro us r
    rw [List.map_cons] at r
    cases r with
    | cons r1 r2 =>
      obtain ⟨t, e⟩ := r1
      subst e
      exact .cons n t (ih r2)

section
variable {X : Cx} {e : Expr} {te : TE} {lo hi : Option Expr} {tl th : TO} {pos p2 : Pos}

theorem po_none : PO X none tNoPart := by
  intro pins s σ H Q I h
  rw [evalPart_none]
  exact wpAny_pure ⟨none, H, I, .none, h⟩
theorem po_some (h : PE X e te) : PO X (some e) (tPart te) := by
  intro pins s σ H Q I hw
  rw [evalPart_some]
  refine thn (h pins s σ H _ I hw) fun u s1 ⟨x, H1, I1, r1, q1⟩ => ?_
  obtain ⟨i, rfl, q⟩ := q1
  obtain ⟨t, rfl⟩ := r1
  exact ⟨some i, H1, I1, .int i t, q⟩

/-- what a slice of a value is, by values: the slice object stands at sl -/
def SlR (X : Cx) (r : V → Option Int → Option Int → Hp → VK → Prop) : Prop :=
  ∀ (pins : List (Addr × Obj)) (s : Shared) (σ : St) (H : Hp) (x : V) (v vl vu : Value) (lo hi : Option Int) (sl : Addr) (Q : VK), Inv X pins σ H s → RelV x v → s.heap.IsSliceOf sl vl vu .none → IsPart vl lo → IsPart vu hi → r x lo hi H Q →
    ∃ T id, typeLookup (.type T) "__getitem__" = pure (some (.builtin id)) ∧ s.TypeIs v T ∧ wpAny (model X.prog X.w) X.A (getItem v (.ref sl)) (EP X pins σ Q) X.xe s
theorem SlR.or {r r' : V → Option Int → Option Int → Hp → VK → Prop} (h : SlR X r) (h' : SlR X r') : SlR X (fun x lo hi H Q => r x lo hi H Q ∨ r' x lo hi H Q) := by
  intro pins s σ H x v vl vu lo hi sl Q I rx hs pl pu q
  rcases q with q | q
  · exact h pins s σ H x v vl vu lo hi sl Q I rx hs pl pu q
  · exact h' pins s σ H x v vl vu lo hi sl Q I rx hs pl pu q
def tSl (r : V → Option Int → Option Int → Hp → VK → Prop) (te : TE) (tl th : TO) : TE := fun σ H Q => te σ H fun x H1 => tl σ H1 fun l H2 => th σ H2 fun u H3 => r x l u H3 Q
/-- a[lo:hi], any a -/
theorem pe_slice {r : V → Option Int → Option Int → Hp → VK → Prop} (hr : SlR X r) (he : PE X e te) (hl : PO X lo tl) (hu : PO X hi th) : PE X (.Subscript e (.Slice lo hi none p2) pos) (tSl r te tl th) := by
  intro pins s σ H Q I h
  refine Subscript_ (thn (he pins s σ H _ I h) fun v s1 ⟨x, H1, I1, r1, q1⟩ => ?_)
  refine wpAny_Slice (thn (hl pins s1 σ H1 _ I1 q1) fun vl s2 ⟨l, H2, I2, pl, q2⟩ => thn (hu pins s2 σ H2 _ I2 q2) fun vu s3 ⟨u, H3, I3, pu, q3⟩ => ?_)
  rw [evalPart_none]
  refine wpAny_pure ?_
  have I4 : Inv X pins σ H3 { s3 with heap := s3.heap.push { cls := .type "slice", data := .fields #[vl, vu, .none] } } := I3.kept (t' := s3.toks) fun b ob q => Heap.get?_push_of_some _ q
  obtain ⟨T, id, hT, ht, hg⟩ := hr pins { s3 with heap := s3.heap.push { cls := .type "slice", data := .fields #[vl, vu, .none] } } σ H3 x v vl vu l u s3.heap.objs.size Q I4 r1 (Heap.IsSliceOf.new ..) pl pu q3
  show wpAny (model X.prog X.w) X.A (subscriptTail e (.Slice lo hi none p2) v (.ref s3.heap.objs.size)) (EP X pins σ Q) X.xe { s3 with heap := s3.heap.push { cls := .type "slice", data := .fields #[vl, vu, .none] } }
  exact tail_any (ops := [.ref s3.heap.objs.size, v]) ht hT hg (by with_unfolding_all rfl)

/-- the items of xs[lo:hi] -/
def cutV (xs : List V) (lo hi : Option Int) : List V := (xs.drop (HT.sIx xs.length 0 lo)).take (HT.sIx xs.length xs.length hi - HT.sIx xs.length 0 lo)
theorem cutV_length (xs : List V) (lo hi : Option Int) : (cutV xs lo hi).length ≤ xs.length := by
  unfold cutV
  rw [List.length_take, List.length_drop]
  omega
/-- t[lo:hi], not the whole of it (the whole would be t itself) -/
def rSlT (K : PySem.W.Frag) : V → Option Int → Option Int → Hp → VK → Prop := fun x lo hi H Q => ∃ a xs, x = .ref a ∧ SqT K H a xs ∧
  ¬ (HT.sIx xs.length 0 lo = 0 ∧ HT.sIx xs.length xs.length hi = xs.length) ∧ ∀ p, H p = none → Q (.ref p) (upd H p (.tup (cutV xs lo hi)))
theorem sl_tup : SlR X (rSlT X.K) := by
  intro pins s σ H x v vl vu lo hi sl Q I rx hs pl pu h
  obtain ⟨a, xs, rfl, hx, hw, q⟩ := h
  cases rx
  obtain ⟨its, r, ht, hz⟩ := I.tuple hx
  have hlen : its.toArray.size = xs.length := by rw [List.size_toArray]; exact r.length.symm
  refine ⟨"tuple", _, PyProof.Rows.slot_tuple_getitem.lookup, ht.typeIs, ?_⟩
  refine HT.getItem_tuple_cut ht hs pl pu (by rw [hlen]; exact hw) ?_ (by rw [hlen]; exact hz)
  rw [hlen]
  refine ⟨.ref s.heap.objs.size, _, I.laid (t' := s.toks) (o := .tup (cutV xs lo hi)) (fun b ob q => Heap.get?_push_of_some _ q) (Nat.le_refl _) ?_, rfl, q _ (I.hok.fresh (Nat.le_refl _))⟩
  exact ⟨Nat.le_trans (cutV_length xs lo hi) hz, _, (r.drop (HT.sIx xs.length 0 lo)).take (HT.sIx xs.length xs.length hi - HT.sIx xs.length 0 lo), IsTup.new _ _⟩

/-! ### t < u, t + u -/
def rLtT (K : PySem.W.Frag) : R2 := fun x y H Q => ∃ a b ns ms, x = .ref a ∧ y = .ref b ∧ SqT K H a (ns.map V.int) ∧ SqT K H b (ms.map V.int) ∧ Q (.bl (HT.lexLt ns ms)) H
theorem op_ltT (hu : X.A.units < cLine) : OpR X (compareOp .Lt) (rLtT X.K) := by
  intro pins s σ H x y v u Q I rx ry h
  obtain ⟨a, b, ns, ms, rfl, rfl, ha, hb, q⟩ := h
  cases rx
  cases ry
  obtain ⟨its, r1, p1, _⟩ := I.tuple ha
  obtain ⟨its2, r2, p2, _⟩ := I.tuple hb
  have i1 : IntsAre its.toArray.toList ns := intsAre_of r1
  have i2 : IntsAre its2.toArray.toList ms := intsAre_of r2
  exact HT.lt_tupInts p1 p2 i1 i2 hu ⟨.bl (HT.lexLt ns ms), H, I, rfl, q⟩
/-- t + u, t not empty: u empty gives t itself -/
def rCatT (K : PySem.W.Frag) : R2 := fun x y H Q => ∃ a b xs ys, x = .ref a ∧ y = .ref b ∧ SqT K H a xs ∧ SqT K H b ys ∧ xs ≠ [] ∧ xs.length + ys.length ≤ sizeLine ∧
  (ys = [] → Q (.ref a) H) ∧ (ys ≠ [] → ∀ p, H p = none → Q (.ref p) (upd H p (.tup (xs ++ ys))))
theorem Vals.nil_iff {xs : List V} {us : List Value} (r : Vals xs us) : us = [] ↔ xs = [] := by
  cases r with
  | nil => simp
  | cons _ _ => simp
theorem op_catT : OpR X (binaryOp .Add) (rCatT X.K) := by
  intro pins s σ H x y v u Q I rx ry h
  obtain ⟨a, b, xs, ys, rfl, rfl, ha, hb, hx, hz, q1, q2⟩ := h
  cases rx
  cases ry
  obtain ⟨its, r1, p1, _⟩ := I.tuple ha
  obtain ⟨its2, r2, p2, _⟩ := I.tuple hb
  refine HT.cat_tup p1 p2 (fun z => hx (r1.nil_iff.mp z)) (fun z => ⟨.ref a, H, I, rfl, q1 (r2.nil_iff.mp z)⟩) (fun z => ?_) (by rw [← r1.length, ← r2.length]; exact hz)
  refine ⟨.ref s.heap.objs.size, _, I.laid (t' := s.toks) (o := .tup (xs ++ ys)) (fun b ob q => Heap.get?_push_of_some _ q) (Nat.le_refl _) ?_, rfl, q2 (fun w => z (r2.nil_iff.mpr w)) _ (I.hok.fresh (Nat.le_refl _))⟩
  exact ⟨by rw [List.length_append]; exact hz, _, r1.append r2, IsTup.new _ _⟩
/-- tuple(t) -/
theorem call_tupleT : CallR X (.type "tuple") (fun xs H Q => ∃ a ys, xs = [.ref a] ∧ SqT X.K H a ys ∧ Q (.ref a) H) := by
  intro pins s σ H xs us Q I r h
  obtain ⟨a, ys, rfl, ha, q⟩ := h
  obtain ⟨u, rfl, ru⟩ := vals1 r
  cases ru
  obtain ⟨its, _, p1, _⟩ := I.tuple ha
  exact call_tuple_same (items := its.toArray) p1 ⟨.ref a, H, I, rfl, q⟩
end
end L2

namespace L2
open PySem PySem.Spec PyProof.Rows

/-! ### places -/
/-- the place that an index of any sign means -/
def ixN (n : Nat) (i : Int) : Option Nat := if 0 ≤ i then (if i < n then some i.toNat else none) else if -(n : Int) ≤ i then some (i + n).toNat else none
def atI {α : Type} (xs : List α) (i : Int) : Option α := (ixN xs.length i).bind fun j => xs[j]?
theorem ixN_seq {n : Nat} {i : Int} {j : Nat} (h : ixN n i = some j) : seqIndex? i n = some j ∧ j < n ∧ -(n : Int) ≤ i ∧ i < n := by
  unfold ixN at h
  by_cases h0 : 0 ≤ i
  · rw [if_pos h0] at h
    by_cases h1 : i < n
    · rw [if_pos h1] at h
      have e : i.toNat = j := Option.some.inj h
      exact ⟨by rw [seqIndex_of h0 h1, e], by omega, by omega, h1⟩
    · rw [if_neg h1] at h; cases h
  · rw [if_neg h0] at h
    by_cases h1 : -(n : Int) ≤ i
    · rw [if_pos h1] at h
      have e : (i + n).toNat = j := Option.some.inj h
      exact ⟨by rw [seqIndex_neg (by omega) h1, e], by omega, h1, by omega⟩
    · rw [if_neg h1] at h; cases h
theorem atI_get {α : Type} {xs : List α} {i : Int} {v : α} (h : atI xs i = some v) : ∃ j, seqIndex? i xs.length = some j ∧ xs[j]? = some v ∧ j < xs.length ∧ -(xs.length : Int) ≤ i ∧ i < xs.length := by
  unfold atI at h
  cases e : ixN xs.length i with
  | none => rw [e] at h; cases h
  | some j =>
    rw [e] at h
    obtain ⟨h1, h2, h3, h4⟩ := ixN_seq e
    exact ⟨j, h1, h, h2, h3, h4⟩
theorem atI_nat {α : Type} {xs : List α} {j : Nat} {v : α} (h : xs[j]? = some v) : atI xs (j : Int) = some v := by
  have hj : j < xs.length := (List.getElem?_eq_some_iff.mp h).1
  have e : ixN xs.length (j : Int) = some j := by
    unfold ixN
    rw [if_pos (by omega), if_pos (by omega)]; simp
  unfold atI; rw [e]; exact h
theorem atI_last {α : Type} (xs : List α) (v : α) : atI (xs ++ [v]) (-1) = some v := by
  have hl : (xs ++ [v]).length = xs.length + 1 := by simp
  have e : ixN (xs ++ [v]).length (-1) = some xs.length := by
    unfold ixN
    rw [hl, if_neg (by decide), if_pos (by omega)]
    congr 1
    omega
  unfold atI
  rw [e]
  show (xs ++ [v])[xs.length]? = some v
  simp

/-! ### what may be subscripted -/
/-- what stands as an index of a plain subscript -/
def PlainIx (b : Expr) : Prop := ∀ o i, subscripted b false o i = operate [o, i] (getItem o i)
/-- a subscript by values -/
def IxR (X : Cx) (r : R2) : Prop :=
  ∀ (value slice : Expr) (pins : List (Addr × Obj)) (s : Shared) (σ : St) (H : Hp) (x y : V) (v u : Value) (Q : VK), Inv X pins σ H s → RelV x v → RelV y u → r x y H Q →
    subscripted slice false v u = operate [v, u] (getItem v u) → wpAny (model X.prog X.w) X.A (subscriptTail value slice v u) (EP X pins σ Q) X.xe s
/-- a call of a builtin's method by values: the receiver, the arguments -/
def MtR (X : Cx) (id : String) (r : V → List V → Hp → VK → Prop) : Prop :=
  ∀ (pins : List (Addr × Obj)) (s : Shared) (σ : St) (H : Hp) (x : V) (xs : List V) (v : Value) (us : List Value) (Q : VK), Inv X pins σ H s → RelV x v → Vals xs us → r x xs H Q →
    wpAny (model X.prog X.w) X.A (call (.builtin id) (v :: us)) (EP X pins σ Q) X.xe s
section
variable {X : Cx} {a b : Expr} {ta tb : TE} {pos : Pos}
theorem IxR.or {r r' : R2} (h : IxR X r) (h' : IxR X r') : IxR X (fun x y H Q => r x y H Q ∨ r' x y H Q) := by
  intro value slice pins s σ H x y v u Q I rx ry q hs
  rcases q with q | q
  · exact h value slice pins s σ H x y v u Q I rx ry q hs
  · exact h' value slice pins s σ H x y v u Q I rx ry q hs
theorem MtR.or {id : String} {r r' : V → List V → Hp → VK → Prop} (h : MtR X id r) (h' : MtR X id r') : MtR X id (fun x xs H Q => r x xs H Q ∨ r' x xs H Q) := by
  intro pins s σ H x xs v us Q I rx rs q
  rcases q with q | q
  · exact h pins s σ H x xs v us Q I rx rs q
  · exact h' pins s σ H x xs v us Q I rx rs q
/-- a[b] -/
theorem pe_ix {r : R2} (hr : IxR X r) (ha : PE X a ta) (hb : PE X b tb) (hs : PlainIx b) : PE X (.Subscript a b pos) (tOp r ta tb) := by
  intro pins s σ H Q I h
  exact Subscript_ (binT ha hb I h fun v u s2 x y H2 I2 rx ry q => hr a b pins s2 σ H2 x y v u Q I2 rx ry q (hs _ _))

def rIxL (K : PySem.W.Frag) : R2 := fun x y H Q => ∃ p xs i v, x = .ref p ∧ y = .int i ∧ SqL K H p xs ∧ atI xs i = some v ∧ Q v H
def rIxT (K : PySem.W.Frag) : R2 := fun x y H Q => ∃ p xs i v, x = .ref p ∧ y = .int i ∧ SqT K H p xs ∧ atI xs i = some v ∧ Q v H
def rIxS : R2 := fun x y H Q => ∃ z i c, x = .str z ∧ y = .int i ∧ z.length ≤ sizeLine ∧ atI z.cps.toList i = some c ∧ Q (.str ⟨#[c]⟩) H
theorem ix_list : IxR X (rIxL X.K) := by
  intro value slice pins s σ H x y v u Q I rx ry h hs
  obtain ⟨p, xs, i, z, rfl, rfl, hq, he, q⟩ := h
  cases rx
  obtain ⟨t, rfl⟩ := ry
  obtain ⟨its, r, pl, hz⟩ := I.list hq
  obtain ⟨j, h1, h2, h3, h4, h5⟩ := atI_get he
  obtain ⟨w, ew, rw'⟩ := r.get h2
  have hl := r.length
  have hn := line63
  have fin : EP X pins σ Q w s := ⟨z, H, I, rw', q⟩
  by_cases h0 : 0 ≤ i
  · have hj : i.toNat = j := by
      rw [seqIndex_of h0 h5] at h1
      exact Option.some.inj h1
    exact item_listR pl.isList h0 (by omega) (by rw [hj]; simpa using ew) fin hs
  · have hj : (i + (its.toArray.size : Int)).toNat = j := by
      rw [seqIndex_neg (by omega) h4] at h1
      rw [List.size_toArray, ← hl]
      exact Option.some.inj h1
    exact subscriptTail_builtinR (x := w) pl.isList.typeIs slot_list_getitem.lookup
      (wpAny_getItem_list_neg (Q := fun r s' => r = w ∧ EP X pins σ Q r s') pl.isList (by omega) (by rw [List.size_toArray] <;> omega) (by omega) (by rw [hj]; simpa using ew) ⟨rfl, fin⟩) hs
theorem ix_tup : IxR X (rIxT X.K) := by
  intro value slice pins s σ H x y v u Q I rx ry h hs
  obtain ⟨p, xs, i, z, rfl, rfl, hq, he, q⟩ := h
  cases rx
  obtain ⟨t, rfl⟩ := ry
  obtain ⟨its, r, pl, hz⟩ := I.tuple hq
  obtain ⟨j, h1, h2, h3, h4, h5⟩ := atI_get he
  obtain ⟨w, ew, rw'⟩ := r.get h2
  have hl := r.length
  have hn := line63
  have fin : EP X pins σ Q w s := ⟨z, H, I, rw', q⟩
  exact subscriptTail_builtinR (x := w) pl.typeIs slot_tuple_getitem.lookup
    (getItem_tuple (j := j) (Q := fun r s' => r = w ∧ EP X pins σ Q r s') pl (by omega) (by omega) (by rw [List.size_toArray, ← hl]; exact h1) (by simpa using ew) ⟨rfl, fin⟩) hs
theorem ix_str : IxR X rIxS := by
  intro value slice pins s σ H x y v u Q I rx ry h hs
  obtain ⟨z, i, c, rfl, rfl, hz, he, q⟩ := h
  obtain ⟨t, rfl⟩ := rx
  obtain ⟨t', rfl⟩ := ry
  obtain ⟨j, h1, h2, h3, h4, h5⟩ := atI_get he
  have hl : z.cps.toList.length = z.length := by simp [Str.length]
  rw [hl] at h1 h4 h5
  have hn := line63
  exact tail_any (typeIs_str s z t) slot_str_getitem.lookup (getItem_str (c := c) (by
    have e1 : decide (i < -(2 ^ 63 : Int)) = false := decide_eq_false (by omega)
    have e2 : decide (i ≥ 2 ^ 63) = false := decide_eq_false (by omega)
    rw [e1, e2, Bool.or_false]) (by rw [h1]; simpa using h2) ⟨.str ⟨#[c]⟩, H, I.tok _, ⟨_, rfl⟩, q⟩) hs
/-- list, tuple or str -/
def rIx (K : PySem.W.Frag) : R2 := fun x y H Q => rIxL K x y H Q ∨ rIxT K x y H Q ∨ rIxS x y H Q
theorem ix_seq : IxR X (rIx X.K) := ix_list.or (ix_tup.or ix_str)

/-! ### xs[i] = v, any sign -/
/-- the list's object behind a store -/
theorem mapSeq_set (its : List Value) (n j : Nat) (u : Value) : Obj.mapSeq (·.setIfInBounds j u) { cls := .type "list", data := .seq its.toArray n } = { cls := .type "list", data := .seq (its.set j u).toArray n } := by
  simp [Obj.mapSeq]
theorem Inv.lst {pins : List (Addr × Obj)} {σ : St} {H : Hp} {s : Shared} {p : Addr} {xs : List V} (I : Inv X pins σ H s) (h : H p = some (.lst xs)) :
    ∃ (its : List Value) (n : Nat), Vals xs its ∧ s.heap.get? p = some { cls := .type "list", data := .seq its.toArray n } ∧ xs.length ≤ sizeLine := by
  obtain ⟨z, its, n, r, e⟩ := I.hok p _ h
  exact ⟨its, n, r, e, z⟩
/-- the list at p is written by an update of its object -/
theorem Inv.lstUpd {pins : List (Addr × Obj)} {σ : St} {H : Hp} {s : Shared} {p : Addr} {xs ys : List V} {its its' : List Value} {n n' : Nat} {f : Obj → Obj} (I : Inv X pins σ H s) (h : H p = some (.lst xs))
    (ho : s.heap.get? p = some { cls := .type "list", data := .seq its.toArray n }) (hf : f { cls := .type "list", data := .seq its.toArray n } = { cls := .type "list", data := .seq its'.toArray n' }) (r : Vals ys its') (hz : ys.length ≤ sizeLine) (t : Nat) :
    Inv X pins σ (upd H p (.lst ys)) { s with heap := s.heap.update p f, toks := t } := by
  have e : (s.heap.update p f).get? p = some { cls := .type "list", data := .seq its'.toArray n' } := by
    rw [Heap.get?_update_self f ho (by rw [hf] <;> rfl), hf]
  refine I.write (x := p) (e := p) (by rw [h]; trivial) (.inl rfl) (fun b u hb q => (Heap.get?_update_other _ _ (Ne.symm hb)).trans q) ⟨_, e⟩ ?_
  exact ⟨hz, its', n', r, e⟩
def rSetL : V → V → V → Hp → (Hp → Prop) → Prop := fun o i v H Q => ∃ p xs k j, o = .ref p ∧ i = .int k ∧ H p = some (.lst xs) ∧ ixN xs.length k = some j ∧ Q (upd H p (.lst (xs.set j v)))
theorem set_list : PSet X rSetL := by
  intro pins s σ H o i v ov iv u Q I ro ri rv h
  obtain ⟨p, xs, k, j, rfl, rfl, hp, hj, q⟩ := h
  cases ro
  obtain ⟨t, rfl⟩ := ri
  obtain ⟨its, n, r, ho, hz⟩ := I.lst hp
  obtain ⟨h1, h2, h3, h4⟩ := ixN_seq hj
  have hl := r.length
  have hn := line63
  have I' : Inv X pins σ (upd H p (.lst (xs.set j v))) { s with heap := s.heap.update p (Obj.mapSeq (·.setIfInBounds j u)) } :=
    I.lstUpd hp ho (mapSeq_set its n j u) (r.set rv j) (by rw [List.length_set]; exact hz) s.toks
  by_cases h0 : 0 ≤ k
  · have hk : k.toNat = j := by
      rw [seqIndex_of h0 h4] at h1
      exact Option.some.inj h1
    exact PySem.W.ki_setAt ho h0 (by omega) (by rw [List.size_toArray, ← hl]; exact h4) (by rw [hk]; exact ⟨_, I', q⟩)
  · have hk : (k + (its.toArray.size : Int)).toNat = j := by
      rw [seqIndex_neg (by omega) h3] at h1
      rw [List.size_toArray, ← hl]
      exact Option.some.inj h1
    exact PySem.W.ki_setBack ho (by omega) (by rw [List.size_toArray, ← hl]; exact h3) (by omega) (by rw [hk]; exact ⟨_, I', q⟩)

/-! ### slices -/
theorem slice_bounds (lo hi : Option Int) (n : Nat) : (sliceBounds lo hi none n).1 = ((HT.sIx n 0 lo : Nat) : Int) ∧ (sliceBounds lo hi none n).2.1 = ((HT.sIx n n hi : Nat) : Int) ∧ (sliceBounds lo hi none n).2.2 = 1 := by
  refine ⟨?_, ?_, rfl⟩
  · cases lo with
    | none => simp [sliceBounds, HT.sIx]
    | some i =>
      simp only [sliceBounds, HT.sIx, Option.getD_none, show (1 : Int) > 0 by decide, if_true]
      by_cases h : i < 0
      · simp only [h, if_true] <;> omega
      · simp only [h, if_false] <;> omega
  · cases hi with
    | none => simp [sliceBounds, HT.sIx]
    | some i =>
      simp only [sliceBounds, HT.sIx, Option.getD_none, show (1 : Int) > 0 by decide, if_true]
      by_cases h : i < 0
      · simp only [h, if_true] <;> omega
      · simp only [h, if_false] <;> omega
theorem slicePick_cut (its : List Value) (lo hi : Option Int) : slicePick its.toArray lo hi none = ((its.drop (HT.sIx its.length 0 lo)).take (HT.sIx its.length its.length hi - HT.sIx its.length 0 lo)).toArray := by
  obtain ⟨h1, h2, h3⟩ := slice_bounds lo hi its.toArray.size
  unfold slicePick
  rw [h1, h2, h3]
  simp only [sliceRange_one, pick_run, List.size_toArray] <;> rfl
/-- xs[lo:hi] of a list: a new list -/
def rSlL (K : PySem.W.Frag) : V → Option Int → Option Int → Hp → VK → Prop := fun x lo hi H Q => ∃ a xs, x = .ref a ∧ SqL K H a xs ∧ ∀ p, H p = none → Q (.ref p) (upd H p (.lst (cutV xs lo hi)))
theorem sl_list : SlR X (rSlL X.K) := by
  intro pins s σ H x v vl vu lo hi sl Q I rx hs pl pu h
  obtain ⟨a, xs, rfl, hx, q⟩ := h
  cases rx
  obtain ⟨its, r, ht, hz⟩ := I.list hx
  have hlen := r.length
  refine ⟨"list", _, slot_list_getitem.lookup, ht.isList.typeIs, ?_⟩
  refine wpAny_getItem_list_slice ht.isList hs pl pu .none (by simp) ?_ (by rw [List.size_toArray] <;> omega)
  rw [slicePick_cut, ← hlen]
  refine ⟨.ref s.heap.objs.size, _, I.laid (t' := s.toks) (o := .lst (cutV xs lo hi)) (fun b ob q => Heap.get?_push_of_some _ q) (Nat.le_refl _) ?_, rfl, q _ (I.hok.fresh (Nat.le_refl _))⟩
  exact ⟨Nat.le_trans (cutV_length xs lo hi) hz, _, 0, (r.drop (HT.sIx xs.length 0 lo)).take (HT.sIx xs.length xs.length hi - HT.sIx xs.length 0 lo), Heap.get?_push_size _ rfl⟩

/-! ### in, not in: flat items -/
def flatV : V → Bool
  | .non => true
  | .bl _ => true
  | .int _ => true
  | .str _ => true
  | _ => false
/-- == of flat values -/
def eqV : V → V → Bool
  | .non, .non => true
  | .bl a, .bl b => a == b
  | .bl a, .int b => (if a then 1 else 0) == b
  | .int a, .bl b => a == (if b then 1 else 0)
  | .int a, .int b => a == b
  | .str a, .str b => a == b
  | _, _ => false
theorem eqAt_V {A : Around} {s : Shared} {y x : V} {u v : Value} (ry : RelV y u) (rx : RelV x v) (fy : flatV y = true) (fx : flatV x = true) : SeqAt.EqAt A s u v (eqV y x) := by
  cases y with
  | non =>
    cases ry
    cases x with
    | non => cases rx; exact SeqAt.EqAt.same _
    | bl b => cases rx; exact SeqAt.EqAt.none_bool b
    | int b => obtain ⟨t, rfl⟩ := rx; exact SeqAt.EqAt.none_int b t
    | str b => obtain ⟨t, rfl⟩ := rx; exact SeqAt.EqAt.none_str b t
    | _ => exact absurd (show false = true from fx) Bool.false_ne_true
  | bl a =>
    cases ry
    cases x with
    | non => cases rx; exact SeqAt.EqAt.bool_none a
    | bl b => cases rx; exact SeqAt.EqAt.bool_bool a b
    | int b => obtain ⟨t, rfl⟩ := rx; exact SeqAt.EqAt.bool_int a b t
    | str b => obtain ⟨t, rfl⟩ := rx; exact SeqAt.EqAt.bool_str a b t
    | _ => exact absurd (show false = true from fx) Bool.false_ne_true
  | int a =>
    obtain ⟨t', rfl⟩ := ry
    cases x with
    | non => cases rx; exact SeqAt.EqAt.int_none a t'
    | bl b => cases rx; exact SeqAt.EqAt.int_bool a t' b
    | int b => obtain ⟨t, rfl⟩ := rx; exact SeqAt.EqAt.int_int a t' b t
    | str b => obtain ⟨t, rfl⟩ := rx; exact SeqAt.EqAt.int_str a t' b t
    | _ => exact absurd (show false = true from fx) Bool.false_ne_true
  | str a =>
    obtain ⟨t', rfl⟩ := ry
    cases x with
    | non => cases rx; exact SeqAt.EqAt.str_none a t'
    | bl b => cases rx; exact SeqAt.EqAt.str_bool a t' b
    | int b => obtain ⟨t, rfl⟩ := rx; exact SeqAt.EqAt.str_int a t' b t
    | str b => obtain ⟨t, rfl⟩ := rx; exact SeqAt.EqAt.str_str a t' b t
    | _ => exact absurd (show false = true from fx) Bool.false_ne_true
  | _ => exact absurd (show false = true from fy) Bool.false_ne_true
/-- the items' answers, read off the values (a value's own answer does not lean on its token) -/
def eqU (x : V) (u : Value) : Bool := match u with
  | .none => eqV .non x
  | .bool b => eqV (.bl b) x
  | .int i _ => eqV (.int i) x
  | .str z _ => eqV (.str z) x
  | _ => false
theorem eqU_of {x y : V} {u : Value} (r : RelV y u) (f : flatV y = true) : eqU x u = eqV y x := by
  cases y with
  | non => cases r; rfl
  | bl b => cases r; rfl
  | int i => obtain ⟨t, rfl⟩ := r; rfl
  | str z => obtain ⟨t, rfl⟩ := r; rfl
  | _ => exact absurd (show false = true from f) Bool.false_ne_true
theorem any_eqU {x : V} : ∀ {xs : List V} {us : List Value}, Vals xs us → xs.all flatV = true → us.any (eqU x) = xs.any fun y => eqV y x
  | _, _, .nil, _ => rfl
  | y :: xs, u :: us, .cons r t, f => by
    rw [List.all_cons, Bool.and_eq_true] at f
    rw [List.any_cons, List.any_cons, eqU_of r f.1, any_eqU t f.2]
theorem mem_eqAt {A : Around} {s : Shared} {x : V} {v : Value} (rx : RelV x v) (fx : flatV x = true) : ∀ {xs : List V} {us : List Value}, Vals xs us → xs.all flatV = true → ∀ u ∈ us, SeqAt.EqAt A s u v (eqU x u)
  | _, _, .nil, _ => fun u hu => by cases hu
  | y :: xs, u :: us, .cons r t, f => fun u' hu => by
    rw [List.all_cons, Bool.and_eq_true] at f
    rcases List.mem_cons.mp hu with rfl | hu
    · rw [eqU_of r f.1]; exact eqAt_V r rx f.1 fx
    · exact mem_eqAt rx fx t f.2 u' hu
def inV (x : V) (xs : List V) : Bool := xs.any fun y => eqV y x
/-- x in a list or tuple of flat items -/
def rIn (K : PySem.W.Frag) (neg : Bool) : R2 := fun x y H Q => ∃ p xs, y = .ref p ∧ (SqL K H p xs ∨ SqT K H p xs) ∧ flatV x = true ∧ xs.all flatV = true ∧ Q (.bl (if neg then !inV x xs else inV x xs)) H
theorem op_in_seq : OpR X (compareOp .In) (rIn X.K false) := by
  intro pins s σ H x y v u Q I rx ry h
  obtain ⟨p, xs, rfl, hq, fx, fs, q⟩ := h
  cases ry
  rcases hq with hq | hq
  · obtain ⟨its, r, pl, hz⟩ := I.list hq
    refine SeqAt.in_listAt (eqU x) pl.isList (fun w hw => mem_eqAt rx fx r fs w (by simpa using hw)) ⟨.bl _, H, I, rfl, ?_⟩
    rw [show its.toArray.any (eqU x) = its.any (eqU x) by simp, any_eqU r fs]
    exact q
  · obtain ⟨its, r, pl, hz⟩ := I.tuple hq
    refine SeqAt.in_tupleAt (eqU x) pl (fun w hw => mem_eqAt rx fx r fs w (by simpa using hw)) ⟨.bl _, H, I, rfl, ?_⟩
    rw [show its.toArray.any (eqU x) = its.any (eqU x) by simp, any_eqU r fs]
    exact q
theorem op_notIn_seq : OpR X (compareOp .NotIn) (rIn X.K true) := by
  intro pins s σ H x y v u Q I rx ry h
  obtain ⟨p, xs, rfl, hq, fx, fs, q⟩ := h
  cases ry
  rcases hq with hq | hq
  · obtain ⟨its, r, pl, hz⟩ := I.list hq
    refine SeqAt.notIn_listAt (eqU x) pl.isList (fun w hw => mem_eqAt rx fx r fs w (by simpa using hw)) ⟨.bl _, H, I, rfl, ?_⟩
    rw [show its.toArray.any (eqU x) = its.any (eqU x) by simp, any_eqU r fs]
    exact q
  · obtain ⟨its, r, pl, hz⟩ := I.tuple hq
    refine SeqAt.notIn_tupleAt (eqU x) pl (fun w hw => mem_eqAt rx fx r fs w (by simpa using hw)) ⟨.bl _, H, I, rfl, ?_⟩
    rw [show its.toArray.any (eqU x) = its.any (eqU x) by simp, any_eqU r fs]
    exact q
theorem op_notIn_str : OpR X (compareOp .NotIn) (fun x y H Q => ∃ i j, x = .str i ∧ y = .str j ∧ Q (.bl (!(!(Builtin.Str.occurrences j i 0 j.length 1).isEmpty))) H) := by
  intro pins s σ H x y v u Q I rx ry h
  obtain ⟨i, j, rfl, rfl, q⟩ := h
  obtain ⟨t, rfl⟩ := rx
  obtain ⟨t', rfl⟩ := ry
  exact notIn_str ⟨.bl _, H, I, rfl, q⟩

/-! ### len, list(x), tuple(x) of any list or tuple that is read -/
theorem call_len_seq : CallR X (.builtin "len") (fun xs H Q => ∃ p ys, xs = [.ref p] ∧ (SqL X.K H p ys ∨ SqT X.K H p ys) ∧ Q (.int ys.length) H) := by
  intro pins s σ H xs us Q I r h
  obtain ⟨p, ys, rfl, hq, q⟩ := h
  obtain ⟨u, rfl, rx⟩ := vals1 r
  cases rx
  have hn := line63
  rcases hq with hq | hq
  · obtain ⟨its, r', pl, hz⟩ := I.list hq
    have hlen := r'.length
    exact Calls.call_len_list pl.isList (by simp only [List.size_toArray] <;> omega) ⟨.int ys.length, H, I.tok _, ⟨s.toks + 1, by rw [List.size_toArray, hlen]⟩, q⟩
  · obtain ⟨its, r', pl, hz⟩ := I.tuple hq
    have hlen := r'.length
    exact len_tuple pl (by simp only [List.size_toArray] <;> omega) ⟨.int ys.length, H, I.tok _, ⟨s.toks + 1, by rw [List.size_toArray, hlen]⟩, q⟩
theorem call_len_str : CallR X (.builtin "len") (fun xs H Q => ∃ z, xs = [.str z] ∧ z.length ≤ sizeLine ∧ Q (.int z.length) H) := by
  intro pins s σ H xs us Q I r h
  obtain ⟨z, rfl, hz, q⟩ := h
  obtain ⟨u, rfl, t, rfl⟩ := vals1 r
  have hn := line63
  exact len_str (by omega) ⟨.int z.length, H, I.tok _, ⟨_, rfl⟩, q⟩
theorem CallR.or {f : Value} {r r' : List V → Hp → VK → Prop} (h : CallR X f r) (h' : CallR X f r') : CallR X f (fun xs H Q => r xs H Q ∨ r' xs H Q) := by
  intro pins s σ H xs us Q I rs q
  rcases q with q | q
  · exact h pins s σ H xs us Q I rs q
  · exact h' pins s σ H xs us Q I rs q
theorem call_list_of : CallR X (.type "list") (fun xs H Q => ∃ p ys, xs = [.ref p] ∧ (SqL X.K H p ys ∨ SqT X.K H p ys) ∧ ∀ l, H l = none → Q (.ref l) (upd H l (.lst ys))) := by
  intro pins s σ H xs us Q I r h
  obtain ⟨p, ys, rfl, hq, q⟩ := h
  obtain ⟨u, rfl, rx⟩ := vals1 r
  cases rx
  have fin : ∀ (its : List Value), Vals ys its → ys.length ≤ sizeLine → ∀ (h' : Heap) (c' : Nat), (∀ b o', s.heap.get? b = some o' → h'.get? b = some o') →
      h'.get? s.heap.objs.size = some { cls := .type "list", dict := none, data := .seq its.toArray c', slots := #[] } → EP X pins σ Q (.ref s.heap.objs.size) { s with heap := h' } := fun its r' hz h' c' kp e =>
    ⟨.ref s.heap.objs.size, _, I.laid (t' := s.toks) kp (Nat.le_refl _) (show ObjOk X.prog X.w _ h' _ (.lst ys) from ⟨hz, its, c', r', e⟩), rfl, q _ (I.hok.fresh (Nat.le_refl _))⟩
  rcases hq with hq | hq
  · obtain ⟨its, r', pl, hz⟩ := I.list hq
    have hlen := r'.length
    obtain ⟨o, ho, hc, n, hd⟩ := pl.isList
    exact call_list_seq p (.inl rfl) ho hc hd (fun h' c' kp e => fin its r' hz h' c' kp e) (by simp only [List.size_toArray] <;> omega)
  · obtain ⟨its, r', pl, hz⟩ := I.tuple hq
    have hlen := r'.length
    obtain ⟨o, ho, hc, n, hd⟩ := pl
    exact call_list_seq p (.inr rfl) ho hc hd (fun h' c' kp e => fin its r' hz h' c' kp e) (by simp only [List.size_toArray] <;> omega)
theorem call_tuple_of : CallR X (.type "tuple") (fun xs H Q => ∃ p ys, xs = [.ref p] ∧ ((SqL X.K H p ys ∧ ∀ l, H l = none → Q (.ref l) (upd H l (.tup ys))) ∨ (SqT X.K H p ys ∧ Q (.ref p) H))) := by
  intro pins s σ H xs us Q I r h
  obtain ⟨p, ys, rfl, h⟩ := h
  obtain ⟨u, rfl, rx⟩ := vals1 r
  cases rx
  rcases h with ⟨hq, q⟩ | ⟨hq, q⟩
  · obtain ⟨its, r', pl, hz⟩ := I.list hq
    have hlen := r'.length
    refine call_tuple_list pl.isList (fun h' kp => ?_) (by simp only [List.size_toArray] <;> omega)
    have I1 : Inv X pins σ H { s with heap := h' } := I.kept (t' := s.toks) kp
    have I2 : Inv X pins σ (upd H h'.objs.size (.tup ys)) { s with heap := h'.push { cls := .type "tuple", data := .seq its.toArray } } :=
      I1.laid (t' := s.toks) (fun b o e => Heap.get?_push_of_some _ e) (Nat.le_refl _) (show ObjOk X.prog X.w _ _ _ (.tup ys) from ⟨hz, its, r', IsTup.new _ _⟩)
    exact ⟨.ref h'.objs.size, _, I2, rfl, q _ (I1.hok.fresh (Nat.le_refl _))⟩
  · obtain ⟨its, r', pl, hz⟩ := I.tuple hq
    exact call_tuple_same pl ⟨.ref p, H, I, rfl, q⟩

/-! ### the call of a builtin's method: o.m(..) -/
/-- the value is of that builtin type -/
def tyV (K : PySem.W.Frag) (T : String) (x : V) (H : Hp) : Prop := match x with
  | .str _ => T = "str"
  | .int _ => T = "int"
  | .ref p => (T = "list" ∧ ∃ xs, SqL K H p xs) ∨ (T = "tuple" ∧ ∃ o, K.lookup p = some o ∧ o.cls = .type "tuple" ∧ o.dict = none) ∨
      (T = "dict" ∧ ((∃ kvs, H p = some (.dK kvs)) ∨ ∃ kvs, H p = some (.dT kvs))) ∨ (T = "set" ∧ ∃ S n, H p = some (.set S n))
  | _ => False
theorem tyV_is {pins : List (Addr × Obj)} {σ : St} {H : Hp} {s : Shared} {T : String} {x : V} {v : Value} (I : Inv X pins σ H s) (r : RelV x v) (ty : tyV X.K T x H) :
    s.TypeIs v T ∧ ∀ a, v = .ref a → ∃ ob, s.heap.get? a = some ob ∧ ob.dict = none := by
  cases x with
  | str z =>
    obtain ⟨t, rfl⟩ := r
    cases (show T = "str" from ty)
    exact ⟨typeIs_str s z t, fun _ e => nomatch e⟩
  | int i =>
    obtain ⟨t, rfl⟩ := r
    cases (show T = "int" from ty)
    exact ⟨typeIs_int s i t, fun _ e => nomatch e⟩
  | ref p =>
    cases r
    rcases ty with ⟨rfl, xs, hq⟩ | ⟨rfl, o, hk, hc, hd⟩ | ⟨rfl, hk⟩ | ⟨rfl, S, n, hk⟩
    · obtain ⟨its, _, pl, _⟩ := I.list hq
      refine ⟨pl.isList.typeIs, fun a e => ?_⟩
      cases e
      obtain ⟨o, n, e, c, hd, _⟩ := pl
      exact ⟨o, e, hd⟩
    · refine ⟨⟨o, I.kIn p o hk, hc⟩, fun a e => ?_⟩
      cases e
      exact ⟨o, I.kIn _ o hk, hd⟩
    · have z : ∃ o, s.heap.get? p = some o ∧ o.ExactDict := by
        rcases hk with ⟨kvs, hk⟩ | ⟨kvs, hk⟩
        · obtain ⟨_, _, _, _, o, _, _, e, ex, _⟩ := I.hok p _ hk
          exact ⟨o, e, ex⟩
        · obtain ⟨_, _, _, _, o, _, _, e, ex, _⟩ := I.hok p _ hk
          exact ⟨o, e, ex⟩
      obtain ⟨o, e, ex⟩ := z
      refine ⟨⟨o, e, ex.1⟩, fun a e2 => ?_⟩
      cases e2
      exact ⟨o, e, ex.2.1⟩
    · obtain ⟨o, _, _, _, e, ex, _⟩ := I.hok p _ hk
      refine ⟨⟨o, e, ex.1⟩, fun a e2 => ?_⟩
      cases e2
      exact ⟨o, e, ex.2.1⟩
  | _ => exact False.elim ty
def tBM0 (K : PySem.W.Frag) (T : String) (r : V → List V → Hp → VK → Prop) (to : TE) : TE := fun σ H Q => to σ H fun x H1 => tyV K T x H1 ∧ r x [] H1 Q
def tBM (K : PySem.W.Frag) (T : String) (r : V → List V → Hp → VK → Prop) (to : TE) (t : TA) : TE := fun σ H Q => to σ H fun x H1 => tyV K T x H1 ∧ t σ H1 fun xs H2 => r x xs H2 Q
variable {o e : Expr} {es : List Expr} {to : TE} {t : TA} {name : Str} {apos cpos : Pos} {T id : String} {r : V → List V → Hp → VK → Prop}
theorem pe_bm0 (pa : PlainAttrs T) (slot : Slot T name id) (hty : typeOf (.builtin id) = pure (.type "method_descriptor")) (hm : MtR X id r) (ho : PE X o to)
    (hbase : attributeBase o name X.env (eval o X.env) = eval o X.env := by rfl) (hline : (apos.endLine == cpos.line) = true := by rfl) : PE X (.Call (.Attribute o name apos) [] [] cpos) (tBM0 X.K T r to) := by
  intro pins s σ H Q I h
  refine wpAny_Call_method0_late hbase hline (thn (ho pins s σ H _ I h) fun v s1 ⟨x, H1, I1, r1, ty, q1⟩ => ?_)
  obtain ⟨h1, h2⟩ := tyV_is I1 r1 ty
  exact ⟨T, id, pa, slot, hty, h1, h2, Calls.callWith_builtin rfl (PySem.evalArgs_none (hm pins s1 σ H1 x [] v [] Q I1 r1 .nil q1))⟩
theorem pe_bm (pa : PlainAttrs T) (slot : Slot T name id) (hty : typeOf (.builtin id) = pure (.type "method_descriptor")) (hm : MtR X id r) (ho : PE X o to) (ha : PA X (e :: es) t)
    (hbase : attributeBase o name X.env (eval o X.env) = eval o X.env := by rfl)
    (hfew : ((backTo cpos (starEach (e :: es) X.env)).all (fun x => !x.1) && (backToKw cpos (keywordEach [] X.env)).all (fun x => x.1.isSome)
      && decide ((e :: es).length + ([] : List Keyword).length + (if ([] : List Keyword).isEmpty then 0 else 1) < 30)) = true := by rfl)
    (hline : (apos.endLine == cpos.line) = true := by rfl) (hs : starEach (e :: es) X.env = (false, eval e X.env) :: starEach es X.env := by rfl) (hplain : (backTo cpos (starEach es X.env)).any (·.1) = false := by rfl) :
    PE X (.Call (.Attribute o name apos) (e :: es) [] cpos) (tBM X.K T r to t) := by
  intro pins s σ H Q I h
  refine wpAny_Call_method_late hbase hfew hline rfl (thn (ho pins s σ H _ I h) fun v s1 ⟨x, H1, I1, r1, ty, q1⟩ => ?_)
  obtain ⟨h1, h2⟩ := tyV_is I1 r1 ty
  refine ⟨T, id, pa, slot, hty, h1, h2, ?_⟩
  have hA := ha cpos pins s1 σ H1 _ I1 q1
  rw [hs] at hA ⊢
  refine Calls.callWith_builtin (by show (false || (backTo cpos (starEach es X.env)).any (·.1)) = false; rw [hplain] <;> rfl) (Calls.evalArgs_plain ?_)
  exact thn hA fun us s2 ⟨vs, H2, I2, r2, q2⟩ => hm pins s2 σ H2 x vs v us Q I2 r1 r2 q2
/- xs.append(e), list.index on a module's tuple .. are MtR facts of 06m -/
end
end L2

namespace L2
open PySem PySem.Spec PyProof.Rows

def MtM (X : Cx) (id : String) (r : V → List V → Hp → VK → Prop) : Prop :=
  ∀ (pins : List (Addr × Obj)) (s : Shared) (σ : St) (H : Hp) (x : V) (xs : List V) (v : Value) (us : List Value) (Q : VK), Inv X pins σ H s → RelV x v → Vals xs us → r x xs H Q →
    wpAny (model X.prog X.w) X.A (call (.builtin id) (v :: us)) (EP X pins σ Q) X.xe s

/-! ### lists of values -/
theorem Vals.one : ∀ {x : V} {us : List Value}, Vals [x] us → ∃ u, us = [u] ∧ RelV x u
  | _, _, .cons r .nil => ⟨_, rfl, r⟩
theorem Vals.two : ∀ {x y : V} {us : List Value}, Vals [x, y] us → ∃ u v, us = [u, v] ∧ RelV x u ∧ RelV y v
  | _, _, _, .cons r (.cons q .nil) => ⟨_, _, rfl, r, q⟩
theorem Vals.zero : ∀ {us : List Value}, Vals [] us → us = []
  | _, .nil => rfl
theorem Vals.dropLast {xs : List V} {us : List Value} (h : Vals xs us) : Vals xs.dropLast us.dropLast := by
  induction h with
  | nil => exact .nil
  | cons r t ih =>
    cases t with
    | nil => exact .nil
    | cons q t' => exact .cons r ih
theorem Vals.eraseIdx : ∀ {xs : List V} {us : List Value} (i : Nat), Vals xs us → Vals (xs.eraseIdx i) (us.eraseIdx i)
  | _, _, _, .nil => .nil
  | _, _, 0, .cons _ t => t
  | _, _, i + 1, .cons r t => .cons r (Vals.eraseIdx i t)
theorem Vals.reverse {xs : List V} {us : List Value} (h : Vals xs us) : Vals xs.reverse us.reverse := by
  induction h with
  | nil => exact .nil
  | cons r t ih => rw [List.reverse_cons, List.reverse_cons]; exact Vals.append ih (.cons r .nil)
theorem Vals.rep {xs : List V} {us : List Value} (h : Vals xs us) : ∀ k : Nat, Vals (List.replicate k xs).flatten (List.replicate k us).flatten
  | 0 => .nil
  | k + 1 => by
    rw [List.replicate_succ, List.replicate_succ, List.flatten_cons, List.flatten_cons]
    exact Vals.append h (Vals.rep h k)
theorem erase_last {α : Type} (l : List α) : l.eraseIdx (l.length - 1) = l.dropLast := by
  induction l with
  | nil => rfl
  | cons a r ih =>
    cases r with
    | nil => rfl
    | cons b r =>
      have e : (a :: b :: r).length - 1 = ((b :: r).length - 1) + 1 := by
        have h1 : (a :: b :: r).length = r.length + 2 := rfl
        have h2 : (b :: r).length = r.length + 1 := rfl
        omega
      rw [e, List.eraseIdx_cons_succ, ih]
      all_goals rfl
theorem len_erase {α : Type} : ∀ (l : List α) (i : Nat), (l.eraseIdx i).length ≤ l.length
  | [], _ => Nat.le_refl _
  | _ :: _, 0 => Nat.le_succ _
  | _ :: r, i + 1 => Nat.succ_le_succ (len_erase r i)
theorem foldl_rep (its : List Value) : ∀ (k : Nat) (acc : List Value),
    List.foldl (fun x1 x2 => x1 ++ x2) acc.toArray (List.replicate k its.toArray) = (acc ++ (List.replicate k its).flatten).toArray
  | 0, acc => by simp
  | k + 1, acc => by
    have e : acc.toArray ++ its.toArray = (acc ++ its).toArray := by simp
    have e2 : (acc ++ its) ++ (List.replicate k its).flatten = acc ++ (List.replicate (k + 1) its).flatten := by
      rw [List.replicate_succ, List.flatten_cons, List.append_assoc]
    rw [← e2, ← foldl_rep its k (acc ++ its), ← e, List.replicate_succ, List.foldl_cons]

section
variable {X : Cx} {pins : List (Addr × Obj)} {σ : St} {H : Hp} {s : Shared} {l b : Addr} {xs ys zs : List V}

/-! ### the two steps: a tracked list is rewritten, a new list is laid -/
theorem Inv.lset {its its' : List Value} {n : Nat} {f : Array Value → Array Value} {t' : Nat} (I : Inv X pins σ H s) (hH : H l = some (.lst xs))
    (e : s.heap.get? l = some { cls := .type "list", data := .seq its.toArray n }) (hf : f its.toArray = its'.toArray) (hv : Vals ys its') (hz : ys.length ≤ sizeLine) :
    Inv X pins σ (upd H l (.lst ys)) { s with heap := s.heap.update l (Obj.mapSeq f), toks := t' } := by
  have q := PySem.IsL.update e f
  rw [hf] at q
  refine I.write (x := l) (e := l) (by rw [hH]; exact trivial) (.inl rfl) (fun b' u hb hu => (Heap.get?_update_other s.heap (Obj.mapSeq f) (Ne.symm hb)).trans hu) ⟨_, q⟩ ?_
  exact ⟨hz, its', _, hv, q⟩
theorem Inv.lnew {its : List Value} {t' : Nat} (I : Inv X pins σ H s) (hv : Vals ys its) (hz : ys.length ≤ sizeLine) :
    Inv X pins σ (upd H s.heap.objs.size (.lst ys)) { s with heap := s.heap.push { cls := .type "list", data := .seq its.toArray }, toks := t' } :=
  I.laid (fun _ _ q => Heap.get?_push_of_some _ q) (Nat.le_refl _) ⟨hz, its, 0, hv, Heap.get?_push_size _ rfl⟩
theorem Inv.fresh (I : Inv X pins σ H s) : H s.heap.objs.size = none := I.hok.fresh (Nat.le_refl _)
theorem Inv.lstM (I : Inv X pins σ H s) (hH : H l = some (.lst xs)) : xs.length ≤ sizeLine ∧ ∃ (its : List Value) (n : Nat), Vals xs its ∧ xs.length = its.length ∧ s.heap.get? l = some { cls := .type "list", data := .seq its.toArray n } := by
  obtain ⟨z, its, n, r, e⟩ := I.hok l _ hH
  exact ⟨z, its, n, r, r.length, e⟩

theorem notLongL {n : Nat} (h : n ≤ sizeLine) : Builtin.List.listTooLong n = false := by
  unfold Builtin.List.listTooLong
  exact decide_eq_false (by omega)
end

section
variable {X : Cx}

/-! ### methods -/
def rAppend : V → List V → Hp → VK → Prop := fun x vs H Q => ∃ l xs y, x = .ref l ∧ vs = [y] ∧ H l = some (.lst xs) ∧ xs.length < sizeLine ∧ Q .non (upd H l (.lst (xs ++ [y])))
theorem mt_append : MtM X "list.append" rAppend := by
  intro pins s σ H x vs v us Q I rx rv h
  obtain ⟨l, xs, y, rfl, rfl, hH, hz, q⟩ := h
  cases rx
  obtain ⟨u, rfl, ru⟩ := rv.one
  obtain ⟨z, its, n, r, hl, e⟩ := I.lstM hH
  refine call_meets F.slot_list_append ⟨_, e, rfl⟩ F.entry_list_append (F.args_list_append_2 _ _) (PySem.list_append l its.toArray n u (by rw [List.size_toArray]; omega)) ⟨e, ?_⟩
  refine ⟨.non, _, I.lset (its' := its ++ [u]) hH e (by simp) (r.append (.cons ru .nil)) ?_, rfl, q⟩
  rw [List.length_append, List.length_singleton]
  omega

def rExtend : V → List V → Hp → VK → Prop := fun x vs H Q => ∃ l b xs zs, x = .ref l ∧ vs = [.ref b] ∧ H l = some (.lst xs) ∧ H b = some (.lst zs) ∧ xs.length + zs.length ≤ sizeLine ∧ Q .non (upd H l (.lst (xs ++ zs)))
theorem mt_extend : MtM X "list.extend" rExtend := by
  intro pins s σ H x vs v us Q I rx rv h
  obtain ⟨l, b, xs, zs, rfl, rfl, hH, hB, hz, q⟩ := h
  cases rx
  obtain ⟨u, rfl, ru⟩ := rv.one
  cases ru
  obtain ⟨z, its, n, r, hl, e⟩ := I.lstM hH
  obtain ⟨z2, its2, n2, r2, hl2, e2⟩ := I.lstM hB
  have hsz : its.toArray.size + its2.toArray.size ≤ sizeLine := by rw [List.size_toArray, List.size_toArray]; omega
  have hlong : ¬ (!its.toArray.isEmpty && Builtin.List.listTooLong (its.toArray.size + its2.toArray.size)) = true := by
    rw [notLongL hsz, Bool.and_false]
    exact Bool.false_ne_true
  refine call_meets F.slot_list_extend ⟨_, e, rfl⟩ F.entry_list_extend (F.args_list_extend_2 _ _)
    (AutoSeq1.list_extend_list_list_0 l its.toArray n b its2.toArray n2 hlong (by rw [List.size_toArray]; omega) (by omega)) ⟨e, e2, ?_⟩
  refine ⟨.non, _, I.lset (its' := its ++ its2) hH e (by simp) (r.append r2) ?_, rfl, q⟩
  rw [List.length_append]
  omega

def rPop : V → List V → Hp → VK → Prop := fun x vs H Q => ∃ l xs y, x = .ref l ∧ vs = [] ∧ H l = some (.lst xs) ∧ xs[xs.length - 1]? = some y ∧ Q y (upd H l (.lst xs.dropLast))
theorem mt_pop : MtM X "list.pop" rPop := by
  intro pins s σ H x vs v us Q I rx rv h
  obtain ⟨l, xs, y, rfl, rfl, hH, hy, q⟩ := h
  cases rx
  have hus := rv.zero
  subst hus
  obtain ⟨z, its, n, r, hl, e⟩ := I.lstM hH
  obtain ⟨u, hu, ru⟩ := r.get hy
  have hy' : its.toArray[its.toArray.size - 1]? = some u := by
    show its.toArray[its.length - 1]? = some u
    rw [← Array.getElem?_toList, ← hl]
    exact hu
  refine call_meets F.slot_list_pop ⟨_, e, rfl⟩ F.entry_list_pop (F.args_list_pop_1 _) (MeetsSeq.list_pop_last l its.toArray n u hy' (by rw [List.size_toArray]; omega)) ⟨e, ?_⟩
  refine ⟨y, _, I.lset (its' := its.dropLast) hH e ?_ r.dropLast ?_, ru, q⟩
  · show its.toArray.eraseIdxIfInBounds (its.toArray.size - 1) = its.dropLast.toArray
    rw [List.size_toArray, List.eraseIdxIfInBounds_toArray, erase_last]
  · rw [List.length_dropLast]
    omega

def rPopAt : V → List V → Hp → VK → Prop := fun x vs H Q => ∃ l xs i k y, x = .ref l ∧ vs = [.int i] ∧ H l = some (.lst xs) ∧ -(2 ^ 63) ≤ i ∧ i < 2 ^ 63 ∧ seqIndex? i xs.length = some k ∧ xs[k]? = some y ∧ Q y (upd H l (.lst (xs.eraseIdx k)))
theorem mt_popAt : MtM X "list.pop" rPopAt := by
  intro pins s σ H x vs v us Q I rx rv h
  obtain ⟨l, xs, i, k, y, rfl, rfl, hH, h1, h2, hk, hy, q⟩ := h
  cases rx
  obtain ⟨u, rfl, ru⟩ := rv.one
  obtain ⟨t, rfl⟩ := ru
  obtain ⟨z, its, n, r, hl, e⟩ := I.lstM hH
  obtain ⟨w, hw, rw'⟩ := r.get hy
  refine call_meets F.slot_list_pop ⟨_, e, rfl⟩ F.entry_list_pop (F.args_list_pop_2 _ _)
    (MeetsSeq.list_pop_at l its.toArray n i t k w (fitsIndex_both h1 h2) (by rw [List.size_toArray, ← hl]; exact hk) (by rw [← Array.getElem?_toList]; exact hw) (by rw [List.size_toArray]; omega)) ⟨e, ?_⟩
  refine ⟨y, _, I.lset (its' := its.eraseIdx k) hH e ?_ (r.eraseIdx k) ?_, rw', q⟩
  · show its.toArray.eraseIdxIfInBounds k = (its.eraseIdx k).toArray
    rw [List.eraseIdxIfInBounds_toArray]
  · have := len_erase xs k
    omega

def rReverse : V → List V → Hp → VK → Prop := fun x vs H Q => ∃ l xs, x = .ref l ∧ vs = [] ∧ H l = some (.lst xs) ∧ Q .non (upd H l (.lst xs.reverse))
theorem mt_reverse : MtM X "list.reverse" rReverse := by
  intro pins s σ H x vs v us Q I rx rv h
  obtain ⟨l, xs, rfl, rfl, hH, q⟩ := h
  cases rx
  have hus := rv.zero
  subst hus
  obtain ⟨z, its, n, r, hl, e⟩ := I.lstM hH
  refine call_meets F.slot_list_reverse ⟨_, e, rfl⟩ F.entry_list_reverse (F.args_list_reverse_1 _) (AutoSeq1.list_reverse_list_0 l its.toArray n (by rw [List.size_toArray]; omega)) ⟨e, ?_⟩
  refine ⟨.non, _, I.lset (its' := its.reverse) hH e (by simp) r.reverse ?_, rfl, q⟩
  rw [List.length_reverse]
  omega

def rClear : V → List V → Hp → VK → Prop := fun x vs H Q => ∃ l xs, x = .ref l ∧ vs = [] ∧ H l = some (.lst xs) ∧ Q .non (upd H l (.lst []))
theorem mt_clear : MtM X "list.clear" rClear := by
  intro pins s σ H x vs v us Q I rx rv h
  obtain ⟨l, xs, rfl, rfl, hH, q⟩ := h
  cases rx
  have hus := rv.zero
  subst hus
  obtain ⟨z, its, n, r, hl, e⟩ := I.lstM hH
  refine call_meets F.slot_list_clear ⟨_, e, rfl⟩ F.entry_list_clear (F.args_list_clear_1 _) (AutoSeq1.list_clear_list_0 l its.toArray n (by rw [List.size_toArray]; omega)) ⟨e, ?_⟩
  exact ⟨.non, _, I.lset (its' := []) (ys := []) hH e rfl .nil (Nat.zero_le _), rfl, q⟩

/-! ### list + list, list += list, list * int -/
def rCat : R2 := fun x y H Q => ∃ l b xs zs, x = .ref l ∧ y = .ref b ∧ H l = some (.lst xs) ∧ H b = some (.lst zs) ∧ xs.length + zs.length ≤ sizeLine ∧ ∀ p, H p = none → Q (.ref p) (upd H p (.lst (xs ++ zs)))
theorem op_cat : OpR X (binaryOp .Add) rCat := by
  intro pins s σ H x y v u Q I rx ry h
  obtain ⟨l, b, xs, zs, rfl, rfl, hH, hB, hz, q⟩ := h
  cases rx
  cases ry
  obtain ⟨z, its, n, r, hl, e⟩ := I.lstM hH
  obtain ⟨z2, its2, n2, r2, hl2, e2⟩ := I.lstM hB
  refine PySem.P.add_list e e2 ?_ (by rw [List.size_toArray, List.size_toArray]; omega)
  have ea : its.toArray ++ its2.toArray = (its ++ its2).toArray := by simp
  rw [ea]
  exact ⟨.ref _, _, I.lnew (t' := s.toks) (r.append r2) (by rw [List.length_append]; omega), rfl, q _ I.fresh⟩
/-- a list times an int (a negative one is nothing) -/
def rRep : R2 := fun x y H Q => ∃ l k xs, x = .ref l ∧ y = .int k ∧ H l = some (.lst xs) ∧ -(2 ^ 63) ≤ k ∧ k < 2 ^ 63 ∧ xs.length * k.toNat ≤ sizeLine ∧
  ∀ p, H p = none → Q (.ref p) (upd H p (.lst (List.replicate k.toNat xs).flatten))
theorem len_rep {α : Type} (xs : List α) (k : Nat) : (List.replicate k xs).flatten.length = k * xs.length := by
  induction k with
  | zero => simp
  | succ k ih => rw [List.replicate_succ, List.flatten_cons, List.length_append, ih, Nat.succ_mul, Nat.add_comm]
theorem op_rep : OpR X (binaryOp .Mult) rRep := by
  intro pins s σ H x y v u Q I rx ry h
  obtain ⟨l, k, xs, rfl, rfl, hH, h1, h2, hz, q⟩ := h
  cases rx
  obtain ⟨t, rfl⟩ := ry
  obtain ⟨z, its, n, r, hl, e⟩ := I.lstM hH
  have hlen : its.toArray.size * k.toNat ≤ sizeLine := by rw [List.size_toArray, ← hl]; exact hz
  have hcap : ¬ its.toArray.size * k.toNat > (2 ^ 63 - 1) / 8 := by
    have : (sizeLine : Nat) ≤ (2 ^ 63 - 1) / 8 := by decide
    omega
  have hfit : ¬ (!Builtin.List.listFitsIndex k) = true := by
    rw [fitsIndex_both h1 h2]
    exact Bool.false_ne_true
  have hlong : ¬ Builtin.List.listTooLong (its.toArray.size * k.toNat) = true := by
    rw [notLongL hlen]
    exact Bool.false_ne_true
  have hnew : List.foldl (fun x1 x2 => x1 ++ x2) #[] (List.replicate (if its.toArray.isEmpty = true then 0 else k.toNat) its.toArray) = (List.replicate k.toNat its).flatten.toArray := by
    have f0 : ∀ m : Nat, List.foldl (fun x1 x2 => x1 ++ x2) #[] (List.replicate m its.toArray) = (List.replicate m its).flatten.toArray := fun m => by
      have := foldl_rep its m []
      rw [List.nil_append] at this
      exact this
    rw [f0]
    cases its with
    | nil => simp
    | cons a r' => rw [if_neg (by simp)]
  refine wpAny_binaryOp_repeat_ref (T := "list") (U := "int") (by decide) ⟨_, e, rfl⟩ (fun s' => typeIs_int s' k t) noFill_list_mul F.fills_int_mul F.slot_int_rmul repeat_list F.slot_int_index.lookup
    (call_meets F.slot_int_rmul (typeIs_int s k t) F.entry_int_rmul (F.args_int_rmul_2 _ _) (int___rmul___int_list k t l its.toArray n)
      ⟨e, rfl, ⟨_, e, rfl⟩, call_meets F.slot_list_mul ⟨_, e, rfl⟩ F.entry_list_mul (F.args_list_mul_2 _ _) (AutoListH.list___mul___list_int_3 l its.toArray n k t hfit hcap hlong) ⟨e, ?_⟩⟩)
  rw [hnew]
  exact ⟨.ref _, _, I.lnew (t' := s.toks) (r.rep k.toNat) (by rw [len_rep, Nat.mul_comm]; exact hz), rfl, q _ I.fresh⟩

/-! ### del xs[i] -/
theorem del_list {pins : List (Addr × Obj)} {s : Shared} {σ : St} {H : Hp} {l : Addr} {xs : List V} {i : Int} {t : Tok} {k : Nat} {Q : Unit → Shared → Prop} (I : Inv X pins σ H s) (hH : H l = some (.lst xs))
    (h1 : -(2 ^ 63) ≤ i) (h2 : i < 2 ^ 63) (hk : seqIndex? i xs.length = some k) (h : ∀ s', Inv X pins σ (upd H l (.lst (xs.eraseIdx k))) s' → Q () s') :
    wpAny (model X.prog X.w) X.A (delItem (.ref l) (.int i t)) Q X.xe s := by
  obtain ⟨z, its, n, r, hl, e⟩ := I.lstM hH
  refine PySem.P.delItem_list (k := k) e (fitsIndex_both h1 h2) (by rw [List.size_toArray, ← hl]; exact hk) (h _ ?_) (by rw [List.size_toArray]; omega)
  refine I.lset (its' := its.eraseIdx k) (t' := s.toks) hH e ?_ (r.eraseIdx k) ?_
  · show its.toArray.eraseIdxIfInBounds k = (its.eraseIdx k).toArray
    rw [List.eraseIdxIfInBounds_toArray]
  · have := len_erase xs k
    omega
end

/-! ### xs[a:b] = ys -/
section
variable {prog : Program} {w : World} {A : Around} {E : Value → Shared → Prop} {s : Shared}
theorem splice_eq (its its2 : List Value) (a c : Nat) : its.toArray.extract 0 a ++ its2.toArray ++ its.toArray.extract c its.toArray.size = (its.take a ++ its2 ++ its.drop c).toArray := by
  apply Array.toList_inj.mp
  first
    | (simp
       exact List.take_of_length_le (by simp))
    | simp [List.take_of_length_le]
    | simp
theorem bounds_run {a c n : Nat} (hac : a ≤ c) (hc : c ≤ n) : sliceBounds (some (a : Int)) (some (c : Int)) none n = ((a : Int), (c : Int), 1) := by
  simp only [sliceBounds, Option.getD_none]
  have h1 : ¬ ((a : Int) < 0) := by omega
  have h2 : ¬ ((c : Int) < 0) := by omega
  simp only [h1, h2, if_false, show (1 : Int) > 0 by decide, if_true]
  congr 1
  · omega
  · congr 1; omega
set_option maxRecDepth 100000 in
/-- list.__setitem__ with a slice of step one and another list -/
theorem setItem_slice {l b sl : Addr} {items new : Array Value} {n n2 : Nat} {vl vu : Value} {a c : Nat} {Q : Unit → Shared → Prop}
    (e : s.heap.get? l = some { cls := .type "list", data := .seq items n }) (e2 : s.heap.get? b = some { cls := .type "list", data := .seq new n2 }) (hne : l ≠ b)
    (hs : s.heap.IsSliceOf sl vl vu .none) (pl : IsPart vl (some (a : Int))) (pu : IsPart vu (some (c : Int))) (hac : a ≤ c) (hc : c ≤ items.size)
    (hsz : items.size + new.size ≤ sizeLine) (h : Q () { s with heap := s.heap.update l (Obj.mapSeq fun xs => xs.extract 0 a ++ new ++ xs.extract c xs.size) }) :
    wpAny (model prog w) A (setItem (.ref l) (.ref sl) (.ref b)) Q E s := by
  have hl : s.heap.IsList l items := PySem.IsL.isList e
  have hb : s.heap.IsList b new := PySem.IsL.isList e2
  obtain ⟨os, hos, hcs, hds⟩ := id hs
  have hTs : s.TypeIs (.ref sl) "slice" := ⟨os, hos, hcs⟩
  have hstep : ¬ ((rawPart none == rawInt 0) = true) := Bool.false_ne_true
  have hsame : Builtin.List.listSameRef (.ref l) (.ref b) = false := by
    unfold Builtin.List.listSameRef
    exact beq_eq_false_iff_ne.mpr hne
  have hmax : (max (a : Int) (c : Int)).toNat = c := by omega
  have hz' : ((fun xs : Array Value => xs.extract 0 a ++ new ++ xs.extract c xs.size) items).size ≤ sizeLine + 1 := by
    simp only [Array.size_append, Array.size_extract]
    omega
  unfold setItem
  try with_reducible refine wpAny_holding ?_
  first | refine wpAny_bind (wpAny_pure ?_) | skip
  refine wpAny_bind (wpAny_sequenceKey hl.typeIs (by decide) ?_)
  refine wpAny_bind (wpAny_callSpecial?_slot (name := Str.ofString "__setitem__") hl.typeIs slot_list_setitem
    (wpAny_call_entry slot_list_setitem hl.typeIs entry_list_setitem ?_ (args_list_setitem _ _ _)))
  show wpAny _ _ (Builtin.List.listSubscript? (.ref sl) >>= _) _ _ s
  refine wpAny_bind ?_
  unfold Builtin.List.listSubscript?
  refine wpAny_bind (wpAny_specialOf hTs slice_no_index ?_)
  simp only [Option.isNone_none, if_true]
  refine wpAny_pure ?_
  show wpAny _ _ (typeOf (.ref sl) >>= _) _ _ s
  refine wpAny_bind (wpAny_typeOf hTs ?_)
  first
    | rw [if_neg (by decide)]
    | refine PySem.W.KFB.if_not (by decide) ?_
  rw [listSliceParts_eq]
  refine wpAny_bind (wpAny_bind (wpAny_field hos hds (x := .none) rfl (wpAny_bind (wpAny_listPart .none ?_))))
  rw [if_neg hstep]
  refine wpAny_bind (wpAny_field hos hds (x := vl) rfl (wpAny_bind (wpAny_listPart pl ?_)))
  refine wpAny_bind (wpAny_field hos hds (x := vu) rfl (wpAny_bind (wpAny_listPart pu (wpAny_pure ?_))))
  first
    | simp only [hsame, Bool.false_eq_true, if_false]
    | refine PySem.W.KFB.if_not hsame ?_
    | (dsimp only
       rw [if_neg (by rw [hsame]; exact Bool.false_ne_true)])
  refine wpAny_bind (m := Builtin.List.listAllItems (.ref b) "must assign iterable to extended slice") ?_
  unfold Builtin.List.listAllItems
  refine wpAny_bind (wpAny_typeOf hb.typeIs ?_)
  first
    | refine PySem.W.KFB.if_so (by decide) ?_
    | rw [if_pos (by decide)]
    | simp only [beq_self_eq_true, Bool.true_or, if_true]
  unfold Builtin.List.listItems
  refine wpAny_bind (wpAny_seqItems e2 rfl (wpAny_pure ?_))
  refine wpAny_bind (wpAny_bind (wpAny_seqItems e rfl (wpAny_pure ?_)))
  refine wpAny_bind (wpAny_of_eq ((sliceIndices_raw (some (a : Int)) (some (c : Int)) none items.size (by simp)).trans (congrArg (pure : Int × Int × Int → Sem (Int × Int × Int)) (bounds_run hac hc))) ?_)
  show wpAny _ _ (if ((1 : Int) == 1) = true then _ else _) _ _ s
  rw [if_pos (by decide)]
  refine wpAny_bind (wpAny_rule ?_)
  first
    | simp only [notLongL hsz, Bool.false_eq_true, if_false]
    | refine PySem.W.KFB.if_not (notLongL hsz) ?_
  first | refine wpAny_bind (wpAny_pure ?_) | skip
  show wpAny _ _ (updateSeq l (fun xs => xs.extract 0 ((a : Int)).toNat ++ new ++ xs.extract (max (a : Int) (c : Int)).toNat xs.size) >>= _) _ _ s
  rw [hmax, Int.toNat_natCast]
  refine wpAny_bind (wpAny_updateSeq (hz := Nat.le_trans (Nat.le_add_right _ _) hsz) (_hz' := hz') e rfl ?_)
  refine wpAny_bind (wpAny_letGo ?_)
  first
    | exact wpAny_bind (wpAny_pure (wpAny_pure ⟨.none, rfl, wpAny_pure h⟩))
    | exact wpAny_pure ⟨.none, rfl, wpAny_pure h⟩
end

section
variable {X : Cx}
/-- xs[a:c] = ys of another list, at the value level: sl is the slice object that was just made -/
theorem set_slice {pins : List (Addr × Obj)} {s : Shared} {σ : St} {H : Hp} {l b sl : Addr} {xs ys : List V} {a c : Int} {vl vu : Value} {Q : Unit → Shared → Prop} (I : Inv X pins σ H s)
    (hH : H l = some (.lst xs)) (hB : H b = some (.lst ys)) (hne : l ≠ b) (hs : s.heap.IsSliceOf sl vl vu .none) (ra : RelV (.int a) vl) (rc : RelV (.int c) vu) (h0 : 0 ≤ a) (hac : a ≤ c) (hc : c ≤ xs.length)
    (hz : xs.length + ys.length ≤ sizeLine) (h : ∀ s', Inv X pins σ (upd H l (.lst (xs.take a.toNat ++ ys ++ xs.drop c.toNat))) s' → Q () s') :
    wpAny (model X.prog X.w) X.A (setItem (.ref l) (.ref sl) (.ref b)) Q X.xe s := by
  obtain ⟨ta, rfl⟩ := ra
  obtain ⟨tc, rfl⟩ := rc
  obtain ⟨z, its, n, r, hl, e⟩ := I.lstM hH
  obtain ⟨z2, its2, n2, r2, hl2, e2⟩ := I.lstM hB
  obtain ⟨a', rfl⟩ := Int.eq_ofNat_of_zero_le h0
  obtain ⟨c', rfl⟩ := Int.eq_ofNat_of_zero_le (Int.le_trans h0 hac)
  simp only [Int.toNat_natCast] at h
  refine setItem_slice (a := a') (c := c') e e2 hne hs (.int _ _) (.int _ _) (by omega) (by rw [List.size_toArray]; omega) (by rw [List.size_toArray, List.size_toArray]; omega) (h _ ?_)
  refine I.lset (its' := its.take a' ++ its2 ++ its.drop c') (t' := s.toks) hH e ?_ (Vals.append (Vals.append (r.take _) r2) (r.drop _)) ?_
  · exact splice_eq its its2 a' c'
  · rw [List.length_append, List.length_append, List.length_take, List.length_drop]
    omega
end
end L2

namespace Att
open PySem PySem.W PySem.Calls PyProof.Rows

/-! ### the script -/
theorem ints_of_wellAll {P : Params} {h : Heap} : ∀ (ns : List Int) (vs : List Value), WellAll P h vs (ns.map WData.int) → IntsAre vs ns := by
  intro ns
  induction ns with
  | nil =>
    intro vs w
    rw [List.map_nil] at w
    cases w
    exact .nil
  | cons n ns ih =>
    intro vs w
    rw [List.map_cons] at w
    cases w with
    | cons a b =>
      cases a
      exact .cons _ _ (ih _ b)

theorem script_of {l : OpenLaw} {n : Nat} (hn : l.most = some n) {P : Params} {h : Heap} {args : List WData} {vals : List Value}
    (hpre : l.row.toRowW.claim.pre args = true) (hwl : WellAll P h vals args) :
    ∃ a vs ns, vals = [Value.ref a] ∧ args = [WData.list (ns.map WData.int)] ∧ h.get? a = some { cls := .type "list", data := .seq vs.toArray } ∧ IntsAre vs ns ∧ ns.length ≤ n := by
  have hsh : WShape.hasAll [] args [.list .int] = true := (pre_splitW hpre).1
  have hc : l.pre.holds [] { args := args } = true := (pre_splitW hpre).2
  obtain ⟨d, r, rfl, h1, h2⟩ := hasAllW_cons hsh
  obtain rfl := hasAllW_nil h2
  obtain ⟨xs, rfl, h3⟩ := hasW_list h1
  obtain ⟨ns, rfl⟩ := items_int h3
  have hlen : ns.length ≤ n := by
    unfold OpenLaw.pre at hc
    have h4 : (WTm.not (.lt (.lit (.int (n : Int))) (.len (.arg 0)))).holds [] { args := [.list (ns.map .int)] } = true := by
      have h4 := (holds_andW hc).1
      rw [hn] at h4
      exact h4
    have h5 := condW_of h4 (w_not (w_lt w_lit (w_len_list (w_arg rfl))))
    rw [List.length_map] at h5
    refine Nat.le_of_not_lt fun q => ?_
    have q' : (n : Int) < ((ns.length : Nat) : Int) := by omega
    first
      | (rw [decide_eq_true q'] at h5; exact absurd h5 (by decide))
      | (simp at h5; omega)
  cases hwl with
  | cons w1 w2 =>
    cases w2
    cases w1 with
    | list ho hall => exact ⟨_, _, ns, rfl, rfl, ho, ints_of_wellAll ns _ hall, hlen⟩

theorem post_true (l : OpenLaw) (args : List WData) : l.row.toRowW.claim.post args (.bool true) args = true :=
  postW_of (r := l.row.toRowW) (X := (true == true))
    (show WShape.has [] (.bool true) .bool = true by first | rfl | decide | simp [WShape.has, WShape.arms, WShape.armsAll])
    (show (WTm.eq .res (.lit (.bool true))).value [] { args := args, res := some (.bool true), after := args } = some (.bool (true == true)) from w_eq_bool (w_res rfl) w_lit) rfl

/-! ### the attachment: holds_open's last premise (the goal 'hc' behind k_head) from a wpAny of the law's body -/
theorem attach {l : OpenLaw} {n : Nat} {q : Program} {loose : List Str} {XP : (Str → Option Value) → Heap → Prop} {YP : World → Heap → Prop} {d : DefRec} {x : Str}
    (hn : l.most = some n) (hdf : d.params.defaults = [])
    (hbind : ∀ pm cd doc v : Value, bindArgs (docDef d.name d.params d.body d.scope pm cd doc) ⟨[v], []⟩ = pure [(x, v)])
    (hx : d.scope.names.lookup x = some .local ∨ d.scope.names.lookup x = some .cell)
    (hk : d.scope.kind = .function) (hco : d.scope.isCoroutine = false) (hgen : d.scope.isGenerator = false)
    (body : ∀ (w : World) (s₀ s₁ s : Shared) (mg mb : Str → Option Value) (fa : Addr) (o : Obj) (pm cd doc : Value) (a : Addr) (vs : List Value) (ns : List Int),
      Ground q loose [] XP w s₀ mg mb s₁.heap → YP w s₁.heap →
      s₁.heap.get? fa = some o → o.data = .func (docDef d.name d.params d.body d.scope pm cd doc) → s₁.heap.CodeRec cd d.name → mg d.name = some (.ref fa) →
      s₁.heap.get? a = some { cls := .type "list", data := .seq vs.toArray } → IntsAre vs ns → ns.length ≤ n →
      s.gens = #[] → s.os = s₁.os →
      Fr s₁.heap s₁.heap.objs.size s.heap (bindL (envOfC d.name d.scope s₁.heap.objs.size fa cd).kindOf [(x, .ref a)] fun _ => none) →
      Cl s₁.heap.objs.size (cellsFrom (s₁.heap.objs.size + 1) d.scope.names []) s.heap (bindC (envOfC d.name d.scope s₁.heap.objs.size fa cd).kindOf [(x, .ref a)] fun _ => none) →
      wpAny (model l.prog w) (callerA.deeper (envOfC d.name d.scope s₁.heap.objs.size fa cd)) (execs d.body (envOfC d.name d.scope s₁.heap.objs.size fa cd))
        (fun f s' => f = .ret (.bool true) ∧ OldK s₁.heap s'.heap ∧ s'.os = s₁.os ∧ AllBare s'.gens) (fun _ _ => False) s) :
    WalkO q loose XP YP l.row.toRowW d [] (fun f vs => PySem.call f vs) := by
  intro w s₀ s₁ mg mb G Y fa o pm cd doc dV kV ho hd hcd hD hmg hg args vals as hpre hlay hrd hwl hlo
  obtain rfl : dV = .none := Dflts.none hD hdf
  obtain rfl : kV = .none := Dflts.noKw hD
  obtain ⟨a, vs, ns, rfl, rfl, hobj, hints, hlen⟩ := script_of hn hpre hwl
  refine enter_call ?_
  refine call_cells_ret (o := o) (by rw [depth_caller]; decide) ho (fd_plain hd) G.T.nolimit hcd (hbind pm cd doc (.ref a)) (fun y hy => ?_) (fun h₁ tk F X => ?_) hco hgen hk
  · obtain rfl : y = (x, Value.ref a) := List.mem_singleton.mp hy
    rcases hx with e | e
    · exact .inl e
    · exact .inr ⟨e, cellsFrom_some _ _ _ (.inl e)⟩
  · refine wpAny_mono (body w s₀ s₁ { s₁ with heap := h₁, toks := tk } mg mb fa o pm cd doc a vs ns G Y ho (fd_plain hd) hcd hmg hobj hints hlen hg rfl F X) (fun f s' hq => ?_) (fun _ _ hq => hq)
    obtain ⟨rfl, h2, h3, h4⟩ := hq
    exact ⟨.inl ⟨.bool true, .bool true, [], rfl, fun _ => rfl, .bool true, post_true l _, fun _ => ⟨List.Pairwise.nil, fun _ hm => (nomatch hm)⟩⟩, h2, h3, h4⟩

/-- the same from a codeAny of the CALL (for a layer whose function contracts speak of calls) -/
theorem attach_call {l : OpenLaw} {n : Nat} {q : Program} {loose : List Str} {XP : (Str → Option Value) → Heap → Prop} {YP : World → Heap → Prop} {d : DefRec}
    (hn : l.most = some n) (hdf : d.params.defaults = [])
    (call : ∀ (w : World) (s₀ s₁ : Shared) (mg mb : Str → Option Value) (fa : Addr) (o : Obj) (pm cd doc : Value) (a : Addr) (vs : List Value) (ns : List Int),
      Ground q loose [] XP w s₀ mg mb s₁.heap → YP w s₁.heap →
      s₁.heap.get? fa = some o → o.data = .func (docDef d.name d.params d.body d.scope pm cd doc) → s₁.heap.CodeRec cd d.name → mg d.name = some (.ref fa) →
      s₁.heap.get? a = some { cls := .type "list", data := .seq vs.toArray } → IntsAre vs ns → ns.length ≤ n → s₁.gens = #[] →
      codeAny (model l.prog w) callerA (.call (.ref fa) ⟨[.ref a], []⟩) (fun r s' => r = .ok (.ret (.bool true)) ∧ OldK s₁.heap s'.heap ∧ s'.os = s₁.os ∧ AllBare s'.gens) s₁) :
    WalkO q loose XP YP l.row.toRowW d [] (fun f vs => PySem.call f vs) := by
  intro w s₀ s₁ mg mb G Y fa o pm cd doc dV kV ho hd hcd hD hmg hg args vals as hpre hlay hrd hwl hlo
  obtain rfl : dV = .none := Dflts.none hD hdf
  obtain rfl : kV = .none := Dflts.noKw hD
  obtain ⟨a, vs, ns, rfl, rfl, hobj, hints, hlen⟩ := script_of hn hpre hwl
  refine enter_call (codeAny_mono (call w s₀ s₁ mg mb fa o pm cd doc a vs ns G Y ho (fd_plain hd) hcd hmg hobj hints hlen hg) fun r s' hq => ?_)
  obtain ⟨rfl, h2, h3, h4⟩ := hq
  exact ⟨.inl ⟨.bool true, .bool true, [], rfl, fun _ => rfl, .bool true, post_true l _, fun _ => ⟨List.Pairwise.nil, fun _ hm => (nomatch hm)⟩⟩, h2, h3, h4⟩

/-- the same where the top left finished generators (o_head chose holds_openN): nothing may have changed at all and no generator may be left -/
theorem attachN {l : OpenLaw} {n : Nat} {q : Program} {loose : List Str} {XP : (Str → Option Value) → Heap → Prop} {YP : World → Heap → Prop} {d : DefRec} {x : Str}
    (hn : l.most = some n) (hdf : d.params.defaults = [])
    (hbind : ∀ pm cd doc v : Value, bindArgs (docDef d.name d.params d.body d.scope pm cd doc) ⟨[v], []⟩ = pure [(x, v)])
    (hx : d.scope.names.lookup x = some .local ∨ d.scope.names.lookup x = some .cell)
    (hk : d.scope.kind = .function) (hco : d.scope.isCoroutine = false) (hgen : d.scope.isGenerator = false)
    (body : ∀ (w : World) (s₀ s₁ s : Shared) (mg mb : Str → Option Value) (fa : Addr) (o : Obj) (pm cd doc : Value) (a : Addr) (vs : List Value) (ns : List Int),
      Ground q loose [] XP w s₀ mg mb s₁.heap → YP w s₁.heap →
      s₁.heap.get? fa = some o → o.data = .func (docDef d.name d.params d.body d.scope pm cd doc) → s₁.heap.CodeRec cd d.name → mg d.name = some (.ref fa) →
      s₁.heap.get? a = some { cls := .type "list", data := .seq vs.toArray } → IntsAre vs ns → ns.length ≤ n →
      s.gens = #[] → s.os = s₁.os →
      Fr s₁.heap s₁.heap.objs.size s.heap (bindL (envOfC d.name d.scope s₁.heap.objs.size fa cd).kindOf [(x, .ref a)] fun _ => none) →
      Cl s₁.heap.objs.size (cellsFrom (s₁.heap.objs.size + 1) d.scope.names []) s.heap (bindC (envOfC d.name d.scope s₁.heap.objs.size fa cd).kindOf [(x, .ref a)] fun _ => none) →
      wpAny (model l.prog w) (callerA.deeper (envOfC d.name d.scope s₁.heap.objs.size fa cd)) (execs d.body (envOfC d.name d.scope s₁.heap.objs.size fa cd))
        (fun f s' => f = .ret (.bool true) ∧ (∀ b o, s₁.heap.get? b = some o → s'.heap.get? b = some o) ∧ s'.os = s₁.os ∧ s'.gens = #[]) (fun _ _ => False) s) :
    WalkN q loose XP YP l.row.toRowW d [] (fun f vs => PySem.call f vs) := by
  intro w s₀ s₁ mg mb G Y fa o pm cd doc dV kV ho hd hcd hD hmg hg args vals as hpre hlay hrd hwl hlo
  obtain rfl : dV = .none := Dflts.none hD hdf
  obtain rfl : kV = .none := Dflts.noKw hD
  obtain ⟨a, vs, ns, rfl, rfl, hobj, hints, hlen⟩ := script_of hn hpre hwl
  refine enter_callW ?_
  refine call_cells_ret (o := o) (by rw [depth_caller]; decide) ho (fd_plain hd) G.T.nolimit hcd (hbind pm cd doc (.ref a)) (fun y hy => ?_) (fun h₁ tk F X => ?_) hco hgen hk
  · obtain rfl : y = (x, Value.ref a) := List.mem_singleton.mp hy
    rcases hx with e | e
    · exact .inl e
    · exact .inr ⟨e, cellsFrom_some _ _ _ (.inl e)⟩
  · refine wpAny_mono (body w s₀ s₁ { s₁ with heap := h₁, toks := tk } mg mb fa o pm cd doc a vs ns G Y ho (fd_plain hd) hcd hmg hobj hints hlen hg rfl F X) (fun f s' hq => ?_) (fun _ _ hq => hq)
    obtain ⟨rfl, h2, h3, h4⟩ := hq
    exact ⟨.inl ⟨.bool true, .bool true, [], rfl, fun _ => rfl, .bool true, post_true l _, fun _ => ⟨List.Pairwise.nil, fun _ hm => (nomatch hm)⟩⟩, h2, h3, h4⟩

/-! ### rules over ANY heap (no ledger) from facts about the written part K: the library's own take a ledger (News) for what they write -/
section
variable {prog : Program} {w : World} {A : Around} {E : Value → Shared → Prop} {s : Shared} {K : Frag}

/-- a def of the module, or a method (qual 'C.m'), entered: the frame is the next address; cells behind it -/
theorem call_fn {R : Result → Shared → Prop} {name qual : Str} {params : Arguments} {body : List Stmt} {scope : Scope} {dV kV doc pm cdv ct oc : Value} {an od : Option Addr} {osl : Array (Option Value)} {f : Addr} {args : Args} {binds : List (Str × Value)}
    (X : K.In s.heap) (hlim : s.heap.NoLimit) (ho : K.lookup f = some ⟨oc, od, .func (fnOf name qual params body scope dV kV doc pm an cdv ct), osl⟩) (hcd : codeIn K cdv qual = true) (hroom : A.depth < recursionLimit)
    (hbind : BindsTo s (fnOf name qual params body scope dV kV doc pm an cdv ct) args binds)
    (hkind : (binds.all fun y => scope.names.lookup y.1 == some .local || scope.names.lookup y.1 == some .cell) = true)
    (h : ∀ s₁, InCallC s s.heap.objs.size (bindL (envOfC qual scope s.heap.objs.size f cdv).kindOf binds fun _ => none) (cellsFrom (s.heap.objs.size + 1) scope.names [])
        (bindC (envOfC qual scope s.heap.objs.size f cdv).kindOf binds fun _ => none) s₁ →
      wpAny (model prog w) (A.deeper (envOfC qual scope s.heap.objs.size f cdv)) (execs body (envOfC qual scope s.heap.objs.size f cdv))
        (fun fl s' => R (.ok (.ret (match fl with | .ret v => v | _ => .none))) s')
        (fun e s' => wpAny (model prog w) (A.deeper (envOfC qual scope s.heap.objs.size f cdv)) (leaving (envOfC qual scope s.heap.objs.size f cdv) e) (fun _ s'' => R (.error e) s'') (fun e' s'' => R (.error e') s'') s') s₁)
    (hco : scope.isCoroutine = false) (hgen : scope.isGenerator = false) (hk : scope.kind = .function) : codeAny (model prog w) A (.call (.ref f) args) R s := by
  refine codeAny_call_function hroom (X _ _ ho) rfl hco hgen rfl (codeRec_of X hcd) (hbind _ _ _ _ ?_)
  refine wpAny_newFunctionEnv_cells hk (kindsX hkind _) fun env he s₁ x => ?_
  subst he
  exact ⟨hlim.keeps x.toInCall.keep, codeAny_func (h s₁ x)⟩

/-- C(..): dict at size, instance at size + 1, then __init__ -/
theorem make_obj {R : Result → Shared → Prop} {C fI : Addr} {rest : List Value} {kw : List (Str × Value)}
    (X : K.In s.heap) (hm : makesIn K C = true) (hi : findIn K (.ref C) "__init__" = some (some (.ref fI))) (hf : isFn K (.ref fI) = true)
    (h : codeAny (model prog w) (A.under (.builtin "type.__call__" ⟨.ref C :: rest, kw⟩)) (.call (.ref fI) ⟨.ref (s.heap.objs.size + 1) :: rest, kw⟩) (InitBack (s.heap.objs.size + 1) R)
      { s with heap := (s.heap.push emptyDict).push (instObj C s.heap.objs.size) }) : codeAny (model prog w) A (.call (.ref C) ⟨rest, kw⟩) R s := by
  obtain ⟨hh, g, d, t, os⟩ := s
  exact make_core (makes_of X hm) (looks_findIn X hi) (fun self => bind_fn X self (beq_iff_eq.mp hf)) (.inl rfl) h

/-- x.name where the instance's dict holds the name and the class does not -/
theorem get_field {x C : Addr} {ox : Obj} {es : List DictEntry} {n : Nat} {name : Str} {expr : Bool} {v : Value} {Q : Value → Shared → Prop}
    (X : K.In s.heap) (I : PySem.W.InstAt s.heap x ox C (some (dictOf es n))) (hg : plainGet K C name = true) (hh : hasDictIn K C = true) (ha : findIn K (.ref C) name = some none)
    (hl : getL name es = some (some v)) (hv : handedIn v = true) (h : Q v { s with toks := s.toks + 1 }) : wpAny (model prog w) A (getAttr (.ref x) name expr) Q E s :=
  get_value X I (plainGet_of hg).1 (findObj_own hh ha rfl hl) hv h

/-- x.m(..): the method found in the class -/
theorem get_method {x C f : Addr} {ox : Obj} {es : List DictEntry} {n : Nat} {name : Str} {pl : Sem Bool} {Q : Value × List Value → Shared → Prop}
    (X : K.In s.heap) (I : PySem.W.InstAt s.heap x ox C (some (dictOf es n))) (hg : plainGet K C name = true) (hf : findIn K (.ref C) name = some (some (.ref f))) (ht : isFn K (.ref f) = true)
    (hl : getL name es = some none) (h : Q (.ref f, [.ref x]) s) : wpAny (model prog w) A (getMethod (.ref x) name pl) Q E s :=
  method_fn X I (plainGet_of hg).1 (plainGet_of hg).2 hf (beq_iff_eq.mp ht) (by show (lookIn name (dictOf es n)).map _ = _; rw [lookIn_dict, hl]; rfl) h

/-! the whole heap as the ledger: makes every rule that writes through a ledger a rule over any heap -/
def noObjs (h : Heap) : Heap := { h with objs := #[] }
theorem noObjs_get (h : Heap) (b : Addr) : (noObjs h).get? b = none := by
  cases e : (noObjs h).get? b with
  | none => rfl
  | some o => exact absurd (Heap.lt_size e) (Nat.not_lt_zero _)
def ledger (h : Heap) (L d : Addr) : List (Addr × Obj) := (List.range h.objs.size).filterMap fun a => if a = L ∨ a = d then none else (h.get? a).map fun o => (a, o)
theorem mem_ledger {h : Heap} {L d a : Addr} {o : Obj} : (a, o) ∈ ledger h L d ↔ a ≠ L ∧ a ≠ d ∧ h.get? a = some o := by
  unfold ledger
  rw [List.mem_filterMap]
  constructor
  · rintro ⟨b, _, e⟩
    split at e
    · cases e
    · rename_i hb
      obtain ⟨o', ho, e'⟩ := Option.map_eq_some_iff.mp e
      cases e'
      exact ⟨fun q => hb (.inl q), fun q => hb (.inr q), ho⟩
  · rintro ⟨n1, n2, ho⟩
    refine ⟨a, List.mem_range.mpr (Heap.lt_size ho), ?_⟩
    rw [if_neg (show ¬ (a = L ∨ a = d) from fun q => q.elim n1 n2), ho] <;> rfl
theorem news_ledger {h : Heap} {L d : Addr} {od : Obj} (hne : d ≠ L) (ho : h.get? d = some od) : News (noObjs h) L h ([] ++ (d, od) :: ledger h L d) := by
  rintro ⟨a, o⟩ hp
  rcases List.mem_cons.mp hp with e | hp
  · cases e
    exact ⟨ho, hne, noObjs_get _ _⟩
  · obtain ⟨n1, n2, e⟩ := mem_ledger.mp hp
    exact ⟨e, n1, noObjs_get _ _⟩
theorem fr_all {h : Heap} {L : Addr} {m : Str → Option Value} (n : h.Ns L m) : Fr (noObjs h) L h m :=
  ⟨n, fun b o e => (by rw [noObjs_get] at e; cases e), Nat.zero_le _⟩
/-- Upd of the head entry (for append_K, setItem_K ..) -/
theorem upd_ledger {h : Heap} {L d : Addr} {o o' : Obj} : Upd d o o' ((d, o) :: ledger h L d) ((d, o') :: ledger h L d) :=
  .head fun ⟨_, _⟩ hp => (mem_ledger.mp hp).2.1

/-- x.name = v over any heap: L is any namespace of the heap (the frame's, say): its map stays, its object is not told; all else but the dict stays -/
theorem set_field {x C dx L : Addr} {ox : Obj} {m : Str → Option Value} {es es' : List DictEntry} {n n' : Nat} {name : Str} {v : Value} {Q : Unit → Shared → Prop}
    (X : K.In s.heap) (I : PySem.W.InstAt s.heap x ox C (some (dictOf es n))) (hd : ox.dict = some dx) (hL : s.heap.Ns L m) (hne : dx ≠ L)
    (hs : findIn K (.ref C) "__setattr__" = some (some (.builtin "object.__setattr__"))) (hp : plainOver K C = true) (ht : takerIn K C name = some none) (hh : hasDictIn K C = true) (hl : (getL name es).isSome = true)
    (e : (putL name (PyData.keyHash w.params name) (.str name (s.toks + 1)) v es, putN name es n) = (es', n')) (hz : es'.length ≤ 1000)
    (h : ∀ h' : Heap, h'.Ns L m → h'.get? dx = some (dictOf es' n') → (∀ b o, b ≠ dx → b ≠ L → s.heap.get? b = some o → h'.get? b = some o) → Q () { s with heap := h', toks := s.toks + 2 }) :
    wpAny (model prog w) A (setAttr (.ref x) name v) Q E s := by
  obtain ⟨e1, e2⟩ := Prod.mk.inj e
  have hdx : s.heap.get? dx = some (dictOf es n) := by
    have := I.dict
    rw [hd] at this
    exact this
  refine set_plain X I hs (osa_dict (s := { s with toks := s.toks + 1 }) (h₀ := noObjs s.heap) (L := L) (m := m) (od := dictOf es n) (od' := dictOf es' n') (es := es') (n := n') (pre := []) (post := ledger s.heap L dx)
    (fr_all hL) (news_ledger hne hdx) X I hd hp ht hh hl (fun _ q => nomatch q) (fun ⟨_, _⟩ q => (mem_ledger.mp q).2.1) (by rw [putName_dict, e1, e2]) rfl hz fun h' F' N' => ?_)
  exact h h' F'.ns (N'.get (List.Mem.head _)) fun b o n1 n2 ho => N'.get (List.Mem.tail _ (mem_ledger.mpr ⟨n2, n1, ho⟩))
end
end Att

namespace L2
open PySem PySem.Spec PyProof.Rows

theorem vals_ints : ∀ {vs : List Value} {ns : List Int}, IntsAre vs ns → Vals (ns.map V.int) vs
  | _, _, .nil => .nil
  | _, _, .cons n t h => .cons ⟨t, rfl⟩ (vals_ints h)

/-- nothing is tracked but the script, known to the object (or it is an object of the module) -/
def Only (H : Hp) : Prop := ∀ b, H b = none ∨ ∃ o xs, H b = some (.frz o (.lst xs))

/-- THE HEAD: the law's promise, at the heap behind the top. F, the promise of the law's def, may use that base is part of the heap (so K.In base, base.Ns mainGlobals mg stand in Mod) -/
theorem law_call {P : Program} {w : World} {K : PySem.W.Frag} {mg mb : Str → Option Value} {CX : CXT} {k : Nat} {fa a : Addr} {fd : FuncData} {x : Str} {sp : Sp} {s₁ : Shared} {vs : List Value} {ns : List Int}
    (KX : K.In s₁.heap) (hns : s₁.heap.Ns mainGlobals mg) (hb : s₁.heap.Ns builtinsNs mb) (hbb : ∀ x : Str, x ≠ "__name__" → mb x = bootBuiltins x) (hlim : s₁.heap.NoLimit) (hg : s₁.gens = #[])
    (ha : s₁.heap.get? a = some { cls := .type "list", data := .seq vs.toArray }) (hi : IntsAre vs ns) (hl : ns.length ≤ sizeLine) (hr : Room k callerA)
    (F : ∀ base : Heap, K.In base → base.Ns mainGlobals mg → FnOk P w K mg base CX k fa fd [x] sp) (hbind : ∀ (s : Shared) (u : Value), BindsTo s fd ⟨[u], []⟩ [(x, u)])
    (hsp : ∀ H : Hp, Only H → SqL K H a (ns.map V.int) → sp [.ref a] H (fun v _ => v = .bl true) fun _ _ _ => False)
    (hCX : ∀ H e s', CX [] H s₁ (fun _ _ _ => False) e s' → False) :
    codeAny (model P w) callerA (.call (.ref fa) ⟨[.ref a], []⟩) (fun r s' => r = .ok (.ret (.bool true)) ∧ OldK s₁.heap s'.heap ∧ s'.os = s₁.os ∧ AllBare s'.gens) s₁ := by
  have rv := vals_ints hi
  have lenV := hi.length
  -- from an abstract heap in which nothing but the script may be tracked
  have core : ∀ H : Hp, Only H → SqL K H a (ns.map V.int) → HOk P w H s₁.heap → (∀ b, H b ≠ none → b = a) → (H a ≠ none → K.lookup a = none) →
      codeAny (model P w) callerA (.call (.ref fa) ⟨[.ref a], []⟩) (fun r s' => r = .ok (.ret (.bool true)) ∧ OldK s₁.heap s'.heap ∧ s'.os = s₁.os ∧ AllBare s'.gens) s₁ := by
    intro H hO hS hok hA hK
    have base_of : ∀ {b : Addr} {o : Obj}, s₁.heap.get? b = some o → H b = none → (hidT s₁.heap H).get? b = some o := fun e n => hidT_get e n
    have noA : ∀ {b : Addr} {o : Obj} {es : Array DictEntry} {ep : Nat}, s₁.heap.get? b = some o → o.data = .dict es ep → H b = none := fun {b o es ep} e d => by
      cases q : H b with
      | none => rfl
      | some u =>
        have e' : b = a := hA b (by rw [q]; simp)
        subst e'
        rw [ha] at e; cases e
        have d' : Data.seq vs.toArray _ = Data.dict es ep := d
        cases d'
    have nsK : ∀ {b : Addr} {m : Str → Option Value}, s₁.heap.Ns b m → (hidT s₁.heap H).Ns b m := fun {b m} ⟨o, es, ep, e, d, r⟩ => ⟨o, es, ep, base_of e (noA e d), d, r⟩
    have hKb : K.In (hidT s₁.heap H) := fun b o e => base_of (KX b o e) (by
      cases q : H b with
      | none => rfl
      | some u =>
        have e' : b = a := hA b (by rw [q]; simp)
        subst e'
        rw [hK (by rw [q]; simp)] at e; cases e)
    have hM : Mod K mg (hidT s₁.heap H) := ⟨hKb, nsK hns, ⟨mb, nsK hb, hbb⟩, let ⟨mc, h1, h2⟩ := hlim; ⟨mc, nsK h1, h2⟩⟩
    have e0 : Env0 P w K mg (hidT s₁.heap H) callerA [] s₁ H := ⟨rfl, hM, fun b o e => of_hidT e, Nat.le_of_eq (hidT_size _ _), trivial, fun b hb => absurd (show b ∈ ([] : List Addr) from hb) (by simp), hok, .of_eq hg⟩
    refine codeAny_mono ((F _ hKb (nsK hns)).run callerA [] s₁ H ⟨[.ref a], []⟩ [.ref a] [.ref a] _ _ hr e0 (hbind s₁ (.ref a)) (.cons rfl .nil) (hsp H hO hS)) fun r s' h => ?_
    cases r with
    | error e => exact (hCX H e s' h).elim
    | ok fl =>
      cases fl with
      | next => exact False.elim h
      | brk => exact False.elim h
      | cont => exact False.elim h
      | ret u =>
        obtain ⟨v, H', os, bare, un, hok', r', q⟩ := h
        have q' : v = .bl true := q
        subst q'
        obtain rfl : u = Value.bool true := r'
        refine ⟨rfl, OldK.of_keep fun b o e => ?_, os, bare⟩
        cases q : H b with
        | none => exact un.keep b o e q (by intro z; exact absurd (show b ∈ ([] : List Addr) from z) (by simp)) (by simp)
        | some u =>
          rcases hO b with z | ⟨ob, xs, z⟩
          · rw [q] at z; cases z
          · have z2 := un.frzs b ob _ z
            obtain ⟨e1, _⟩ := hok b _ z
            obtain ⟨e2, _⟩ := hok' b _ z2
            rw [e] at e1; cases e1
            exact e2
  cases hk : K.lookup a with
  | some o =>
    -- the script is one of the module's own objects
    have e := KX a o hk
    rw [ha] at e
    cases e
    refine core (fun _ => none) (fun _ => .inl rfl) (.inr ⟨_, vs.toArray, _, hk, rfl, rfl, rfl, by rw [List.size_toArray, lenV]; exact hl, by simpa using rv⟩) (fun b u z => by have z' : (none : Option HO) = some u := z; cases z') (fun b z => absurd rfl z) fun z => absurd rfl z
  | none =>
    refine core (fun b => if b = a then some (.frz { cls := .type "list", data := .seq vs.toArray } (.lst (ns.map V.int))) else none) (fun b => ?_) (.inl (.inr ⟨{ cls := .type "list", data := .seq vs.toArray }, if_pos rfl⟩)) (fun b u z => ?_) (fun b z => ?_) fun _ => hk
    · by_cases hb : b = a
      · exact .inr ⟨_, _, if_pos hb⟩
      · exact .inl (if_neg hb)
    · by_cases hb : b = a
      · have z' := (if_pos hb).symm.trans z
        cases z'
        subst hb
        exact ⟨ha, by rw [List.length_map]; exact hl, vs, _, rv, ha⟩
      · have z' := (if_neg hb).symm.trans z
        cases z'
    · by_cases hb : b = a
      · exact hb
      · exact absurd (if_neg hb) z
end L2

namespace L2
open PySem PySem.Spec PyProof.Rows

abbrev KOf {K : PySem.W.Frag} {h : Heap} (_ : K.In h) : PySem.W.Frag := K

/-- the goal that k_head leaves (case hc), from the law's promise. F gives the function object fd (K's own) once, then the promise over every base -/
theorem walk_of {l : PySem.W.OpenLaw} {n k : Nat} {q : Program} {loose : List Str} {XP : (Str → Option Value) → Heap → Prop} {YP : World → Heap → Prop} {d : DefRec} {K : Params → PySem.W.Frag} {CX : World → CXT} {sp : World → Sp} {x : Str}
    (hn : l.most = some n) (hn2 : n ≤ sizeLine) (hdf : d.params.defaults = []) (hr : Room k callerA)
    (hY : ∀ (w : World) (h : Heap), YP w h → (K w.params).In h)
    (F : ∀ (w : World) (mg : Str → Option Value) (fa : Addr) (h : Heap), (K w.params).In h → h.Ns mainGlobals mg → mg d.name = some (.ref fa) →
      ∃ fd : FuncData, (∀ (s : Shared) (u : Value), BindsTo s fd ⟨[u], []⟩ [(x, u)]) ∧
        ∀ base : Heap, (K w.params).In base → base.Ns mainGlobals mg → FnOk l.prog w (K w.params) mg base (CX w) k fa fd [x] (sp w))
    (hsp : ∀ (w : World) (H : Hp) (a : Addr) (ns : List Int), ns.length ≤ n → Only H → SqL (K w.params) H a (ns.map V.int) → sp w [.ref a] H (fun v _ => v = .bl true) fun _ _ _ => False)
    (hCX : ∀ (w : World) (H : Hp) (s : Shared) (e : Value) (s' : Shared), CX w [] H s (fun _ _ _ => False) e s' → False) :
    PySem.W.WalkO q loose XP YP l.row.toRowW d [] (fun f vs => PySem.call f vs) := by
  refine Att.attach_call hn hdf fun w s₀ s₁ mg mb fa o pm cd doc a vs ns G Y ho hd hcd hmg hobj hints hlen hg => ?_
  have KX := hY w _ Y
  obtain ⟨fd, hb, hF⟩ := F w mg fa _ KX G.T.g hmg
  exact law_call KX G.T.g G.T.b G.T.builtins G.T.nolimit hg hobj hints (Nat.le_trans hlen hn2) hr hF hb (fun H hO hS => hsp w H a ns hlen hO hS) fun H e s' => hCX w H s₁ e s'
/-- the same where the promise hangs on the written part alone: (sp := My.sp_law), no hole under a binder -/
theorem walk_ofK {l : PySem.W.OpenLaw} {n k : Nat} {q : Program} {loose : List Str} {XP : (Str → Option Value) → Heap → Prop} {YP : World → Heap → Prop} {d : DefRec} {K : Params → PySem.W.Frag} {CX : CXT} {sp : PySem.W.Frag → Sp} {x : Str}
    (hn : l.most = some n) (hn2 : n ≤ sizeLine) (hdf : d.params.defaults = []) (hr : Room k callerA)
    (hY : ∀ (w : World) (h : Heap), YP w h → (K w.params).In h)
    (F : ∀ (w : World) (mg : Str → Option Value) (fa : Addr) (h : Heap), (K w.params).In h → h.Ns mainGlobals mg → mg d.name = some (.ref fa) →
      ∃ fd : FuncData, (∀ (s : Shared) (u : Value), BindsTo s fd ⟨[u], []⟩ [(x, u)]) ∧
        ∀ base : Heap, (K w.params).In base → base.Ns mainGlobals mg → FnOk l.prog w (K w.params) mg base CX k fa fd [x] (sp (K w.params)))
    (hsp : ∀ (K : PySem.W.Frag) (H : Hp) (a : Addr) (ns : List Int), ns.length ≤ n → Only H → SqL K H a (ns.map V.int) → sp K [.ref a] H (fun v _ => v = .bl true) fun _ _ _ => False)
    (hCX : ∀ (H : Hp) (s : Shared) (e : Value) (s' : Shared), CX [] H s (fun _ _ _ => False) e s' → False) :
    PySem.W.WalkO q loose XP YP l.row.toRowW d [] (fun f vs => PySem.call f vs) :=
  walk_of (K := K) (CX := fun _ => CX) (sp := fun w => sp (K w.params)) hn hn2 hdf hr hY F (fun w H a ns h1 h2 h3 => hsp (K w.params) H a ns h1 h2 h3) fun _ H s e s' => hCX H s e s'
end L2



/-! SHORT WORDS over the layer: a def of the text, its body, what a loop and a test want. -/
namespace L2
open PySem PySem.Spec PyProof.Rows

/-! ### the text by places -/
/-- the j-th statement of a class's body -/
def inClass (s : Stmt) (j : Nat) : Stmt := match s with
  | .ClassDef _ _ _ body _ _ _ _ _ _ _ => body.getD j (.Pass ⟨0, 0, 0, 0⟩)
  | _ => .Pass ⟨0, 0, 0, 0⟩
def defArgs (s : Stmt) : Arguments := match s with
  | .FunctionDef _ a _ _ _ _ _ _ _ _ => a
  | _ => { posonlyargs := [], args := [], vararg := none, kwonlyargs := [], kw_defaults := [], kwarg := none, defaults := [] }
def defBody (s : Stmt) : List Stmt := match s with
  | .FunctionDef _ _ b _ _ _ _ _ _ _ => b
  | _ => []
def defScope (s : Stmt) : Scope := match s with
  | .FunctionDef _ _ _ _ _ _ sc _ _ _ => sc
  | _ => { kind := .function, names := [], isGenerator := false, isCoroutine := false }

/-! ### no exception leaves a def -/
abbrev CX0 : CXT := fun _ _ _ _ _ _ => False
abbrev E0 : XK := fun _ _ _ => False
theorem pass0 {X : Cx} : Passes CX0 X E0 := fun _ _ _ _ _ _ _ h => h.elim

/-! ### a def (or method) of the text as it stands behind the top -/
structure Fun (K : PySem.W.Frag) (x qual : Str) (st : Stmt) (f : Addr) (fd : FuncData) : Prop where
  ex : ∃ (oc : Value) (od : Option Addr) (kV doc pm : Value) (an : Option Addr) (cdv ct : Value) (osl : Array (Option Value)),
    fd = PySem.W.fnOf x qual (defArgs st) (defBody st) (defScope st) .none kV doc pm an cdv ct ∧ K.lookup f = some ⟨oc, od, .func fd, osl⟩ ∧ PySem.W.codeIn K cdv qual = true
  kp : PySem.W.keepIn K (.ref f) = true
section
variable {P : Program} {w : World} {K : PySem.W.Frag} {mg : Str → Option Value} {base : Heap}
/-- THE RULE for a def: its body as a term of rules, and the reading of that term -/
theorem Fun.ok {x qual : Str} {st : Stmt} {f : Addr} {fd : FuncData} {N ps : List Str} {k : Nat} {sp : Sp} (F : Fun K x qual st f fd) (S : FnScope N ps (defScope st)) (len : ∀ vs H Q E, sp vs H Q E → vs.length = ps.length)
    (hbody : ∀ (cdv : Value) (A : Around) (outer : List Env) (s : Shared) (H : Hp) (vs : List V) (Q : VK) (E : XK), Room k (A.deeper (envOfC qual (defScope st) s.heap.objs.size f cdv)) → sp vs H Q E →
      ∃ t, PSs (cxOf CX0 P w K mg base N qual (defScope st) f cdv A outer s H E).nox (defBody st) t ∧ t { nx := fun _ H' => Q .non H', rt := Q } (start N vs) H) : FnOk P w K mg base CX0 (k + 1) f fd ps sp := by
  obtain ⟨oc, od, kV, doc, pm, an, cdv, ct, osl, rfl, lk, hcd⟩ := F.ex
  refine fn_of lk hcd S len fun A outer s H vs Q E hr hsp => ?_
  obtain ⟨t, h, q⟩ := hbody cdv A outer s H vs Q E hr hsp
  exact ⟨t, h.nox, q⟩
/-- how its arguments bind (no defaults): h is «fun _ _ _ _ _ _ us hl => match us, hl with | [_, _], _ => rfl», one _ a parameter -/
theorem Fun.binds {x qual : Str} {st : Stmt} {f : Addr} {fd : FuncData} {ps : List Str} (F : Fun K x qual st f fd)
    (h : ∀ (kV doc pm : Value) (an : Option Addr) (cdv ct : Value) (us : List Value), us.length = ps.length → bindArgs (PySem.W.fnOf x qual (defArgs st) (defBody st) (defScope st) .none kV doc pm an cdv ct) ⟨us, []⟩ = pure (ps.zip us)) : Binds K fd ps [] := by
  obtain ⟨oc, od, kV, doc, pm, an, cdv, ct, osl, rfl, lk, hcd⟩ := F.ex
  exact .all (h kV doc pm an cdv ct)
theorem fun_mk {x qual : Str} {st : Stmt} {f : Addr} {oc : Value} {od an : Option Addr} {osl : Array (Option Value)} {kV doc pm cdv ct : Value} (l : K.lookup f = some ⟨oc, od, .func (PySem.W.fnOf x qual (defArgs st) (defBody st) (defScope st) .none kV doc pm an cdv ct), osl⟩)
    (c : PySem.W.codeIn K cdv qual = true) (k : PySem.W.keepIn K (.ref f) = true) : Fun K x qual st f (PySem.W.fnOf x qual (defArgs st) (defBody st) (defScope st) .none kV doc pm an cdv ct) := ⟨⟨oc, od, kV, doc, pm, an, cdv, ct, osl, rfl, l, c⟩, k⟩
end
theorem hu_of {A : Around} {k : Nat} (hr : Room k A) : A.units + 1 < cLine := Nat.lt_of_le_of_lt (Nat.add_le_add_left (by decide : 1 ≤ 64) _) hr.units
theorem small1000 {n : Nat} (h : n ≤ 1000) : n < sizeLine := Nat.lt_of_le_of_lt h (by decide)

/-! ### expressions in short: the name that stands in the i-th slot -/
section
variable {X : Cx}
theorem pv (i : Nat) {x : Str} {pos : Pos} (hN : X.N[i]? = some x := by rfl) (hv : Vis X.env.scope x := by first | exact Or.inl rfl | exact Or.inr (Or.inl rfl) | exact Or.inr (Or.inr rfl)) (hd : (x == ("__debug__" : Str)) = false := by decide)
    (hcd : (x == ("__classdict__" : Str)) = false := by decide) : PE X (.Name x pos) (tVar i) := pe_var hN hv hd hcd
end

/-! ### tests -/
theorem iteF {A B : Prop} (h : B) : if false = true then A else B := by
  rw [if_neg Bool.false_ne_true]
  exact h
theorem iteT {A B : Prop} (h : A) : if true = true then A else B := by
  rw [if_pos rfl]
  exact h
theorem ite2 {c A B : Prop} [Decidable c] (h1 : c → A) (h2 : ¬ c → B) : if c then A else B := by
  by_cases h : c
  · rw [if_pos h]
    exact h1 h
  · rw [if_neg h]
    exact h2 h
theorem iteNS {c A B : Prop} [Decidable c] (hc : c) (h : B) : if (!decide c) = true then A else B := by
  rw [decide_eq_true hc]
  exact iteF h

/-! ### heaps -/
/-- all that was tracked is as it was -/
def Same (H H' : Hp) : Prop := ∀ b o, H b = some o → H' b = some o
theorem Same.refl (H : Hp) : Same H H := fun _ _ h => h
theorem Same.trans {H H1 H2 : Hp} (a : Same H H1) (b : Same H1 H2) : Same H H2 := fun c o h => b c o (a c o h)
theorem Same.free {H H' : Hp} (e : Same H H') {l : Addr} (h : H' l = Option.none) : H l = Option.none := by
  cases q : H l with
  | none => rfl
  | some o =>
    rw [e l o q] at h
    cases h
theorem Same.seq {K : PySem.W.Frag} {H H' : Hp} {a : Addr} {xs : List V} (e : Same H H') (h : SqL K H a xs) : SqL K H' a xs := by
  rcases h with (h | ⟨o, h⟩) | h
  · exact .inl (.inl (e _ _ h))
  · exact .inl (.inr ⟨o, e _ _ h⟩)
  · exact .inr h

end L2

namespace L4
open PySem L2

/-- plain data -/
inductive D where
  | non | bl (b : Bool) | int (i : Int) | str (x : Str) | ty (n : String) | tup (ds : List D) | lst (ds : List D) | dct (ks vs : List D)
/-- an exception: the name of its class, its fields -/
structure XD where
  c : Str
  fs : List (Str × D)
def keyD : Key → D
  | .inl i => .int i
  | .inr x => .str x

/-- a list that is read: tracked, frozen, or an object of the module -/
def LsK (K : PySem.W.Frag) (H : Hp) (a : Addr) (xs : List V) : Prop :=
  Rd H a (.lst xs) ∨ ∃ (its : Array Value) (n : Nat), K.lookup a = some { cls := .type "list", data := .seq its n } ∧ its.size ≤ sizeLine ∧ Vals xs its.toList
theorem LsK.sq {K : PySem.W.Frag} {H : Hp} {a : Addr} {xs : List V} (h : LsK K H a xs) : SqL K H a xs := by
  rcases h with h | ⟨its, n, h1, h2, h3⟩
  · exact .inl h
  · exact .inr ⟨_, its, n, h1, rfl, rfl, rfl, h2, h3⟩
theorem LsK.of {K : PySem.W.Frag} {H : Hp} {a : Addr} {xs : List V} (h : H a = some (.lst xs)) : LsK K H a xs := .inl (.inl h)
/-- a dict that is read: its keys as data, its values -/
def DcK (H : Hp) (a : Addr) (ks : List D) (vs : List V) : Prop :=
  (∃ kvs : List (List Key × V), Rd H a (.dT kvs) ∧ ks = kvs.map (fun kv => D.tup (kv.1.map keyD)) ∧ vs = kvs.map (·.2)) ∨
  (∃ kvs : List (Key × V), Rd H a (.dK kvs) ∧ ks = kvs.map (fun kv => keyD kv.1) ∧ vs = kvs.map (·.2))
/-- the same of a thing of one's own -/
def DcO (H : Hp) (a : Addr) (ks : List D) (vs : List V) : Prop :=
  (∃ kvs : List (List Key × V), H a = some (.dT kvs) ∧ ks = kvs.map (fun kv => D.tup (kv.1.map keyD)) ∧ vs = kvs.map (·.2)) ∨
  (∃ kvs : List (Key × V), H a = some (.dK kvs) ∧ ks = kvs.map (fun kv => keyD kv.1) ∧ vs = kvs.map (·.2))
theorem DcO.k {H : Hp} {a : Addr} {ks : List D} {vs : List V} (h : DcO H a ks vs) : DcK H a ks vs := by
  rcases h with ⟨kvs, h, e⟩ | ⟨kvs, h, e⟩
  · exact .inl ⟨kvs, .inl h, e⟩
  · exact .inr ⟨kvs, .inl h, e⟩

mutual
inductive Rep (K : PySem.W.Frag) (G : Hp) : V → D → Prop where
  | non : Rep K G .non .non
  | bl (b : Bool) : Rep K G (.bl b) (.bl b)
  | int (i : Int) : Rep K G (.int i) (.int i)
  | str (x : Str) : Rep K G (.str x) (.str x)
  | ty (n : String) : Rep K G (.ty n) (.ty n)
  | tup {a : Addr} {vs : List V} {ds : List D} : SqT K G a vs → RepL K G vs ds → Rep K G (.ref a) (.tup ds)
  | lst {a : Addr} {vs : List V} {ds : List D} : LsK K G a vs → RepL K G vs ds → Rep K G (.ref a) (.lst ds)
  | dct {a : Addr} {vs : List V} {ks ds : List D} : DcK G a ks vs → RepL K G vs ds → Rep K G (.ref a) (.dct ks ds)
inductive RepL (K : PySem.W.Frag) (G : Hp) : List V → List D → Prop where
  | nil : RepL K G [] []
  | cons {v : V} {vs : List V} {d : D} {ds : List D} : Rep K G v d → RepL K G vs ds → RepL K G (v :: vs) (d :: ds)
end

theorem same_rd {H H' : Hp} {a : Addr} {u : HO} (e : Same H H') (h : Rd H a u) : Rd H' a u := by
  rcases h with h | ⟨o, h⟩
  · exact .inl (e _ _ h)
  · exact .inr ⟨o, e _ _ h⟩
theorem same_ls {K : PySem.W.Frag} {H H' : Hp} {a : Addr} {xs : List V} (e : Same H H') (h : LsK K H a xs) : LsK K H' a xs := by
  rcases h with h | h
  · exact .inl (same_rd e h)
  · exact .inr h
theorem same_dc {H H' : Hp} {a : Addr} {ks : List D} {vs : List V} (e : Same H H') (h : DcK H a ks vs) : DcK H' a ks vs := by
  rcases h with ⟨kvs, h, q⟩ | ⟨kvs, h, q⟩
  · exact .inl ⟨kvs, same_rd e h, q⟩
  · exact .inr ⟨kvs, same_rd e h, q⟩
theorem same_sqL {K : PySem.W.Frag} {H H' : Hp} {a : Addr} {xs : List V} (e : Same H H') (h : SqL K H a xs) : SqL K H' a xs := by
  rcases h with h | h
  · exact .inl (same_rd e h)
  · exact .inr h
theorem same_sqT {K : PySem.W.Frag} {H H' : Hp} {a : Addr} {xs : List V} (e : Same H H') (h : SqT K H a xs) : SqT K H' a xs := by
  rcases h with h | h
  · exact .inl (same_rd e h)
  · exact .inr h

mutual
theorem Rep.mono {K : PySem.W.Frag} {G G' : Hp} (e : Same G G') : ∀ {v : V} {d : D}, Rep K G v d → Rep K G' v d
  | _, _, .non => .non
  | _, _, .bl b => .bl b
  | _, _, .int i => .int i
  | _, _, .str x => .str x
  | _, _, .ty n => .ty n
  | _, _, .tup h r => .tup (same_sqT e h) (RepL.mono e r)
  | _, _, .lst h r => .lst (same_ls e h) (RepL.mono e r)
  | _, _, .dct h r => .dct (same_dc e h) (RepL.mono e r)
theorem RepL.mono {K : PySem.W.Frag} {G G' : Hp} (e : Same G G') : ∀ {vs : List V} {ds : List D}, RepL K G vs ds → RepL K G' vs ds
  | _, _, .nil => .nil
  | _, _, .cons h r => .cons (Rep.mono e h) (RepL.mono e r)
end

theorem RepL.len {K : PySem.W.Frag} {G : Hp} : ∀ {vs : List V} {ds : List D}, RepL K G vs ds → vs.length = ds.length
  | _, _, .nil => rfl
  | _, _, .cons _ r => congrArg (· + 1) (RepL.len r)
theorem RepL.app {K : PySem.W.Frag} {G : Hp} : ∀ {vs ws : List V} {ds es : List D}, RepL K G vs ds → RepL K G ws es → RepL K G (vs ++ ws) (ds ++ es)
  | _, _, _, _, .nil, s => s
  | _, _, _, _, .cons h r, s => .cons h (RepL.app r s)
theorem RepL.at {K : PySem.W.Frag} {G : Hp} : ∀ {vs : List V} {ds : List D} {i : Nat} {d : D}, RepL K G vs ds → ds[i]? = some d → ∃ v, vs[i]? = some v ∧ Rep K G v d
  | _, _, _, _, .nil, e => by simp at e
  | _, _, 0, _, .cons h _, e => by simp at e; subst e; exact ⟨_, rfl, h⟩
  | _, _, i + 1, d, .cons _ r, e => by
    obtain ⟨v, h1, h2⟩ := RepL.at (i := i) (d := d) r (by simpa using e)
    exact ⟨v, by simpa using h1, h2⟩
theorem RepL.atV {K : PySem.W.Frag} {G : Hp} : ∀ {vs : List V} {ds : List D} {i : Nat} {v : V}, RepL K G vs ds → vs[i]? = some v → ∃ d, ds[i]? = some d ∧ Rep K G v d
  | _, _, _, _, .nil, e => by simp at e
  | _, _, 0, _, .cons h _, e => by simp at e; subst e; exact ⟨_, rfl, h⟩
  | _, _, i + 1, d, .cons _ r, e => by
    obtain ⟨v, h1, h2⟩ := RepL.atV (i := i) (v := d) r (by simpa using e)
    exact ⟨v, by simpa using h1, h2⟩
theorem RepL.take {K : PySem.W.Frag} {G : Hp} : ∀ (n : Nat) {vs : List V} {ds : List D}, RepL K G vs ds → RepL K G (vs.take n) (ds.take n)
  | 0, _, _, _ => .nil
  | _ + 1, _, _, .nil => .nil
  | n + 1, _, _, .cons h r => .cons h (RepL.take n r)
theorem RepL.drop {K : PySem.W.Frag} {G : Hp} : ∀ (n : Nat) {vs : List V} {ds : List D}, RepL K G vs ds → RepL K G (vs.drop n) (ds.drop n)
  | 0, _, _, r => r
  | _ + 1, _, _, .nil => .nil
  | n + 1, _, _, .cons _ r => RepL.drop n r
theorem RepL.set {K : PySem.W.Frag} {G : Hp} {v : V} {d : D} (h : Rep K G v d) : ∀ (n : Nat) {vs : List V} {ds : List D}, RepL K G vs ds → RepL K G (vs.set n v) (ds.set n d)
  | _, _, _, .nil => .nil
  | 0, _, _, .cons _ r => .cons h r
  | n + 1, _, _, .cons q r => .cons q (RepL.set h n r)
theorem RepL.map {K : PySem.W.Frag} {G : Hp} {α : Type} {f : α → V} {g : α → D} (h : ∀ a, Rep K G (f a) (g a)) : ∀ l : List α, RepL K G (l.map f) (l.map g)
  | [] => .nil
  | a :: l => .cons (h a) (RepL.map h l)

/-- what a name or an expression holds: data, a thing of its own that nothing else holds, or a thing that the caller lent -/
inductive Sl where
  | val (d : D) | own (d : D) | lnt (d : D)
def Sl.fz : Sl → D
  | .val d => d
  | .own d => d
  | .lnt d => d
abbrev DEnv := List (Option Sl)

/-- a list or dict of one's own at p -/
def OwnAt (K : PySem.W.Frag) (G H : Hp) (p : Addr) : D → Prop
  | .lst ds => ∃ vs, H p = some (.lst vs) ∧ RepL K G vs ds
  | .dct ks ds => ∃ vs, DcO H p ks vs ∧ RepL K G vs ds
  | _ => False
def RepS (K : PySem.W.Frag) (G H : Hp) (v : V) : Sl → Prop
  | .val d => Rep K G v d
  | .own d => ∃ p, v = .ref p ∧ G p = none ∧ OwnAt K G H p d
  | .lnt d => ∃ p, v = .ref p ∧ G p = none ∧ OwnAt K G H p d
/-- a slot that holds a thing of one's own, or a lent one -/
def Sl.isO : Sl → Bool
  | .val _ => false
  | _ => true
theorem RepS.own {K : PySem.W.Frag} {G H : Hp} {v : V} {s : Sl} (h : RepS K G H v s) (o : s.isO = true) : ∃ p, v = .ref p ∧ G p = none ∧ OwnAt K G H p s.fz := by
  cases s with
  | val d => cases o
  | own d => exact h
  | lnt d => exact h
theorem OwnAt.some {K : PySem.W.Frag} {G H : Hp} {p : Addr} {d : D} (h : OwnAt K G H p d) : ∃ o, H p = Option.some o := by
  cases d with
  | lst ds => obtain ⟨vs, h, _⟩ := h; exact ⟨_, h⟩
  | dct ks ds =>
    obtain ⟨vs, h, _⟩ := h
    rcases h with ⟨kvs, h, _⟩ | ⟨kvs, h, _⟩
    · exact ⟨_, h⟩
    · exact ⟨_, h⟩
  | _ => exact h.elim
theorem OwnAt.keep {K : PySem.W.Frag} {G H G' H' : Hp} {p : Addr} {d : D} (h : OwnAt K G H p d) (e : H' p = H p) (g : Same G G') : OwnAt K G' H' p d := by
  cases d with
  | lst ds => obtain ⟨vs, h, r⟩ := h; exact ⟨vs, by rw [e]; exact h, RepL.mono g r⟩
  | dct ks ds =>
    obtain ⟨vs, h, r⟩ := h
    refine ⟨vs, ?_, RepL.mono g r⟩
    rcases h with ⟨kvs, h, q⟩ | ⟨kvs, h, q⟩
    · exact .inl ⟨kvs, by rw [e]; exact h, q⟩
    · exact .inr ⟨kvs, by rw [e]; exact h, q⟩
  | _ => exact h.elim
/-- it is shown: data from here on -/
theorem OwnAt.shown {K : PySem.W.Frag} {G H : Hp} {p : Addr} {d : D} (h : OwnAt K G H p d) (hg : G p = Option.none) {o : HO} (ho : H p = Option.some o) : Rep K (upd G p o) (.ref p) d := by
  have hs : Same G (upd G p o) := fun b u q => by rw [upd_ne (ne_of_none q hg)]; exact q
  cases d with
  | lst ds => obtain ⟨vs, h, r⟩ := h; rw [ho] at h; cases h; exact .lst (.of upd_same) (RepL.mono hs r)
  | dct ks ds =>
    obtain ⟨vs, h, r⟩ := h
    refine .dct ?_ (RepL.mono hs r)
    rcases h with ⟨kvs, h, q⟩ | ⟨kvs, h, q⟩
    · rw [ho] at h; cases h; exact .inl ⟨kvs, .inl upd_same, q⟩
    · rw [ho] at h; cases h; exact .inr ⟨kvs, .inl upd_same, q⟩
  | _ => exact h.elim
/-- p is the own or lent thing of a name -/
def Ow (σ : St) (δ : DEnv) (p : Addr) : Prop := ∃ (i : Nat) (s : Sl), δ[i]? = some (some s) ∧ s.isO = true ∧ σ[i]? = some (some (V.ref p))

structure EnvOk (K : PySem.W.Frag) (G H : Hp) (σ : St) (δ : DEnv) : Prop where
  len : δ.length = σ.length
  at' : ∀ (i : Nat) (s : Sl), δ[i]? = some (some s) → ∃ v, σ[i]? = some (some v) ∧ RepS K G H v s
  sep : ∀ (i j : Nat) (p : Addr) (s s' : Sl), δ[i]? = some (some s) → δ[j]? = some (some s') → s.isO = true → s'.isO = true → σ[i]? = some (some (.ref p)) → σ[j]? = some (some (.ref p)) → i = j

/-- the state between two steps of a body, entered at (G0, H0); M: where the lent things lie -/
structure StOk (K : PySem.W.Frag) (M : Nat → Option Addr) (G0 H0 G H : Hp) (σ : St) (δ : DEnv) : Prop where
  gh : Same G H
  env : EnvOk K G H σ δ
  h0 : Same H0 H
  g0 : Same G0 G
  fr : ∀ b, H0 b ≠ none → G0 b = none → G b = none
  own0 : ∀ p, Ow σ δ p → H0 p = none
  mt : ∀ (i : Nat) (d : D), δ[i]? = some (some (.lnt d)) → ∃ p, M i = some p ∧ σ[i]? = some (some (.ref p))

/-- from the heaps G, H to G', H': nothing that stood is changed but things of one's own; what is shown more is new, or was an own thing of a name -/
structure Gr (G H : Hp) (σ : St) (δ : DEnv) (G' H' : Hp) (δ' : DEnv) : Prop where
  hs : ∀ b o, H b = some o → ¬ Ow σ δ b → H' b = some o
  hd : ∀ b, H b ≠ none → H' b ≠ none
  gg : Same G G'
  fr : ∀ b, H b ≠ none → G b = none → ¬ Ow σ δ b → G' b = none
  shr : ∀ p, Ow σ δ' p → Ow σ δ p

theorem Gr.refl (G H : Hp) (σ : St) (δ : DEnv) : Gr G H σ δ G H δ := ⟨fun _ _ h _ => h, fun _ h => h, Same.refl _, fun _ _ h _ => h, fun _ h => h⟩
theorem same_ne {H H' : Hp} (e : Same H H') {b : Addr} (h : H b ≠ none) : H' b ≠ none := by
  cases q : H b with
  | none => exact absurd q h
  | some o => rw [e b o q]; simp
theorem Gr.of {G H G' H' : Hp} {σ : St} {δ δ' : DEnv} (hh : Same H H') (gg : Same G G') (fr : ∀ b, H b ≠ none → G b = none → ¬ Ow σ δ b → G' b = none) (shr : ∀ p, Ow σ δ' p → Ow σ δ p) : Gr G H σ δ G' H' δ' :=
  ⟨fun b o h _ => hh b o h, fun _ h => same_ne hh h, gg, fr, shr⟩
theorem Gr.trans {G H G1 H1 G2 H2 : Hp} {σ : St} {δ δ1 δ2 : DEnv} (a : Gr G H σ δ G1 H1 δ1) (b : Gr G1 H1 σ δ1 G2 H2 δ2) : Gr G H σ δ G2 H2 δ2 :=
  ⟨fun c o h n => b.hs c o (a.hs c o h n) fun z => n (a.shr c z), fun c h => b.hd c (a.hd c h), a.gg.trans b.gg, fun c h n o => b.fr c (a.hd c h) (a.fr c h n o) fun z => o (a.shr c z), fun p z => a.shr p (b.shr p z)⟩
theorem Gr.free {G H G' H' : Hp} {σ : St} {δ δ' : DEnv} (g : Gr G H σ δ G' H' δ') {p : Addr} (h : H' p = none) : H p = none := by
  cases q : H p with
  | none => rfl
  | some o => exact absurd h (g.hd p (by rw [q]; simp))
/-- what stands nowhere is nobody's own -/
theorem StOk.noOw {K : PySem.W.Frag} {M : Nat → Option Addr} {G0 H0 G H : Hp} {σ : St} {δ : DEnv} (S : StOk K M G0 H0 G H σ δ) {p : Addr} (hp : H p = none) : ¬ Ow σ δ p := fun ⟨i, s, z1, o, z2⟩ => by
  obtain ⟨v, z3, r⟩ := S.env.at' i _ z1
  rw [z2] at z3
  cases z3
  obtain ⟨q, z4, _, z5⟩ := r.own o
  cases z4
  obtain ⟨o', z6⟩ := z5.some
  rw [hp] at z6; cases z6

/-- an own result is new, and nobody's -/
def RepR (K : PySem.W.Frag) (H G' H' : Hp) (v : V) (s : Sl) : Prop := RepS K G' H' v s ∧ (s.isO = true → (∃ d, s = .own d) ∧ ∃ p, v = .ref p ∧ H p = none)

/-- the class and the fields of an exception -/
def XRep (X : Cx) (C : Value) (dx : Option Addr) (G H : Hp) (x : XD) : Prop := X.mg x.c = some C ∧ (x.fs = [] ∧ dx = none ∨ ∃ p fs, dx = some p ∧ H p = some (.xd fs) ∧ RepL X.K G (fs.map (·.2)) (x.fs.map (·.2)) ∧ fs.map (·.1) = x.fs.map (·.1))
/-- e is an exception in flight -/
def IsExc (e : Value) (C : Value) (dx : Option Addr) (H : Hp) (s : Shared) : Prop := ∃ a oe vs, e = .ref a ∧ s.heap.get? a = some oe ∧ oe.cls = C ∧ oe.dict = dx ∧ oe.data = .fields vs ∧ H a = none
/-- what is wanted of an exception here -/
def EX (X : Cx) (σ : St) (C : Value) (dx : Option Addr) (H : Hp) : Prop := ∀ pins e s, Inv X pins σ H s → IsExc e C dx H s → X.xe e s

/-- an expression's reading at the data -/
abbrev Rs (α : Type) := Option (Except XD α × DEnv)
def Rs.bind {α β : Type} (r : Rs α) (k : α → DEnv → Rs β) : Rs β := match r with
  | some (.ok a, δ) => k a δ
  | some (.error x, δ) => some (.error x, δ)
  | none => none
theorem Rs.inv {α β : Type} {r : Rs α} {k : α → DEnv → Rs β} {q : Except XD β} {δ' : DEnv} (h : r.bind k = some (q, δ')) : (∃ a δ1, r = some (.ok a, δ1) ∧ k a δ1 = some (q, δ')) ∨ ∃ x, r = some (.error x, δ') ∧ q = .error x := by
  unfold Rs.bind at h
  split at h
  · exact .inl ⟨_, _, rfl, h⟩
  · cases h; exact .inr ⟨_, rfl, rfl⟩
  · cases h
theorem Rs.bind_ok {α β : Type} (a : α) (δ : DEnv) (k : α → DEnv → Rs β) : Rs.bind (some (.ok a, δ)) k = k a δ := rfl
theorem Rs.bind_err {α β : Type} (x : XD) (δ : DEnv) (k : α → DEnv → Rs β) : Rs.bind (some (.error x, δ)) k = some (.error x, δ) := rfl
abbrev FE := DEnv → Rs Sl
abbrev FL := DEnv → Rs (List D)
abbrev FT := DEnv → Rs Bool
/-- what is wanted of an exception that an expression raises -/
def PostX (X : Cx) (M : Nat → Option Addr) (G0 H0 G H : Hp) (σ : St) (δ δ' : DEnv) (x : XD) : Prop := ∀ C dx G' H', StOk X.K M G0 H0 G' H' σ δ' → Gr G H σ δ G' H' δ' → XRep X C dx G' H' x → EX X σ C dx H'
theorem PostX.after {X : Cx} {M : Nat → Option Addr} {G0 H0 G H G1 H1 : Hp} {σ : St} {δ δ1 δ' : DEnv} {x : XD} (g : Gr G H σ δ G1 H1 δ1) (k : PostX X M G0 H0 G H σ δ δ' x) : PostX X M G0 H0 G1 H1 σ δ1 δ' x := fun C dx G' H' S g' r => k C dx G' H' S (g.trans g') r
def PostE (X : Cx) (M : Nat → Option Addr) (G0 H0 G H : Hp) (σ : St) (δ δ' : DEnv) (Q : VK) : Except XD Sl → Prop
  | .ok s => ∀ v G' H', StOk X.K M G0 H0 G' H' σ δ' → Gr G H σ δ G' H' δ' → RepR X.K H G' H' v s → Q v H'
  | .error x => PostX X M G0 H0 G H σ δ δ' x
def PostL (X : Cx) (M : Nat → Option Addr) (G0 H0 G H : Hp) (σ : St) (δ δ' : DEnv) (Q : List V → Hp → Prop) : Except XD (List D) → Prop
  | .ok ds => ∀ vs G' H', StOk X.K M G0 H0 G' H' σ δ' → Gr G H σ δ G' H' δ' → RepL X.K G' vs ds → Q vs H'
  | .error x => PostX X M G0 H0 G H σ δ δ' x
def PostT {α : Type} (X : Cx) (M : Nat → Option Addr) (G0 H0 G H : Hp) (σ : St) (δ δ' : DEnv) (Q : α → Hp → Prop) : Except XD α → Prop
  | .ok b => ∀ G' H', StOk X.K M G0 H0 G' H' σ δ' → Gr G H σ δ G' H' δ' → Q b H'
  | .error x => PostX X M G0 H0 G H σ δ δ' x
def SndE (X : Cx) (t : TE) (f : FE) : Prop := ∀ (M : Nat → Option Addr) (G0 H0 G H : Hp) (σ : St) (δ : DEnv) (r : Except XD Sl) (δ' : DEnv) (Q : VK), StOk X.K M G0 H0 G H σ δ → f δ = some (r, δ') → PostE X M G0 H0 G H σ δ δ' Q r → t σ H Q
def SndL (X : Cx) (t : TA) (f : FL) : Prop := ∀ (M : Nat → Option Addr) (G0 H0 G H : Hp) (σ : St) (δ : DEnv) (r : Except XD (List D)) (δ' : DEnv) (Q : List V → Hp → Prop), StOk X.K M G0 H0 G H σ δ → f δ = some (r, δ') → PostL X M G0 H0 G H σ δ δ' Q r → t σ H Q
def SndT (X : Cx) (t : TT) (f : FT) : Prop := ∀ (M : Nat → Option Addr) (G0 H0 G H : Hp) (σ : St) (δ : DEnv) (r : Except XD Bool) (δ' : DEnv) (Q : Bool → Hp → Prop), StOk X.K M G0 H0 G H σ δ → f δ = some (r, δ') → PostT X M G0 H0 G H σ δ δ' Q r → t σ H Q
def DE (X : Cx) (e : Expr) (f : FE) : Prop := ∃ t, PE X e t ∧ SndE X t f
def DA (X : Cx) (es : List Expr) (f : FL) : Prop := ∃ t, PA X es t ∧ SndL X t f
def DT (X : Cx) (e : Expr) (f : FT) : Prop := ∃ t, PT X e t ∧ SndT X t f

/-! ### growing the two heaps -/
/-- a new thing that nothing holds yet: in H alone -/
theorem StOk.new {K : PySem.W.Frag} {M : Nat → Option Addr} {G0 H0 G H : Hp} {σ : St} {δ : DEnv} (S : StOk K M G0 H0 G H σ δ) {p : Addr} {o : HO} (hp : H p = none) : StOk K M G0 H0 G (upd H p o) σ δ ∧ Gr G H σ δ G (upd H p o) δ ∧ G p = none := by
  have hs : Same H (upd H p o) := fun b u q => by rw [upd_ne (ne_of_none q hp)]; exact q
  have hg : G p = none := Same.free S.gh hp
  refine ⟨⟨S.gh.trans hs, ⟨S.env.len, fun i s e => ?_, S.env.sep⟩, S.h0.trans hs, S.g0, S.fr, S.own0, S.mt⟩, Gr.of hs (Same.refl _) (fun _ _ h _ => h) fun _ h => h, hg⟩
  obtain ⟨v, e1, r⟩ := S.env.at' i s e
  refine ⟨v, e1, ?_⟩
  have key : ∀ d, (∃ q, v = .ref q ∧ G q = none ∧ OwnAt K G H q d) → ∃ q, v = .ref q ∧ G q = none ∧ OwnAt K G (upd H p o) q d := fun d ⟨q, e2, e3, rr⟩ => by
    obtain ⟨o', ho⟩ := rr.some
    exact ⟨q, e2, e3, rr.keep (by rw [upd_ne (ne_of_none ho hp)]) (Same.refl _)⟩
  cases s with
  | val d => exact r
  | own d => exact key d r
  | lnt d => exact key d r
/-- what stands in H and is nobody's own is shown -/
theorem StOk.showAt {K : PySem.W.Frag} {M : Nat → Option Addr} {G0 H0 G H : Hp} {σ : St} {δ : DEnv} (S : StOk K M G0 H0 G H σ δ) {p : Addr} {o : HO} (hp : H p = some o) (hg : G p = none) (hn : ¬ Ow σ δ p) (h0 : H0 p = none) :
    StOk K M G0 H0 (upd G p o) H σ δ ∧ Same G (upd G p o) := by
  have hs : Same G (upd G p o) := fun b u q => by rw [upd_ne (ne_of_none q hg)]; exact q
  refine ⟨⟨fun b u q => ?_, ⟨S.env.len, fun i s e => ?_, S.env.sep⟩, S.h0, S.g0.trans hs, fun b h n => ?_, S.own0, S.mt⟩, hs⟩
  · by_cases e : b = p
    · subst e; rw [upd_same] at q; cases q; exact hp
    · rw [upd_ne e] at q; exact S.gh b u q
  · obtain ⟨v, e1, r⟩ := S.env.at' i s e
    refine ⟨v, e1, ?_⟩
    have key : ∀ d, s.isO = true → (∃ q, v = .ref q ∧ G q = none ∧ OwnAt K G H q d) → ∃ q, v = .ref q ∧ (upd G p o) q = none ∧ OwnAt K (upd G p o) H q d := fun d os ⟨q, e2, e3, rr⟩ => by
      subst e2
      have ne : q ≠ p := fun z => hn ⟨i, s, e, os, by rw [← z]; exact e1⟩
      exact ⟨q, rfl, by rw [upd_ne ne]; exact e3, rr.keep rfl hs⟩
    cases s with
    | val d => exact Rep.mono hs r
    | own d => exact key d rfl r
    | lnt d => exact key d rfl r
  · have ne : b ≠ p := fun z => h (by rw [z]; exact h0)
    rw [upd_ne ne]; exact S.fr b h n

/-- a value of one's own is shown: data from here on -/
theorem SndE.toV {X : Cx} {t : TE} {f : FE} (h : SndE X t f) (M : Nat → Option Addr) (G0 H0 G H : Hp) (σ : St) (δ : DEnv) (s : Sl) (δ' : DEnv) (Q : VK) (S : StOk X.K M G0 H0 G H σ δ) (ef : f δ = some (.ok s, δ'))
    (k : ∀ v G' H', StOk X.K M G0 H0 G' H' σ δ' → Gr G H σ δ G' H' δ' → Rep X.K G' v s.fz → Q v H') : t σ H Q := by
  refine h M G0 H0 G H σ δ (.ok s) δ' Q S ef fun v G' H' S' g r => ?_
  obtain ⟨r, nw⟩ := r
  by_cases os : s.isO = true
  · obtain ⟨_, q, e4, hq⟩ := nw os
    obtain ⟨p, e2, e3, rr⟩ := r.own os
    have epq : p = q := by rw [e2] at e4; cases e4; rfl
    subst epq e2
    have no : ¬ Ow σ δ' p := fun z => S.noOw hq (g.shr _ z)
    obtain ⟨o, ho⟩ := rr.some
    obtain ⟨S2, hs⟩ := S'.showAt ho e3 no (Same.free S.h0 hq)
    refine k (.ref p) _ H' S2 ⟨g.hs, g.hd, g.gg.trans hs, fun b hb n o => ?_, g.shr⟩ (rr.shown e3 ho)
    rw [upd_ne (fun z => hb (by rw [z]; exact hq))]
    exact g.fr b hb n o
  · cases s with
    | val d => exact k v G' H' S' g r
    | own d => exact absurd rfl os
    | lnt d => exact absurd rfl os

/-! ### names and constants -/
/-- a slot's thing becomes data (an own one), or the slot is emptied -/
theorem ow_drop {σ : St} {δ : DEnv} {i : Nat} {o : Option Sl} (ho : ∀ s, o = some s → s.isO = false) (hi : i < δ.length) {q : Addr} (h : Ow σ (δ.set i o) q) : ∃ j s, j ≠ i ∧ δ[j]? = some (some s) ∧ s.isO = true ∧ σ[j]? = some (some (V.ref q)) := by
  obtain ⟨j, s, z1, os, z2⟩ := h
  by_cases hj : j = i
  · subst hj; rw [List.getElem?_set_self hi] at z1
    cases o with
    | none => cases z1
    | some s' => cases z1; rw [ho s rfl] at os; cases os
  · rw [List.getElem?_set_ne (Ne.symm hj)] at z1
    exact ⟨j, s, hj, z1, os, z2⟩
def fVar (i : Nat) : FE := fun δ => match δ[i]? with
  | some (some (.val d)) => some (.ok (.val d), δ)
  | some (some (.own d)) => some (.ok (.val d), δ.set i (some (.val d)))
  | _ => none
theorem StOk.freeze {K : PySem.W.Frag} {M : Nat → Option Addr} {G0 H0 G H : Hp} {σ : St} {δ : DEnv} (S : StOk K M G0 H0 G H σ δ) {i : Nat} {d : D} (hd : δ[i]? = some (some (.own d))) :
    ∃ p o, σ[i]? = some (some (.ref p)) ∧ StOk K M G0 H0 (upd G p o) H σ (δ.set i (some (.val d))) ∧ Gr G H σ δ (upd G p o) H (δ.set i (some (.val d))) ∧ Rep K (upd G p o) (.ref p) d := by
  obtain ⟨v, e1, r⟩ := S.env.at' i _ hd
  obtain ⟨p, rfl, e3, r⟩ := r
  obtain ⟨o, e2⟩ := r.some
  have hs : Same G (upd G p o) := fun b u q => by rw [upd_ne (ne_of_none q e3)]; exact q
  have hi : i < δ.length := (List.getElem?_eq_some_iff.mp hd).1
  have shr : ∀ q, Ow σ (δ.set i (some (.val d))) q → Ow σ δ q ∧ q ≠ p := fun q z => by
    obtain ⟨j, s, hj, z1, os, z2⟩ := ow_drop (fun s e => by cases e; rfl) hi z
    refine ⟨⟨j, s, z1, os, z2⟩, fun z => hj ?_⟩
    subst z
    exact S.env.sep j i q s _ z1 hd os rfl z2 e1
  refine ⟨p, o, e1, ⟨fun b u q => ?_, ⟨by simpa using S.env.len, fun j s ej => ?_, fun j j' q a b z1 z2 oa ob z3 z4 => ?_⟩, S.h0, S.g0.trans hs, fun b hb n => ?_, fun q z => S.own0 q (shr q z).1, fun j d' z => ?_⟩,
    Gr.of (Same.refl _) hs (fun b hb n o' => ?_) fun q z => (shr q z).1, r.shown e3 e2⟩
  · by_cases e : b = p
    · subst e; rw [upd_same] at q; cases q; exact e2
    · rw [upd_ne e] at q; exact S.gh b u q
  · by_cases hj : j = i
    · subst hj; rw [List.getElem?_set_self hi] at ej; cases ej
      exact ⟨.ref p, e1, r.shown e3 e2⟩
    · have ej' := ej
      rw [List.getElem?_set_ne (Ne.symm hj)] at ej
      obtain ⟨v, e4, r'⟩ := S.env.at' j s ej
      refine ⟨v, e4, ?_⟩
      have key : ∀ d, s.isO = true → (∃ q, v = .ref q ∧ G q = none ∧ OwnAt K G H q d) → ∃ q, v = .ref q ∧ (upd G p o) q = none ∧ OwnAt K (upd G p o) H q d := fun d os ⟨q, z2, z3, rr⟩ => by
        subst z2
        have ne : q ≠ p := (shr q ⟨j, s, ej', os, e4⟩).2
        exact ⟨q, rfl, by rw [upd_ne ne]; exact z3, rr.keep rfl hs⟩
      cases s with
      | val d => exact Rep.mono hs r'
      | own d => exact key d rfl r'
      | lnt d => exact key d rfl r'
  · by_cases hj : j = i
    · subst hj; rw [List.getElem?_set_self hi] at z1; cases z1; cases oa
    · by_cases hj' : j' = i
      · subst hj'; rw [List.getElem?_set_self hi] at z2; cases z2; cases ob
      · rw [List.getElem?_set_ne (Ne.symm hj)] at z1
        rw [List.getElem?_set_ne (Ne.symm hj')] at z2
        exact S.env.sep j j' q a b z1 z2 oa ob z3 z4
  · have ne : b ≠ p := fun z => hb (by rw [z]; exact S.own0 p ⟨i, _, hd, rfl, e1⟩)
    rw [upd_ne ne]; exact S.fr b hb n
  · by_cases hj : j = i
    · subst hj; rw [List.getElem?_set_self hi] at z; cases z
    · rw [List.getElem?_set_ne (Ne.symm hj)] at z; exact S.mt j d' z
  · have ne : b ≠ p := fun z => o' (by rw [z]; exact ⟨i, _, hd, rfl, e1⟩)
    rw [upd_ne ne]; exact n
theorem RepR.val {K : PySem.W.Frag} {H G' H' : Hp} {v : V} {d : D} (h : Rep K G' v d) : RepR K H G' H' v (.val d) := ⟨h, fun z => nomatch z⟩
theorem snd_var {X : Cx} (i : Nat) : SndE X (tVar i) (fVar i) := by
  intro M G0 H0 G H σ δ r δ' Q S e k
  unfold fVar at e
  split at e
  · rename_i d' hd
    cases e
    obtain ⟨v, e1, r⟩ := S.env.at' i _ hd
    exact ⟨v, e1, k v G H S (Gr.refl ..) (.val r)⟩
  · rename_i d hd
    cases e
    obtain ⟨p, o, e1, S1, g1, r1⟩ := S.freeze hd
    exact ⟨.ref p, e1, k _ _ _ S1 g1 (.val r1)⟩
  · cases e
theorem de (i : Nat) {X : Cx} {x : Str} {pos : Pos} (hN : X.N[i]? = some x := by rfl) (hv : Vis X.env.scope x := by first | exact Or.inl rfl | exact Or.inr (Or.inl rfl) | exact Or.inr (Or.inr rfl)) (hd : (x == ("__debug__" : Str)) = false := by decide) (hcd : (x == ("__classdict__" : Str)) = false := by decide) : DE X (.Name x pos) (fVar i) := ⟨_, pv i hN hv hd hcd, snd_var i⟩
def fC (d : D) : FE := fun δ => some (.ok (.val d), δ)
theorem snd_C {X : Cx} {v : V} {d : D} (h : ∀ G, Rep X.K G v d) : SndE X (tC v) (fC d) := by
  intro M G0 H0 G H σ δ d' δ' Q S e k
  cases e
  exact k v G H S (Gr.refl ..) (.val (h G))
section
variable {X : Cx} {pos : Pos}
theorem de_int {i j} : DE X (.Constant (.int i) j pos) (fC (.int i)) := ⟨_, pe_int, snd_C fun _ => .int i⟩
theorem de_bl {b j} : DE X (.Constant (.bool b) j pos) (fC (.bl b)) := ⟨_, pe_bl, snd_C fun _ => .bl b⟩
theorem de_non {j} : DE X (.Constant .none j pos) (fC .non) := ⟨_, pe_non, snd_C fun _ => .non⟩
theorem de_str {x j} : DE X (.Constant (.str x) j pos) (fC (.str x)) := ⟨_, pe_str, snd_C fun _ => .str x⟩
theorem de_glob {x : Str} {v : V} {u : Value} {d : D} (hg : Gl X x) (hm : X.mg x = some u) (r : RelV v u) (h : ∀ G, Rep X.K G v d) (hd : (x == ("__debug__" : Str)) = false := by decide) : DE X (.Name x pos) (fC d) := ⟨_, pe_glob hg hm r hd, snd_C h⟩
end
end L4

namespace L4
open PySem L2

/-! ### combinators -/
def lift {α : Type} (o : Option α) (δ : DEnv) : Rs α := match o with | some a => some (.ok a, δ) | none => none
theorem lift_inv {α : Type} {o : Option α} {δ δ' : DEnv} {q : Except XD α} (h : lift o δ = some (q, δ')) : ∃ a, o = some a ∧ q = .ok a ∧ δ' = δ := by
  unfold lift at h
  split at h
  · cases h; exact ⟨_, rfl, rfl, rfl⟩
  · cases h
theorem lift_some {α : Type} (a : α) (δ : DEnv) : lift (some a) δ = some (.ok a, δ) := rfl
def fOp (g : D → D → Option Sl) (f1 f2 : FE) : FE := fun δ => (f1 δ).bind fun p δ => (f2 δ).bind fun q δ => lift (g p.fz q.fz) δ
def fUn (g : D → Option Sl) (f1 : FE) : FE := fun δ => (f1 δ).bind fun p δ => lift (g p.fz) δ
def fNil : FL := fun δ => some (.ok [], δ)
def fCons (f : FE) (r : FL) : FL := fun δ => (f δ).bind fun p δ => (r δ).bind fun q δ => some (.ok (p.fz :: q), δ)
def fArgs (g : List D → Option Sl) (r : FL) : FE := fun δ => (r δ).bind fun p δ => lift (g p) δ

def SndO (K : PySem.W.Frag) (r : R2) (g : D → D → Option Sl) : Prop := ∀ (M : Nat → Option Addr) (G0 H0 G H : Hp) (σ : St) (δ : DEnv) (x y : V) (d1 d2 : D) (s : Sl) (Q : VK), StOk K M G0 H0 G H σ δ → Rep K G x d1 → Rep K G y d2 → g d1 d2 = some s →
  (∀ v G' H', StOk K M G0 H0 G' H' σ δ → Gr G H σ δ G' H' δ → RepR K H G' H' v s → Q v H') → r x y H Q
def SndU (K : PySem.W.Frag) (r : V → Hp → VK → Prop) (g : D → Option Sl) : Prop := ∀ (M : Nat → Option Addr) (G0 H0 G H : Hp) (σ : St) (δ : DEnv) (x : V) (d1 : D) (s : Sl) (Q : VK), StOk K M G0 H0 G H σ δ → Rep K G x d1 → g d1 = some s →
  (∀ v G' H', StOk K M G0 H0 G' H' σ δ → Gr G H σ δ G' H' δ → RepR K H G' H' v s → Q v H') → r x H Q
def SndN (K : PySem.W.Frag) (r : List V → Hp → VK → Prop) (g : List D → Option Sl) : Prop := ∀ (M : Nat → Option Addr) (G0 H0 G H : Hp) (σ : St) (δ : DEnv) (xs : List V) (ds : List D) (s : Sl) (Q : VK), StOk K M G0 H0 G H σ δ → RepL K G xs ds → g ds = some s →
  (∀ v G' H', StOk K M G0 H0 G' H' σ δ → Gr G H σ δ G' H' δ → RepR K H G' H' v s → Q v H') → r xs H Q

/-- newness is seen from further ahead -/
theorem RepR.back {K : PySem.W.Frag} {G G1 : Hp} {σ : St} {δ δ1 : DEnv} {H H1 G' H' : Hp} {v : V} {s : Sl} (g : Gr G H σ δ G1 H1 δ1) (r : RepR K H1 G' H' v s) : RepR K H G' H' v s := ⟨r.1, fun o => let ⟨a, p, e1, e2⟩ := r.2 o; ⟨a, p, e1, g.free e2⟩⟩

section
variable {X : Cx} {ta tb : TE} {f1 f2 : FE} {t : TA} {fl : FL}
theorem snd_op {r : R2} {g : D → D → Option Sl} (ho : SndO X.K r g) (ha : SndE X ta f1) (hb : SndE X tb f2) : SndE X (tOp r ta tb) (fOp g f1 f2) := by
  intro M G0 H0 G H σ δ q δ' Q S e k
  rcases Rs.inv e with ⟨s1, δ1, e1, e⟩ | ⟨x, e1, rfl⟩
  · refine ha.toV M G0 H0 G H σ δ s1 δ1 _ S e1 fun x G1 H1 S1 g1 r1 => ?_
    rcases Rs.inv e with ⟨s2, δ2, e2, e⟩ | ⟨x, e2, rfl⟩
    · refine hb.toV M G0 H0 G1 H1 σ δ1 s2 δ2 _ S1 e2 fun y G2 H2 S2 g2 r2 => ?_
      obtain ⟨s3, e3, rfl, rfl⟩ := lift_inv e
      refine ho M G0 H0 G2 H2 σ _ x y _ _ s3 Q S2 (Rep.mono g2.gg r1) r2 e3 fun v G3 H3 S3 g3 r3 => ?_
      exact k v G3 H3 S3 (g1.trans (g2.trans g3)) (r3.back (g1.trans g2))
    · exact hb M G0 H0 G1 H1 σ δ1 _ _ _ S1 e2 (PostX.after g1 k)
  · exact ha M G0 H0 G H σ δ _ _ _ S e1 k
theorem snd_un {r : V → Hp → VK → Prop} {g : D → Option Sl} (ho : SndU X.K r g) (ha : SndE X ta f1) : SndE X (tUn r ta) (fUn g f1) := by
  intro M G0 H0 G H σ δ q δ' Q S e k
  rcases Rs.inv e with ⟨s1, δ1, e1, e⟩ | ⟨x, e1, rfl⟩
  · refine ha.toV M G0 H0 G H σ δ s1 δ1 _ S e1 fun x G1 H1 S1 g1 r1 => ?_
    obtain ⟨s3, e3, rfl, rfl⟩ := lift_inv e
    refine ho M G0 H0 G1 H1 σ _ x _ s3 Q S1 r1 e3 fun v G3 H3 S3 g3 r3 => ?_
    exact k v G3 H3 S3 (g1.trans g3) (r3.back g1)
  · exact ha M G0 H0 G H σ δ _ _ _ S e1 k
theorem snd_nil : SndL X tNil fNil := by
  intro M G0 H0 G H σ δ q δ' Q S e k
  cases e
  exact k [] G H S (Gr.refl ..) .nil
theorem snd_cons (ha : SndE X ta f1) (hr : SndL X t fl) : SndL X (tCons ta t) (fCons f1 fl) := by
  intro M G0 H0 G H σ δ q δ' Q S e k
  rcases Rs.inv e with ⟨s1, δ1, e1, e⟩ | ⟨x, e1, rfl⟩
  · refine ha.toV M G0 H0 G H σ δ s1 δ1 _ S e1 fun x G1 H1 S1 g1 r1 => ?_
    rcases Rs.inv e with ⟨s2, δ2, e2, e⟩ | ⟨x, e2, rfl⟩
    · cases e
      refine hr M G0 H0 G1 H1 σ δ1 (.ok s2) _ _ S1 e2 fun vs G2 H2 S2 g2 r2 => ?_
      exact k _ G2 H2 S2 (g1.trans g2) (.cons (Rep.mono g2.gg r1) r2)
    · exact hr M G0 H0 G1 H1 σ δ1 _ _ _ S1 e2 (PostX.after g1 k)
  · exact ha M G0 H0 G H σ δ _ _ _ S e1 k
theorem snd_cb {r : List V → Hp → VK → Prop} {g : List D → Option Sl} (ho : SndN X.K r g) (ha : SndL X t fl) : SndE X (tCB r t) (fArgs g fl) := by
  intro M G0 H0 G H σ δ q δ' Q S e k
  rcases Rs.inv e with ⟨s1, δ1, e1, e⟩ | ⟨x, e1, rfl⟩
  · refine ha M G0 H0 G H σ δ (.ok s1) δ1 _ S e1 fun x G1 H1 S1 g1 r1 => ?_
    obtain ⟨s3, e3, rfl, rfl⟩ := lift_inv e
    refine ho M G0 H0 G1 H1 σ _ x _ s3 Q S1 r1 e3 fun v G3 H3 S3 g3 r3 => ?_
    exact k v G3 H3 S3 (g1.trans g3) (r3.back g1)
  · exact ha M G0 H0 G H σ δ _ _ _ S e1 k

/-! ### displays -/
def gTupD (ds : List D) : Option Sl := if ds.length ≤ sizeLine then some (.val (.tup ds)) else none
def gLstD (ds : List D) : Option Sl := if ds.length ≤ sizeLine then some (.own (.lst ds)) else none
theorem StOk.newTup {K : PySem.W.Frag} {M : Nat → Option Addr} {G0 H0 G H : Hp} {σ : St} {δ : DEnv} (S : StOk K M G0 H0 G H σ δ) {p : Addr} {vs : List V} {ds : List D} (hp : H p = none) (r : RepL K G vs ds) :
    StOk K M G0 H0 (upd G p (.tup vs)) (upd H p (.tup vs)) σ δ ∧ Gr G H σ δ (upd G p (.tup vs)) (upd H p (.tup vs)) δ ∧ RepR K H (upd G p (.tup vs)) (upd H p (.tup vs)) (.ref p) (.val (.tup ds)) := by
  obtain ⟨S1, g1, hg⟩ := S.new (o := .tup vs) hp
  obtain ⟨S2, hs⟩ := S1.showAt upd_same hg (S.noOw hp) (Same.free S.h0 hp)
  refine ⟨S2, ⟨g1.hs, g1.hd, hs, fun b hb n o => ?_, fun _ z => z⟩, .val (.tup (SqT.of upd_same) (RepL.mono hs r))⟩
  rw [upd_ne (fun z => hb (by rw [z]; exact hp))]
  exact n
theorem StOk.newOwn {K : PySem.W.Frag} {M : Nat → Option Addr} {G0 H0 G H : Hp} {σ : St} {δ : DEnv} (S : StOk K M G0 H0 G H σ δ) {p : Addr} {o : HO} {d : D} (hp : H p = none) (r : OwnAt K G (upd H p o) p d) :
    StOk K M G0 H0 G (upd H p o) σ δ ∧ Gr G H σ δ G (upd H p o) δ ∧ RepR K H G (upd H p o) (.ref p) (.own d) := by
  obtain ⟨S1, g1, hg⟩ := S.new (o := o) hp
  exact ⟨S1, g1, ⟨p, rfl, hg, r⟩, fun _ => ⟨⟨d, rfl⟩, p, rfl, hp⟩⟩
theorem StOk.newLst {K : PySem.W.Frag} {M : Nat → Option Addr} {G0 H0 G H : Hp} {σ : St} {δ : DEnv} (S : StOk K M G0 H0 G H σ δ) {p : Addr} {vs : List V} {ds : List D} (hp : H p = none) (r : RepL K G vs ds) :
    StOk K M G0 H0 G (upd H p (.lst vs)) σ δ ∧ Gr G H σ δ G (upd H p (.lst vs)) δ ∧ RepR K H G (upd H p (.lst vs)) (.ref p) (.own (.lst ds)) := S.newOwn hp ⟨vs, upd_same, r⟩
theorem snd_tup (ha : SndL X t fl) : SndE X (tTup t) (fArgs gTupD fl) := by
  intro M G0 H0 G H σ δ q δ' Q S e k
  rcases Rs.inv e with ⟨s1, δ1, e1, e⟩ | ⟨x, e1, rfl⟩
  · refine ha M G0 H0 G H σ δ (.ok s1) δ1 _ S e1 fun vs G1 H1 S1 g1 r1 => ?_
    obtain ⟨s3, e3, rfl, rfl⟩ := lift_inv e
    unfold gTupD at e3
    split at e3
    · rename_i hl
      cases e3
      refine ⟨by rw [r1.len]; exact hl, fun p hp => ?_⟩
      obtain ⟨S2, g2, r2⟩ := S1.newTup hp r1
      exact k _ _ _ S2 (g1.trans g2) (r2.back g1)
    · cases e3
  · exact ha M G0 H0 G H σ δ _ _ _ S e1 k
theorem snd_lst (ha : SndL X t fl) : SndE X (tLst t) (fArgs gLstD fl) := by
  intro M G0 H0 G H σ δ q δ' Q S e k
  rcases Rs.inv e with ⟨s1, δ1, e1, e⟩ | ⟨x, e1, rfl⟩
  · refine ha M G0 H0 G H σ δ (.ok s1) δ1 _ S e1 fun vs G1 H1 S1 g1 r1 => ?_
    obtain ⟨s3, e3, rfl, rfl⟩ := lift_inv e
    unfold gLstD at e3
    split at e3
    · rename_i hl
      cases e3
      refine ⟨by rw [r1.len]; exact hl, fun p hp => ?_⟩
      obtain ⟨S2, g2, r2⟩ := S1.newLst hp r1
      exact k _ _ _ S2 (g1.trans g2) (r2.back g1)
    · cases e3
  · exact ha M G0 H0 G H σ δ _ _ _ S e1 k
end

/-! ### tests -/
section
variable {X : Cx} {ta tb : TE} {f1 f2 : FE} {tA tB' : TT} {c1 c2 : FT}
def blOf (d : D) : Option Bool := match d with | .bl k => some k | _ => none
theorem blOf_inv {d : D} {k : Bool} (h : blOf d = some k) : d = .bl k := by
  unfold blOf at h
  split at h
  · cases h; rfl
  · cases h
def fTb (f : FE) : FT := fun δ => (f δ).bind fun p δ => lift (blOf p.fz) δ
def truD : D → Option Bool
  | .non => some false
  | .bl k => some k
  | .int i => some (decide (i ≠ 0))
  | .str x => if x.length ≤ sizeLine then some (decide (x.length ≠ 0)) else none
  | .tup ds => some (!ds.isEmpty)
  | .lst ds => some (!ds.isEmpty)
  | _ => none
def fTr (f : FE) : FT := fun δ => (f δ).bind fun p δ => lift (truD p.fz) δ
def fAndT (a b : FT) : FT := fun δ => (a δ).bind fun p δ => if p then b δ else some (.ok false, δ)
def fOrT (a b : FT) : FT := fun δ => (a δ).bind fun p δ => if p then some (.ok true, δ) else b δ
def fNotT (a : FT) : FT := fun δ => (a δ).bind fun p δ => some (.ok (!p), δ)
section
variable {K : PySem.W.Frag} {G : Hp} {v : V}
theorem rep_bl {k : Bool} (h : Rep K G v (.bl k)) : v = .bl k := by cases h; rfl
theorem rep_int {k : Int} (h : Rep K G v (.int k)) : v = .int k := by cases h; rfl
theorem rep_str {k : Str} (h : Rep K G v (.str k)) : v = .str k := by cases h; rfl
theorem rep_non (h : Rep K G v .non) : v = .non := by cases h; rfl
theorem rep_tup {ds : List D} (h : Rep K G v (.tup ds)) : ∃ a vs, v = .ref a ∧ SqT K G a vs ∧ RepL K G vs ds := by cases h with | tup h r => exact ⟨_, _, rfl, h, r⟩
theorem rep_lst {ds : List D} (h : Rep K G v (.lst ds)) : ∃ a vs, v = .ref a ∧ LsK K G a vs ∧ RepL K G vs ds := by cases h with | lst h r => exact ⟨_, _, rfl, h, r⟩
theorem rep_dct {ks ds : List D} (h : Rep K G v (.dct ks ds)) : ∃ a vs, v = .ref a ∧ DcK G a ks vs ∧ RepL K G vs ds := by cases h with | dct h r => exact ⟨_, _, rfl, h, r⟩
end
theorem snd_test (ha : SndE X ta f1) : SndT X (tTest ta) (fTb f1) := by
  intro M G0 H0 G H σ δ q δ' Q S e k
  rcases Rs.inv e with ⟨s1, δ1, e1, e⟩ | ⟨x, e1, rfl⟩
  · refine ha.toV M G0 H0 G H σ δ s1 δ1 _ S e1 fun x G1 H1 S1 g1 r1 => ?_
    obtain ⟨b, e3, rfl, rfl⟩ := lift_inv e
    rw [blOf_inv e3] at r1
    exact ⟨_, rep_bl r1, k G1 H1 S1 g1⟩
  · exact ha M G0 H0 G H σ δ _ _ _ S e1 k
theorem snd_andT (ha : SndT X tA c1) (hb : SndT X tB' c2) : SndT X (tAnd tA tB') (fAndT c1 c2) := by
  intro M G0 H0 G H σ δ q δ' Q S e k
  rcases Rs.inv e with ⟨b, δ1, e1, e⟩ | ⟨x, e1, rfl⟩
  · refine ha M G0 H0 G H σ δ (.ok b) δ1 _ S e1 fun G1 H1 S1 g1 => ?_
    cases b with
    | true =>
      rw [if_pos rfl]
      have e' : c2 δ1 = some (q, δ') := by simpa using e
      cases q with
      | ok b' => exact hb M G0 H0 G1 H1 σ δ1 (.ok b') δ' _ S1 e' fun G2 H2 S2 g2 => k G2 H2 S2 (g1.trans g2)
      | error x => exact hb M G0 H0 G1 H1 σ δ1 _ _ _ S1 e' (PostX.after g1 k)
    | false =>
      rw [if_neg Bool.false_ne_true]
      simp only [Bool.false_eq_true, if_false, Option.some.injEq, Prod.mk.injEq] at e
      obtain ⟨rfl, rfl⟩ := e
      exact k G1 H1 S1 g1
  · exact ha M G0 H0 G H σ δ _ _ _ S e1 k
theorem snd_orT (ha : SndT X tA c1) (hb : SndT X tB' c2) : SndT X (tOr tA tB') (fOrT c1 c2) := by
  intro M G0 H0 G H σ δ q δ' Q S e k
  rcases Rs.inv e with ⟨b, δ1, e1, e⟩ | ⟨x, e1, rfl⟩
  · refine ha M G0 H0 G H σ δ (.ok b) δ1 _ S e1 fun G1 H1 S1 g1 => ?_
    cases b with
    | false =>
      rw [if_neg Bool.false_ne_true]
      have e' : c2 δ1 = some (q, δ') := by simpa using e
      cases q with
      | ok b' => exact hb M G0 H0 G1 H1 σ δ1 (.ok b') δ' _ S1 e' fun G2 H2 S2 g2 => k G2 H2 S2 (g1.trans g2)
      | error x => exact hb M G0 H0 G1 H1 σ δ1 _ _ _ S1 e' (PostX.after g1 k)
    | true =>
      rw [if_pos rfl]
      simp only [if_true, Option.some.injEq, Prod.mk.injEq] at e
      obtain ⟨rfl, rfl⟩ := e
      exact k G1 H1 S1 g1
  · exact ha M G0 H0 G H σ δ _ _ _ S e1 k
theorem snd_notT (ha : SndT X tA c1) : SndT X (tNot tA) (fNotT c1) := by
  intro M G0 H0 G H σ δ q δ' Q S e k
  rcases Rs.inv e with ⟨b, δ1, e1, e⟩ | ⟨x, e1, rfl⟩
  · cases e
    exact ha M G0 H0 G H σ δ (.ok b) _ _ S e1 fun G1 H1 S1 g1 => k G1 H1 S1 g1
  · exact ha M G0 H0 G H σ δ _ _ _ S e1 k
/-- and, or, not as values of bools; a if t else b -/
def fAndV (a b : FE) : FE := fun δ => (a δ).bind fun p δ => match blOf p.fz with | some true => b δ | some false => some (.ok (.val (.bl false)), δ) | none => none
def fOrV (a b : FE) : FE := fun δ => (a δ).bind fun p δ => match blOf p.fz with | some false => b δ | some true => some (.ok (.val (.bl true)), δ) | none => none
def fNotV (a : FE) : FE := fun δ => (a δ).bind fun p δ => lift ((blOf p.fz).map fun k => .val (.bl (!k))) δ
def fIfE (c : FT) (a b : FE) : FE := fun δ => (c δ).bind fun p δ => if p then a δ else b δ
/-- a later part's end, seen from further ahead -/
theorem SndE.later (hb : SndE X tb f2) {M : Nat → Option Addr} {G0 H0 G H G1 H1 : Hp} {σ : St} {δ δ1 δ' : DEnv} {q : Except XD Sl} {Q : VK} (g1 : Gr G H σ δ G1 H1 δ1) (S1 : StOk X.K M G0 H0 G1 H1 σ δ1) (e : f2 δ1 = some (q, δ')) (k : PostE X M G0 H0 G H σ δ δ' Q q) : tb σ H1 Q := by
  cases q with
  | ok s => exact hb M G0 H0 G1 H1 σ δ1 (.ok s) δ' _ S1 e fun v G2 H2 S2 g2 r2 => k v G2 H2 S2 (g1.trans g2) (r2.back g1)
  | error x => exact hb M G0 H0 G1 H1 σ δ1 _ _ _ S1 e (PostX.after g1 k)
theorem snd_andV (ha : SndE X ta f1) (hb : SndE X tb f2) : SndE X (tAndV ta tb) (fAndV f1 f2) := by
  intro M G0 H0 G H σ δ q δ' Q S e k
  rcases Rs.inv e with ⟨s1, δ1, e1, e⟩ | ⟨x, e1, rfl⟩
  · refine ha.toV M G0 H0 G H σ δ s1 δ1 _ S e1 fun x G1 H1 S1 g1 r1 => ?_
    split at e
    · rename_i hb'
      rw [blOf_inv hb'] at r1
      refine ⟨_, rep_bl r1, ?_⟩
      rw [if_pos rfl]
      exact hb.later g1 S1 e k
    · rename_i hb'
      rw [blOf_inv hb'] at r1
      cases e
      refine ⟨_, rep_bl r1, ?_⟩
      rw [if_neg Bool.false_ne_true]
      exact k _ G1 H1 S1 g1 (.val (.bl false))
    · cases e
  · exact ha M G0 H0 G H σ δ _ _ _ S e1 k
theorem snd_orV (ha : SndE X ta f1) (hb : SndE X tb f2) : SndE X (tOrV ta tb) (fOrV f1 f2) := by
  intro M G0 H0 G H σ δ q δ' Q S e k
  rcases Rs.inv e with ⟨s1, δ1, e1, e⟩ | ⟨x, e1, rfl⟩
  · refine ha.toV M G0 H0 G H σ δ s1 δ1 _ S e1 fun x G1 H1 S1 g1 r1 => ?_
    split at e
    · rename_i hb'
      rw [blOf_inv hb'] at r1
      refine ⟨_, rep_bl r1, ?_⟩
      rw [if_neg Bool.false_ne_true]
      exact hb.later g1 S1 e k
    · rename_i hb'
      rw [blOf_inv hb'] at r1
      cases e
      refine ⟨_, rep_bl r1, ?_⟩
      rw [if_pos rfl]
      exact k _ G1 H1 S1 g1 (.val (.bl true))
    · cases e
  · exact ha M G0 H0 G H σ δ _ _ _ S e1 k
theorem snd_notV (ha : SndE X ta f1) : SndE X (tNotV ta) (fNotV f1) := by
  intro M G0 H0 G H σ δ q δ' Q S e k
  rcases Rs.inv e with ⟨s1, δ1, e1, e⟩ | ⟨x, e1, rfl⟩
  · refine ha.toV M G0 H0 G H σ δ s1 δ1 _ S e1 fun x G1 H1 S1 g1 r1 => ?_
    obtain ⟨s3, e3, rfl, rfl⟩ := lift_inv e
    obtain ⟨b, e4, rfl⟩ := Option.map_eq_some_iff.mp e3
    rw [blOf_inv e4] at r1
    exact ⟨_, rep_bl r1, k _ G1 H1 S1 g1 (.val (.bl _))⟩
  · exact ha M G0 H0 G H σ δ _ _ _ S e1 k
theorem snd_ifE (hc : SndT X tA c1) (ha : SndE X ta f1) (hb : SndE X tb f2) : SndE X (tIf tA ta tb) (fIfE c1 f1 f2) := by
  intro M G0 H0 G H σ δ q δ' Q S e k
  rcases Rs.inv e with ⟨b, δ1, e1, e⟩ | ⟨x, e1, rfl⟩
  · refine hc M G0 H0 G H σ δ (.ok b) δ1 _ S e1 fun G1 H1 S1 g1 => ?_
    cases b with
    | true =>
      rw [if_pos rfl]
      exact ha.later g1 S1 (by simpa using e) k
    | false =>
      rw [if_neg Bool.false_ne_true]
      exact hb.later g1 S1 (by simpa using e) k
  · exact hc M G0 H0 G H σ δ _ _ _ S e1 k
end

/-! ### statements -/
inductive Out where
  | next (δ : DEnv) | ret (s : Sl) (δ : DEnv) | brk (δ : DEnv) | cont (δ : DEnv) | ex (x : XD) (δ : DEnv)
abbrev FS := DEnv → Option Out
/-- what is handed back: an own thing is new since the entry, and no name's -/
def RepN (K : PySem.W.Frag) (H0 G H : Hp) (σ : St) (δ : DEnv) (v : V) (s : Sl) : Prop := RepS K G H v s ∧ (s.isO = true → (∃ d, s = .own d) ∧ ∃ p, v = .ref p ∧ H0 p = none ∧ ¬ Ow σ δ p)
def PostS (X : Cx) (M : Nat → Option Addr) (G0 H0 : Hp) (E : Ends) : Out → Prop
  | .next δ => ∀ σ G H, StOk X.K M G0 H0 G H σ δ → E.nx σ H
  | .brk δ => ∀ σ G H, StOk X.K M G0 H0 G H σ δ → E.bk σ H
  | .cont δ => ∀ σ G H, StOk X.K M G0 H0 G H σ δ → E.ct σ H
  | .ret s δ => ∀ v σ G H, StOk X.K M G0 H0 G H σ δ → RepN X.K H0 G H σ δ v s → E.rt v H
  | .ex x δ => ∀ C dx σ G H, StOk X.K M G0 H0 G H σ δ → XRep X C dx G H x → EX X σ C dx H
def SndS (X : Cx) (t : TS) (f : FS) : Prop := ∀ (M : Nat → Option Addr) (G0 H0 G H : Hp) (σ : St) (δ : DEnv) (o : Out) (E : Ends), StOk X.K M G0 H0 G H σ δ → f δ = some o → PostS X M G0 H0 E o → t E σ H
def DS (X : Cx) (st : Stmt) (f : FS) : Prop := ∃ t, PS X st t ∧ SndS X t f
def DB (X : Cx) (st : List Stmt) (f : FS) : Prop := ∃ t, PSs X st t ∧ SndS X t f
/-- an expression, then a statement's end -/
def thenS {α : Type} (r : Rs α) (k : α → DEnv → Option Out) : Option Out := match r with
  | some (.ok a, δ) => k a δ
  | some (.error x, δ) => some (.ex x δ)
  | none => none
theorem thenS_inv {α : Type} {r : Rs α} {k : α → DEnv → Option Out} {o : Out} (h : thenS r k = some o) : (∃ a δ, r = some (.ok a, δ) ∧ k a δ = some o) ∨ ∃ x δ, r = some (.error x, δ) ∧ o = .ex x δ := by
  unfold thenS at h
  split at h
  · exact .inl ⟨_, _, rfl, h⟩
  · cases h; exact .inr ⟨_, _, rfl, rfl⟩
  · cases h
theorem thenS_ok {α : Type} (a : α) (δ : DEnv) (k : α → DEnv → Option Out) : thenS (some (.ok a, δ)) k = k a δ := rfl
theorem thenS_err {α : Type} (x : XD) (δ : DEnv) (k : α → DEnv → Option Out) : thenS (some (.error x, δ)) k = some (.ex x δ) := rfl
section
variable {X : Cx} {t u : TS} {f1 f2 : FS} {te : TE} {fe : FE} {tc : TT} {fc : FT}
theorem PostS.toX {M : Nat → Option Addr} {G0 H0 G H : Hp} {E : Ends} {σ : St} {δ δ' : DEnv} {x : XD} (k : PostS X M G0 H0 E (.ex x δ')) : PostX X M G0 H0 G H σ δ δ' x := fun C dx G' H' S _ r => k C dx σ G' H' S r
def fNext : FS := fun δ => some (.next δ)
def fSeq (a b : FS) : FS := fun δ => (a δ).bind fun o => match o with | .next δ' => b δ' | o => some o
def fIf (c : FT) (a b : FS) : FS := fun δ => thenS (c δ) fun p δ => if p then a δ else b δ
def fAsg (i : Nat) (f : FE) : FS := fun δ => thenS (f δ) fun p δ => some (.next (δ.set i (some p)))
def fDrop (f : FE) : FS := fun δ => thenS (f δ) fun _ δ => some (.next δ)
def fRet (f : FE) : FS := fun δ => thenS (f δ) fun p δ => some (.ret p δ)
def fRetN : FS := fun δ => some (.ret (.val .non) δ)
def fRetV (i : Nat) : FS := fun δ => match δ[i]? with | some (some (.val d)) => some (.ret (.val d) δ) | some (some (.own d)) => some (.ret (.own d) (δ.set i none)) | _ => none
def fBrk : FS := fun δ => some (.brk δ)
def fCont : FS := fun δ => some (.cont δ)
theorem snd_next : SndS X tNext fNext := by
  intro M G0 H0 G H σ δ o E S e k
  cases e
  exact k σ G H S
theorem snd_brk : SndS X tBreak fBrk := by
  intro M G0 H0 G H σ δ o E S e k
  cases e
  exact k σ G H S
theorem snd_cont : SndS X tCont fCont := by
  intro M G0 H0 G H σ δ o E S e k
  cases e
  exact k σ G H S
theorem snd_seq (h1 : SndS X t f1) (h2 : SndS X u f2) : SndS X (tSeq t u) (fSeq f1 f2) := by
  intro M G0 H0 G H σ δ o E S e k
  obtain ⟨o1, e1, e⟩ := Option.bind_eq_some_iff.mp e
  refine h1 M G0 H0 G H σ δ o1 _ S e1 ?_
  cases o1 with
  | next δ1 => exact fun σ1 G1 H1 S1 => h2 M G0 H0 G1 H1 σ1 δ1 o E S1 e k
  | ret s δ1 => cases e; exact k
  | brk δ1 => cases e; exact k
  | cont δ1 => cases e; exact k
  | ex x δ1 => cases e; exact k
theorem snd_if (hc : SndT X tc fc) (h1 : SndS X t f1) (h2 : SndS X u f2) : SndS X (tIfS tc t u) (fIf fc f1 f2) := by
  intro M G0 H0 G H σ δ o E S e k
  rcases thenS_inv e with ⟨b, δ1, e1, e⟩ | ⟨x, δ1, e1, rfl⟩
  · refine hc M G0 H0 G H σ δ (.ok b) δ1 _ S e1 fun G1 H1 S1 g1 => ?_
    cases b with
    | true => rw [if_pos rfl]; exact h1 M G0 H0 G1 H1 σ δ1 o E S1 (by simpa using e) k
    | false => rw [if_neg Bool.false_ne_true]; exact h2 M G0 H0 G1 H1 σ δ1 o E S1 (by simpa using e) k
  · exact hc M G0 H0 G H σ δ _ _ _ S e1 k.toX
theorem StOk.set {K : PySem.W.Frag} {M : Nat → Option Addr} {G0 H0 G H : Hp} {σ : St} {δ : DEnv} (S : StOk K M G0 H0 G H σ δ) (i : Nat) {v : V} {s : Sl} (r : RepS K G H v s) (nw : s.isO = true → (∃ d, s = .own d) ∧ ∃ p, v = .ref p ∧ H0 p = none ∧ ¬ Ow σ δ p) :
    StOk K M G0 H0 G H (σ.set i (some v)) (δ.set i (some s)) := by
  have ow : ∀ p, Ow (σ.set i (some v)) (δ.set i (some s)) p → (Ow σ δ p) ∨ (v = .ref p ∧ s.isO = true) := fun p ⟨j, s', z1, os, z2⟩ => by
    by_cases hj : j = i
    · subst hj
      have hl : j < δ.length := by have := (List.getElem?_eq_some_iff.mp z1).1; simpa using this
      have hl' : j < σ.length := by have := S.env.len; omega
      rw [List.getElem?_set_self hl] at z1
      rw [List.getElem?_set_self hl'] at z2
      cases z1; cases z2
      exact .inr ⟨rfl, os⟩
    · rw [List.getElem?_set_ne (Ne.symm hj)] at z1 z2
      exact .inl ⟨j, s', z1, os, z2⟩
  refine ⟨S.gh, ⟨by simpa using S.env.len, fun j s' e => ?_, fun j j' p a b z1 z2 oa ob z3 z4 => ?_⟩, S.h0, S.g0, S.fr, fun p z => ?_, fun j d e => ?_⟩
  · by_cases hj : j = i
    · subst hj
      have hl : j < δ.length := by have := (List.getElem?_eq_some_iff.mp e).1; simpa using this
      have hl' : j < σ.length := by have := S.env.len; omega
      rw [List.getElem?_set_self hl] at e
      cases e
      exact ⟨v, List.getElem?_set_self hl', r⟩
    · rw [List.getElem?_set_ne (Ne.symm hj)] at e
      obtain ⟨v', e1, r'⟩ := S.env.at' j s' e
      exact ⟨v', by rw [List.getElem?_set_ne (Ne.symm hj)]; exact e1, r'⟩
  · by_cases hj : j = i
    · by_cases hj' : j' = i
      · rw [hj, hj']
      · exfalso
        subst hj
        have hl : j < δ.length := by have := (List.getElem?_eq_some_iff.mp z1).1; simpa using this
        have hl' : j < σ.length := by have := S.env.len; omega
        rw [List.getElem?_set_self hl] at z1
        rw [List.getElem?_set_self hl'] at z3
        rw [List.getElem?_set_ne (Ne.symm hj')] at z2 z4
        cases z1; cases z3
        obtain ⟨_, q, e1, _, e3⟩ := nw oa
        cases e1
        exact e3 ⟨j', b, z2, ob, z4⟩
    · by_cases hj' : j' = i
      · exfalso
        subst hj'
        have hl : j' < δ.length := by have := (List.getElem?_eq_some_iff.mp z2).1; simpa using this
        have hl' : j' < σ.length := by have := S.env.len; omega
        rw [List.getElem?_set_self hl] at z2
        rw [List.getElem?_set_self hl'] at z4
        rw [List.getElem?_set_ne (Ne.symm hj)] at z1 z3
        cases z2; cases z4
        obtain ⟨_, q, e1, _, e3⟩ := nw ob
        cases e1
        exact e3 ⟨j, a, z1, oa, z3⟩
      · rw [List.getElem?_set_ne (Ne.symm hj)] at z1 z3
        rw [List.getElem?_set_ne (Ne.symm hj')] at z2 z4
        exact S.env.sep j j' p a b z1 z2 oa ob z3 z4
  · rcases ow p z with z | ⟨e1, e2⟩
    · exact S.own0 p z
    · obtain ⟨_, q, e3, e4, _⟩ := nw e2
      rw [e1] at e3; cases e3
      exact e4
  · by_cases hj : j = i
    · subst hj
      have hl : j < δ.length := by have := (List.getElem?_eq_some_iff.mp e).1; simpa using this
      rw [List.getElem?_set_self hl] at e
      cases e
      obtain ⟨⟨d', z⟩, _⟩ := nw rfl
      cases z
    · rw [List.getElem?_set_ne (Ne.symm hj)] at e
      obtain ⟨p, z1, z2⟩ := S.mt j d e
      exact ⟨p, z1, by rw [List.getElem?_set_ne (Ne.symm hj)]; exact z2⟩
/-- what an expression tells, as it is kept or handed back -/
theorem RepR.toN {K : PySem.W.Frag} {M : Nat → Option Addr} {G0 H0 G H G' H' : Hp} {σ : St} {δ δ' : DEnv} {v : V} {s : Sl} (S : StOk K M G0 H0 G H σ δ) (g : Gr G H σ δ G' H' δ') (r : RepR K H G' H' v s) : RepN K H0 G' H' σ δ' v s :=
  ⟨r.1, fun o => let ⟨a, p, e1, e2⟩ := r.2 o; ⟨a, p, e1, Same.free S.h0 e2, fun z => S.noOw e2 (g.shr _ z)⟩⟩
theorem snd_asg {i : Nat} (he : SndE X te fe) : SndS X (tAsg te (gName i)) (fAsg i fe) := by
  intro M G0 H0 G H σ δ o E S e k
  rcases thenS_inv e with ⟨s, δ1, e1, e⟩ | ⟨x, δ1, e1, rfl⟩
  · cases e
    refine he M G0 H0 G H σ δ (.ok s) δ1 _ S e1 fun v G1 H1 S1 g1 r => ?_
    have r' := r.toN S g1
    exact k _ G1 H1 (S1.set i r'.1 r'.2)
  · exact he M G0 H0 G H σ δ _ _ _ S e1 k.toX
theorem snd_drop (he : SndE X te fe) : SndS X (tDrop te) (fDrop fe) := by
  intro M G0 H0 G H σ δ o E S e k
  rcases thenS_inv e with ⟨s, δ1, e1, e⟩ | ⟨x, δ1, e1, rfl⟩
  · cases e
    exact he M G0 H0 G H σ δ (.ok s) δ1 _ S e1 fun v G1 H1 S1 g1 r => k σ G1 H1 S1
  · exact he M G0 H0 G H σ δ _ _ _ S e1 k.toX
theorem snd_ret (he : SndE X te fe) : SndS X (tRet te) (fRet fe) := by
  intro M G0 H0 G H σ δ o E S e k
  rcases thenS_inv e with ⟨s, δ1, e1, e⟩ | ⟨x, δ1, e1, rfl⟩
  · cases e
    exact he M G0 H0 G H σ δ (.ok s) δ1 _ S e1 fun v G1 H1 S1 g1 r => k v σ G1 H1 S1 (r.toN S g1)
  · exact he M G0 H0 G H σ δ _ _ _ S e1 k.toX
theorem snd_retN : SndS X tRetN fRetN := by
  intro M G0 H0 G H σ δ o E S e k
  cases e
  exact k .non σ G H S ⟨.non, fun z => nomatch z⟩
/-- a slot is emptied -/
theorem StOk.empty {K : PySem.W.Frag} {M : Nat → Option Addr} {G0 H0 G H : Hp} {σ : St} {δ : DEnv} (S : StOk K M G0 H0 G H σ δ) (i : Nat) : StOk K M G0 H0 G H σ (δ.set i none) := by
  have up : ∀ (j : Nat) (s : Sl), (δ.set i none)[j]? = some (some s) → δ[j]? = some (some s) := fun j s e => by
    by_cases hj : j = i
    · subst hj
      have hl : j < δ.length := by have := (List.getElem?_eq_some_iff.mp e).1; simpa using this
      rw [List.getElem?_set_self hl] at e; cases e
    · rwa [List.getElem?_set_ne (Ne.symm hj)] at e
  exact ⟨S.gh, ⟨by simpa using S.env.len, fun j s e => S.env.at' j s (up j s e), fun j j' p a b z1 z2 => S.env.sep j j' p a b (up j a z1) (up j' b z2)⟩, S.h0, S.g0, S.fr, fun p ⟨j, s, z1, z2⟩ => S.own0 p ⟨j, s, up j s z1, z2⟩, fun j d e => S.mt j d (up j _ e)⟩
theorem snd_retV (i : Nat) : SndS X (tRet (tVar i)) (fRetV i) := by
  intro M G0 H0 G H σ δ o E S e k
  unfold fRetV at e
  split at e
  · rename_i d hs
    cases e
    obtain ⟨v, e1, r⟩ := S.env.at' i _ hs
    exact ⟨v, e1, k v σ G H S ⟨r, fun z => nomatch z⟩⟩
  · rename_i d hs
    cases e
    obtain ⟨v, e1, r⟩ := S.env.at' i _ hs
    refine ⟨v, e1, k v σ G H (S.empty i) ⟨r, fun _ => ⟨⟨d, rfl⟩, ?_⟩⟩⟩
    obtain ⟨p, rfl, _⟩ := r
    refine ⟨p, rfl, S.own0 p ⟨i, _, hs, rfl, e1⟩, fun z => ?_⟩
    obtain ⟨j, s, hj, z1, os, z2⟩ := ow_drop (o := none) (fun s e => by cases e) (List.getElem?_eq_some_iff.mp hs).1 z
    exact hj (S.env.sep j i p s _ z1 hs os rfl z2 e1)
  · cases e
/-! ### lists of one's own that are changed -/
/-- the slot's new content, in its own way -/
def Sl.now : Sl → D → Sl
  | .lnt _, d => .lnt d
  | _, d => .own d
theorem StOk.change {K : PySem.W.Frag} {M : Nat → Option Addr} {G0 H0 G H H' : Hp} {σ : St} {δ : DEnv} (S : StOk K M G0 H0 G H σ δ) {i : Nat} {p : Addr} {s : Sl} {d' : D} (hi : δ[i]? = some (some s)) (os : s.isO = true) (hp : σ[i]? = some (some (.ref p)))
    (hb : ∀ b, b ≠ p → H' b = H b) (r : OwnAt K G H' p d') : StOk K M G0 H0 G H' σ (δ.set i (some (s.now d'))) ∧ Gr G H σ δ G H' (δ.set i (some (s.now d'))) := by
  obtain ⟨v, e1, r0⟩ := S.env.at' i _ hi
  obtain ⟨p', e2, e4, r0⟩ := r0.own os
  rw [hp] at e1; cases e1; cases e2
  have hl : i < δ.length := (List.getElem?_eq_some_iff.mp hi).1
  have on : (s.now d').isO = true := by cases s <;> rfl
  have ow : ∀ q, Ow σ (δ.set i (some (s.now d'))) q → Ow σ δ q := fun q ⟨j, es, z1, oz, z2⟩ => by
    by_cases hj : j = i
    · subst hj; exact ⟨j, s, hi, os, z2⟩
    · rw [List.getElem?_set_ne (Ne.symm hj)] at z1; exact ⟨j, es, z1, oz, z2⟩
  have same' : ∀ (H1 : Hp), H1 p = none → Same H1 H → Same H1 H' := fun H1 n h b o q => by
    rw [hb b (ne_of_none q n)]; exact h b o q
  have own0 : H0 p = none := S.own0 p ⟨i, s, hi, os, hp⟩
  have rep : RepS K G H' (.ref p) (s.now d') := by cases s <;> exact ⟨p, rfl, e4, r⟩
  refine ⟨⟨same' G e4 S.gh, ⟨by simpa using S.env.len, fun j s' e => ?_, fun j j' q a b z1 z2 oa ob z3 z4 => ?_⟩, same' H0 own0 S.h0, S.g0, S.fr, fun q z => S.own0 q (ow q z), fun j d e => ?_⟩, fun b o e n => ?_, fun b n => ?_, Same.refl _, fun _ _ n _ => n, ow⟩
  · by_cases hj : j = i
    · subst hj
      rw [List.getElem?_set_self hl] at e
      cases e
      exact ⟨.ref p, hp, rep⟩
    · rw [List.getElem?_set_ne (Ne.symm hj)] at e
      obtain ⟨v, z1, r'⟩ := S.env.at' j s' e
      refine ⟨v, z1, ?_⟩
      have key : ∀ d, s'.isO = true → (∃ q, v = .ref q ∧ G q = none ∧ OwnAt K G H q d) → ∃ q, v = .ref q ∧ G q = none ∧ OwnAt K G H' q d := fun d os' ⟨q, z2, z3, rr⟩ => by
        subst z2
        have ne : q ≠ p := fun z => hj (by subst z; exact S.env.sep j i q s' s e hi os' os z1 hp)
        exact ⟨q, rfl, z3, rr.keep (hb q ne) (Same.refl _)⟩
      cases s' with
      | val d => exact r'
      | own d => exact key d rfl r'
      | lnt d => exact key d rfl r'
  · have fix : ∀ (m : Nat) (c : Sl), (δ.set i (some (s.now d')))[m]? = some (some c) → c.isO = true → ∃ c', δ[m]? = some (some c') ∧ c'.isO = true := fun m c z oz => by
      by_cases hm : m = i
      · subst hm; exact ⟨s, hi, os⟩
      · rw [List.getElem?_set_ne (Ne.symm hm)] at z; exact ⟨c, z, oz⟩
    obtain ⟨a', z1, oa⟩ := fix j a z1 oa
    obtain ⟨b', z2, ob⟩ := fix j' b z2 ob
    exact S.env.sep j j' q a' b' z1 z2 oa ob z3 z4
  · by_cases hj : j = i
    · subst hj
      rw [List.getElem?_set_self hl] at e
      cases s with
      | val d => cases os
      | own d0 => cases e
      | lnt d0 => exact S.mt j d0 hi
    · rw [List.getElem?_set_ne (Ne.symm hj)] at e; exact S.mt j d e
  · rw [hb b (fun z => n (by rw [z]; exact ⟨i, s, hi, os, hp⟩))]; exact e
  · by_cases hz : b = p
    · subst hz; obtain ⟨o, q⟩ := r.some; rw [q]; simp
    · rw [hb b hz]; exact n
/-- x.method(..) of a list of one's own: g gives the list behind, and what is told -/
def isL : D → Bool
  | .lst _ => true
  | _ => false
def mutD (i : Nat) (g : List D → List D → Option (List D × D)) (es : List D) (δ : DEnv) : Rs Sl := match δ[i]? with
  | some (some s) => if s.isO = true then (match s.fz with
    | .lst ds => (match g ds es with | some q => some (.ok (.val q.2), δ.set i (some (s.now (.lst q.1)))) | none => none)
    | _ => none) else none
  | _ => none
def fMut (i : Nat) (g : List D → List D → Option (List D × D)) (r : FL) : FE := fun δ => match δ[i]? with
  | some (some s) => if isL s.fz = true then (r δ).bind (mutD i g) else none
  | _ => none
def SndM (K : PySem.W.Frag) (r : V → List V → Hp → VK → Prop) (g : List D → List D → Option (List D × D)) : Prop := ∀ (G H : Hp) (p : Addr) (vs xs : List V) (ds es ds' : List D) (d : D) (Q : VK), Same G H → H p = some (.lst vs) → RepL K G vs ds → RepL K G xs es → g ds es = some (ds', d) →
  (∀ v vs', RepL K G vs' ds' → Rep K G v d → Q v (upd H p (.lst vs'))) → r (.ref p) xs H Q
theorem tyL {K : PySem.W.Frag} {G H : Hp} {v : V} {s : Sl} (gh : Same G H) (r : RepS K G H v s) (h : isL s.fz = true) : tyV K "list" v H := by
  have key : ∀ d, isL d = true → (∃ p, v = .ref p ∧ G p = none ∧ OwnAt K G H p d) → tyV K "list" v H := fun d hd ⟨p, e, _, o⟩ => by
    subst e
    cases d with
    | lst ds => obtain ⟨vs, o, _⟩ := o; exact .inl ⟨rfl, vs, SqL.of o⟩
    | _ => cases hd
  cases s with
  | val d =>
    cases d with
    | lst ds => obtain ⟨a, vs, rfl, q, _⟩ := rep_lst r; exact .inl ⟨rfl, vs, (same_ls gh q).sq⟩
    | _ => cases h
  | own d => exact key d h r
  | lnt d => exact key d h r
theorem mutD_snd {i : Nat} {r : V → List V → Hp → VK → Prop} {g : List D → List D → Option (List D × D)} (hr : SndM X.K r g) {M : Nat → Option Addr} {G0 H0 G H : Hp} {σ : St} {δ δ' : DEnv} {es : List D} {xs : List V} {q : Except XD Sl} {v : V} {Q : VK} (S : StOk X.K M G0 H0 G H σ δ) (hv : σ[i]? = some (some v)) (rx : RepL X.K G xs es)
    (e : mutD i g es δ = some (q, δ')) (k : ∀ s w G' H', q = .ok s → StOk X.K M G0 H0 G' H' σ δ' → Gr G H σ δ G' H' δ' → RepR X.K H G' H' w s → Q w H') : r v xs H Q := by
  unfold mutD at e
  split at e
  · rename_i s hi
    split at e
    · rename_i os
      split at e
      · rename_i ds hds
        split at e
        · rename_i q' hq
          obtain ⟨ds', d⟩ := q'
          cases e
          obtain ⟨w, y1, r2⟩ := S.env.at' i _ hi
          rw [hv] at y1; cases y1
          obtain ⟨p, rfl, y3, o⟩ := r2.own os
          rw [hds] at o
          obtain ⟨vs, y2, y4⟩ := o
          refine hr G H p vs xs ds es ds' d _ S.gh y2 y4 rx hq fun w vs' r3 r4 => ?_
          obtain ⟨S2, g2⟩ := S.change (H' := upd H p (.lst vs')) hi os hv (fun b hb => upd_ne hb) (d' := .lst ds') ⟨vs', upd_same, r3⟩
          exact k _ w G _ rfl S2 g2 (.val r4)
        · cases e
      · cases e
    · cases e
  · cases e
theorem snd_mut {i : Nat} {ta : TA} {fa : FL} {r : V → List V → Hp → VK → Prop} {g : List D → List D → Option (List D × D)} (hr : SndM X.K r g) (ha : SndL X ta fa) : SndE X (tBM X.K "list" r (tVar i) ta) (fMut i g fa) := by
  intro M G0 H0 G H σ δ q δ' Q S e k
  unfold fMut at e
  split at e
  · rename_i s0 hi0
    split at e
    · rename_i hl
      obtain ⟨v, z1, r0⟩ := S.env.at' i _ hi0
      refine ⟨v, z1, tyL S.gh r0 hl, ?_⟩
      rcases Rs.inv e with ⟨es, δ1, e1, e⟩ | ⟨x, e1, rfl⟩
      · refine ha M G0 H0 G H σ δ (.ok es) δ1 _ S e1 fun xs G1 H1 S1 g1 r1 => ?_
        refine mutD_snd hr S1 z1 r1 e fun s w G2 H2 hq S2 g2 r2 => ?_
        subst hq
        exact k w G2 H2 S2 (g1.trans g2) (r2.back g1)
      · exact ha M G0 H0 G H σ δ _ _ _ S e1 k
    · cases e
  · cases e
/-- without arguments -/
def fMut0 (i : Nat) (g : List D → List D → Option (List D × D)) : FE := fMut i g fNil
theorem snd_mut0 {i : Nat} {r : V → List V → Hp → VK → Prop} {g : List D → List D → Option (List D × D)} (hr : SndM X.K r g) : SndE X (tBM0 X.K "list" r (tVar i)) (fMut0 i g) := by
  intro M G0 H0 G H σ δ q δ' Q S e k
  unfold fMut0 fMut at e
  split at e
  · rename_i s0 hi0
    split at e
    · rename_i hl
      obtain ⟨v, z1, r0⟩ := S.env.at' i _ hi0
      refine ⟨v, z1, tyL S.gh r0 hl, ?_⟩
      change mutD i g [] δ = some (q, δ') at e
      refine mutD_snd hr S z1 .nil e fun s w G2 H2 hq S2 g2 r2 => ?_
      subst hq
      exact k w G2 H2 S2 g2 r2
    · cases e
  · cases e
def gAppend (ds es : List D) : Option (List D × D) := match es with | [d] => if ds.length < sizeLine then some (ds ++ [d], .non) else none | _ => none
theorem m_append {K : PySem.W.Frag} : SndM K rAppend gAppend := by
  intro G H p vs xs ds es ds' d Q S hp r1 r2 e k
  unfold gAppend at e
  split at e
  · split at e
    · rename_i hl
      cases e
      cases r2 with
      | cons h t =>
        cases t
        exact ⟨p, vs, _, rfl, rfl, hp, by rw [r1.len]; exact hl, k _ _ (r1.app (.cons h .nil)) .non⟩
    · cases e
  · cases e
def gPop (ds es : List D) : Option (List D × D) := match es with | [] => (match ds[ds.length - 1]? with | some d => some (ds.dropLast, d) | none => none) | _ => none
theorem RepL.dropLast {K : PySem.W.Frag} {G : Hp} {vs : List V} {ds : List D} (r : RepL K G vs ds) : RepL K G vs.dropLast ds.dropLast := by
  rw [List.dropLast_eq_take, List.dropLast_eq_take, r.len]
  exact RepL.take _ r
theorem m_pop {K : PySem.W.Frag} : SndM K rPop gPop := by
  intro G H p vs xs ds es ds' d Q S hp r1 r2 e k
  unfold gPop at e
  split at e
  · split at e
    · rename_i d' hd
      cases e
      cases r2
      obtain ⟨v, h1, h2⟩ := r1.at hd
      exact ⟨p, vs, v, rfl, rfl, hp, by rw [r1.len]; exact h1, k _ _ r1.dropLast h2⟩
    · cases e
  · cases e
/-! ### loops -/
def forD (i : Nat) (F : FS) : List D → DEnv → Option Out
  | [], δ => some (.next δ)
  | d :: ds, δ => (F (δ.set i (some (.val d)))).bind fun o => match o with
    | .next δ' => forD i F ds δ'
    | .cont δ' => forD i F ds δ'
    | .brk δ' => some (.next δ')
    | .ret s δ' => some (.ret s δ')
    | .ex x δ' => some (.ex x δ')
def fFor (src : FL) (i : Nat) (F : FS) : FS := fun δ => thenS (src δ) fun ds δ => forD i F ds δ
theorem forD_turn {M : Nat → Option Addr} {G0 H0 : Hp} {E : Ends} {i : Nat} {tb : TS} {F : FS} (hb : SndS X tb F) {d : D} {ds : List D} {v : V} {G H : Hp} {σ : St} {δ : DEnv} {o : Out} {P : St → Hp → Prop} (S : StOk X.K M G0 H0 G H σ δ) (r : Rep X.K G v d) (e : forD i F (d :: ds) δ = some o) (k : PostS X M G0 H0 E o)
    (h : ∀ σ' G' H' δ', StOk X.K M G0 H0 G' H' σ' δ' → forD i F ds δ' = some o → P σ' H') : tb { E with nx := P, ct := P, bk := E.nx } (σ.set i (some v)) H := by
  obtain ⟨o1, e1, e⟩ := Option.bind_eq_some_iff.mp e
  refine hb M G0 H0 G H _ _ o1 _ (S.set i (s := .val d) r fun z => nomatch z) e1 ?_
  cases o1 with
  | next δ1 => exact fun σ' G' H' S' => h σ' G' H' δ1 S' e
  | cont δ1 => exact fun σ' G' H' S' => h σ' G' H' δ1 S' e
  | brk δ1 => cases e; exact k
  | ret s δ1 => cases e; exact k
  | ex x δ1 => cases e; exact k
theorem StOk.rebase {K : PySem.W.Frag} {M : Nat → Option Addr} {G0 H0 G H : Hp} {σ : St} {δ : DEnv} (S : StOk K M G0 H0 G H σ δ) : StOk K M G H0 G H σ δ := ⟨S.gh, S.env, S.h0, Same.refl _, fun _ _ n => n, S.own0, S.mt⟩
theorem StOk.unbase {K : PySem.W.Frag} {M : Nat → Option Addr} {G0 H0 G1 H1 G H : Hp} {σ σ1 : St} {δ δ1 : DEnv} (S : StOk K M G0 H0 G1 H1 σ1 δ1) (S' : StOk K M G1 H0 G H σ δ) : StOk K M G0 H0 G H σ δ := ⟨S'.gh, S'.env, S'.h0, S.g0.trans S'.g0, fun b h n => S'.fr b h (S.fr b h n), S'.own0, S'.mt⟩
theorem PostS.rebase {M : Nat → Option Addr} {G0 H0 G1 H1 : Hp} {σ : St} {δ : DEnv} {E : Ends} {o : Out} (S : StOk X.K M G0 H0 G1 H1 σ δ) (k : PostS X M G0 H0 E o) : PostS X M G1 H0 E o := by
  cases o with
  | next δ1 => exact fun σ' G H S' => k σ' G H (S.unbase S')
  | brk δ1 => exact fun σ' G H S' => k σ' G H (S.unbase S')
  | cont δ1 => exact fun σ' G H S' => k σ' G H (S.unbase S')
  | ret s δ1 => exact fun v σ' G H S' r => k v σ' G H (S.unbase S') r
  | ex x δ1 => exact fun C dx σ' G H S' r => k C dx σ' G H (S.unbase S') r
/-- over a list or tuple: src gives the data of its items -/
def itD : D → Option (List D)
  | .lst ds => some ds
  | .tup ds => some ds
  | _ => none
def fIt (f : FE) : FL := fun δ => (f δ).bind fun p δ => lift (itD p.fz) δ
/-! range -/
def rngD (lo : Int) (n : Nat) : List D := (List.range n).map fun (k : Nat) => D.int (lo + (k : Int))
def rng1D (ds : List D) : Option (List D) := match ds with
  | [.int j] => if -(2 ^ 62) ≤ j ∧ j < 2 ^ 62 then some (rngD 0 j.toNat) else none
  | _ => none
def rng2D (ds : List D) : Option (List D) := match ds with
  | [.int i, .int j] => if -(2 ^ 62) ≤ i ∧ i < 2 ^ 62 ∧ -(2 ^ 62) ≤ j ∧ j < 2 ^ 62 then some (rngD i (j - i).toNat) else none
  | _ => none
def fRng1 (r : FL) : FL := fun δ => (r δ).bind fun p δ => lift (rng1D p) δ
def fRng2 (r : FL) : FL := fun δ => (r δ).bind fun p δ => lift (rng2D p) δ
/-! while, by at most n turns -/
def whileD (c : FT) (F : FS) : Nat → DEnv → Option Out
  | 0, _ => none
  | n + 1, δ => thenS (c δ) fun p δ => if p then (F δ).bind fun o => (match o with
    | .next δ' => whileD c F n δ'
    | .cont δ' => whileD c F n δ'
    | .brk δ' => some (.next δ')
    | .ret s δ' => some (.ret s δ')
    | .ex x δ' => some (.ex x δ')) else some (.next δ)
theorem snd_while (n : Nat) {tb : TS} {F : FS} (hc : SndT X tc fc) (hb : SndS X tb F) : SndS X (tWhile tc tb) (whileD fc F n) := by
  intro M G0 H0 G H σ δ o E S e k
  refine ⟨fun m σ' H' => ∃ G' δ', StOk X.K M G0 H0 G' H' σ' δ' ∧ whileD fc F m δ' = some o, ⟨n, G, δ, S, e⟩, ?_⟩
  rintro m σ' H' ⟨G', δ', S', ef⟩
  cases m with
  | zero => cases ef
  | succ m =>
    rcases thenS_inv ef with ⟨b, δ1, e1, ef⟩ | ⟨x, δ1, e1, rfl⟩
    · refine hc M G0 H0 G' H' σ' δ' (.ok b) δ1 _ S' e1 fun G2 H2 S2 g2 => ?_
      cases b with
      | true =>
        rw [if_pos rfl]
        obtain ⟨o1, e2, ef⟩ := Option.bind_eq_some_iff.mp (by simpa using ef)
        refine ⟨fun σ3 H3 => ∃ G3 δ3, StOk X.K M G0 H0 G3 H3 σ3 δ3 ∧ whileD fc F m δ3 = some o, fun σ3 H3 h => ⟨m, Nat.lt_succ_self _, h⟩, ?_⟩
        refine hb M G0 H0 G2 H2 σ' δ1 o1 _ S2 e2 ?_
        cases o1 with
        | next δ3 => exact fun σ3 G3 H3 S3 => ⟨G3, δ3, S3, ef⟩
        | cont δ3 => exact fun σ3 G3 H3 S3 => ⟨G3, δ3, S3, ef⟩
        | brk δ3 => cases ef; exact k
        | ret s δ3 => cases ef; exact k
        | ex x δ3 => cases ef; exact k
      | false =>
        rw [if_neg Bool.false_ne_true]
        simp only [Bool.false_eq_true, if_false, Option.some.injEq] at ef
        subst ef
        exact k σ' G2 H2 S2
    · exact hc M G0 H0 G' H' σ' δ' _ _ _ S' e1 k.toX
end
end L4

namespace L4
open PySem L2
section
variable {K : PySem.W.Frag}
/-! ### operations at the data, against the layer's readings -/
theorem SndO.or {r r' : R2} {g g' : D → D → Option Sl} (h : SndO K r g) (h' : SndO K r' g') : SndO K (fun x y H Q => r x y H Q ∨ r' x y H Q) (fun a b => match g a b with | some s => some s | none => g' a b) := by
  intro M G0 H0 G H σ δ x y d1 d2 s Q S r1 r2 e k
  dsimp only at e
  split at e
  · rename_i s' hs
    cases e
    exact .inl (h M G0 H0 G H σ δ x y d1 d2 s Q S r1 r2 hs k)
  · exact .inr (h' M G0 H0 G H σ δ x y d1 d2 s Q S r1 r2 e k)
/-- ints in, a value out -/
def iiD (c : Int → Int → Bool) (g : Int → Int → D) (a b : D) : Option Sl := match a, b with
  | .int i, .int j => if c i j = true then some (.val (g i j)) else none
  | _, _ => none
theorem o_int {C : Int → Int → Prop} {gv : Int → Int → V} {c : Int → Int → Bool} {g : Int → Int → D} (hc : ∀ i j, c i j = true → C i j) (hg : ∀ G i j, Rep K G (gv i j) (g i j)) : SndO K (rI C gv) (iiD c g) := by
  intro M G0 H0 G H σ δ x y d1 d2 s Q S r1 r2 e k
  unfold iiD at e
  split at e
  · rename_i i j
    split at e
    · rename_i h
      cases e
      cases rep_int r1
      cases rep_int r2
      exact ⟨i, j, rfl, rfl, hc i j h, k _ G H S (Gr.refl ..) (.val (hg G i j))⟩
    · cases e
  · cases e
def iiD0 (g : Int → Int → D) (a b : D) : Option Sl := match a, b with
  | .int i, .int j => some (.val (g i j))
  | _, _ => none
theorem o_int0 {gv : Int → Int → V} {g : Int → Int → D} (hg : ∀ G i j, Rep K G (gv i j) (g i j)) : SndO K (rI0 gv) (iiD0 g) := by
  intro M G0 H0 G H σ δ x y d1 d2 s Q S r1 r2 e k
  unfold iiD0 at e
  split at e
  · rename_i i j
    cases e
    cases rep_int r1
    cases rep_int r2
    exact ⟨i, j, rfl, rfl, k _ G H S (Gr.refl ..) (.val (hg G i j))⟩
  · cases e
/-- texts in -/
def ssD (c : Str → Str → Bool) (g : Str → Str → D) (a b : D) : Option Sl := match a, b with
  | .str i, .str j => if c i j = true then some (.val (g i j)) else none
  | _, _ => none
theorem o_addS : SndO K (fun x y H Q => ∃ i j, x = .str i ∧ y = .str j ∧ i.length + j.length ≤ sizeLine ∧ Q (.str (i ++ j)) H) (ssD (fun i j => decide (i.length + j.length ≤ sizeLine)) fun i j => .str (i ++ j)) := by
  intro M G0 H0 G H σ δ x y d1 d2 s Q S r1 r2 e k
  unfold ssD at e
  split at e
  · rename_i i j
    split at e
    · rename_i h
      cases e
      cases rep_str r1
      cases rep_str r2
      exact ⟨i, j, rfl, rfl, of_decide_eq_true h, k _ G H S (Gr.refl ..) (.val (.str _))⟩
    · cases e
  · cases e
theorem o_str {gv : Str → Str → V} {g : Str → Str → D} (hg : ∀ G i j, Rep K G (gv i j) (g i j)) : SndO K (fun x y H Q => ∃ i j, x = .str i ∧ y = .str j ∧ Q (gv i j) H) (ssD (fun _ _ => true) g) := by
  intro M G0 H0 G H σ δ x y d1 d2 s Q S r1 r2 e k
  unfold ssD at e
  split at e
  · rename_i i j
    split at e
    · cases e
      cases rep_str r1
      cases rep_str r2
      exact ⟨i, j, rfl, rfl, k _ G H S (Gr.refl ..) (.val (hg _ _ _))⟩
    · cases e
  · cases e
/-- lists put together -/
def rCatS (K : PySem.W.Frag) : R2 := fun x y H Q => ∃ l b xs zs, x = .ref l ∧ y = .ref b ∧ LsK K H l xs ∧ LsK K H b zs ∧ xs.length + zs.length ≤ sizeLine ∧ ∀ p, H p = none → Q (.ref p) (upd H p (.lst (xs ++ zs)))
def catD (a b : D) : Option Sl := match a, b with
  | .lst i, .lst j => if i.length + j.length ≤ sizeLine then some (.own (.lst (i ++ j))) else none
  | _, _ => none
theorem o_cat : SndO K (rCatS K) catD := by
  intro M G0 H0 G H σ δ x y d1 d2 s Q S r1 r2 e k
  unfold catD at e
  split at e
  · rename_i i j
    split at e
    · rename_i h
      cases e
      obtain ⟨l, xs, rfl, q1, l1⟩ := rep_lst r1
      obtain ⟨b, zs, rfl, q2, l2⟩ := rep_lst r2
      refine ⟨l, b, xs, zs, rfl, rfl, same_ls S.gh q1, same_ls S.gh q2, by rw [l1.len, l2.len]; exact h, fun p hp => ?_⟩
      obtain ⟨S2, g2, r⟩ := S.newLst hp (l1.app l2)
      exact k _ _ _ S2 g2 r
    · cases e
  · cases e
/-- is None, is not None -/
def isND (neg : Bool) (a b : D) : Option Sl := match b with
  | .non => some (.val (.bl (match a with | .non => !neg | _ => neg)))
  | _ => none
theorem rep_isN {G : Hp} {x : V} {d : D} (r : Rep K G x d) : decide (x = V.non) = (match d with | .non => true | _ => false) := by
  cases r <;> rfl
theorem o_isN : SndO K (fun x y H Q => y = .non ∧ Q (.bl (decide (x = .non))) H) (isND false) := by
  intro M G0 H0 G H σ δ x y d1 d2 s Q S r1 r2 e k
  unfold isND at e
  split at e
  · cases e
    cases rep_non r2
    refine ⟨rfl, k _ G H S (Gr.refl ..) ?_⟩
    rw [rep_isN r1]
    cases d1 <;> exact .val (.bl _)
  · cases e
theorem o_notN : SndO K (fun x y H Q => y = .non ∧ Q (.bl (!decide (x = .non))) H) (isND true) := by
  intro M G0 H0 G H σ δ x y d1 d2 s Q S r1 r2 e k
  unfold isND at e
  split at e
  · cases e
    cases rep_non r2
    refine ⟨rfl, k _ G H S (Gr.refl ..) ?_⟩
    rw [rep_isN r1]
    cases d1 <;> exact .val (.bl _)
  · cases e
/-! ### items -/
def ixD (a b : D) : Option Sl := match a, b with
  | .lst ds, .int i => (atI ds i).map .val
  | .tup ds, .int i => (atI ds i).map .val
  | .str z, .int i => if z.length ≤ sizeLine then (atI z.cps.toList i).map fun c => .val (.str ⟨#[c]⟩) else none
  | _, _ => none
theorem RepL.atI {G : Hp} {vs : List V} {ds : List D} {i : Int} {d : D} (r : RepL K G vs ds) (h : L2.atI ds i = some d) : ∃ v, L2.atI vs i = some v ∧ Rep K G v d := by
  unfold L2.atI at h ⊢
  rw [r.len]
  obtain ⟨j, e1, e2⟩ := Option.bind_eq_some_iff.mp h
  obtain ⟨v, e3, e4⟩ := r.at e2
  exact ⟨v, by rw [e1]; exact e3, e4⟩
theorem o_ix : SndO K (rIx K) ixD := by
  intro M G0 H0 G H σ δ x y d1 d2 s Q S r1 r2 e k
  unfold ixD at e
  split at e
  · rename_i ds i
    obtain ⟨d, e1, e2⟩ := Option.map_eq_some_iff.mp e
    subst e2
    obtain ⟨l, xs, rfl, q1, l1⟩ := rep_lst r1
    cases rep_int r2
    obtain ⟨v, e3, r3⟩ := l1.atI e1
    exact .inl ⟨l, xs, i, v, rfl, rfl, (same_ls S.gh q1).sq, e3, k _ G H S (Gr.refl ..) (.val r3)⟩
  · rename_i ds i
    obtain ⟨d, e1, e2⟩ := Option.map_eq_some_iff.mp e
    subst e2
    obtain ⟨l, xs, rfl, q1, l1⟩ := rep_tup r1
    cases rep_int r2
    obtain ⟨v, e3, r3⟩ := l1.atI e1
    exact .inr (.inl ⟨l, xs, i, v, rfl, rfl, same_sqT S.gh q1, e3, k _ G H S (Gr.refl ..) (.val r3)⟩)
  · rename_i z i
    split at e
    · rename_i hz
      obtain ⟨c, e1, e2⟩ := Option.map_eq_some_iff.mp e
      subst e2
      cases rep_str r1
      cases rep_int r2
      exact .inr (.inr ⟨z, i, c, rfl, rfl, hz, e1, k _ G H S (Gr.refl ..) (.val (.str _))⟩)
    · cases e
  · cases e
/-! ### slices: a[lo:hi] -/
abbrev FO := DEnv → Rs (Option Int)
def SndP (X : Cx) (t : TO) (f : FO) : Prop := ∀ (M : Nat → Option Addr) (G0 H0 G H : Hp) (σ : St) (δ : DEnv) (r : Except XD (Option Int)) (δ' : DEnv) (Q : Option Int → Hp → Prop), StOk X.K M G0 H0 G H σ δ → f δ = some (r, δ') → PostT X M G0 H0 G H σ δ δ' Q r → t σ H Q
def fNoP : FO := fun δ => some (.ok none, δ)
def intOf (d : D) : Option (Option Int) := match d with | .int i => some (some i) | _ => none
def fPart (f : FE) : FO := fun δ => (f δ).bind fun p δ => lift (intOf p.fz) δ
theorem snd_noP {X : Cx} : SndP X tNoPart fNoP := by
  intro M G0 H0 G H σ δ b δ' Q S e k
  cases e
  exact k G H S (Gr.refl ..)
theorem snd_part {X : Cx} {te : TE} {fe : FE} (h : SndE X te fe) : SndP X (tPart te) (fPart fe) := by
  intro M G0 H0 G H σ δ q δ' Q S e k
  rcases Rs.inv e with ⟨s1, δ1, e1, e⟩ | ⟨x, e1, rfl⟩
  · refine h.toV M G0 H0 G H σ δ s1 δ1 _ S e1 fun v G1 H1 S1 g1 r1 => ?_
    obtain ⟨i, e3, rfl, rfl⟩ := lift_inv e
    unfold intOf at e3
    split at e3
    · rename_i i' hi
      cases e3
      rw [hi] at r1
      exact ⟨i', rep_int r1, k G1 H1 S1 g1⟩
    · cases e3
  · exact h M G0 H0 G H σ δ _ _ _ S e1 k
def SndSl (K : PySem.W.Frag) (r : V → Option Int → Option Int → Hp → VK → Prop) (g : D → Option Int → Option Int → Option Sl) : Prop := ∀ (M : Nat → Option Addr) (G0 H0 G H : Hp) (σ : St) (δ : DEnv) (x : V) (d : D) (lo hi : Option Int) (s : Sl) (Q : VK), StOk K M G0 H0 G H σ δ → Rep K G x d → g d lo hi = some s →
  (∀ v G' H', StOk K M G0 H0 G' H' σ δ → Gr G H σ δ G' H' δ → RepR K H G' H' v s → Q v H') → r x lo hi H Q
def fSl (g : D → Option Int → Option Int → Option Sl) (f : FE) (l h : FO) : FE := fun δ => (f δ).bind fun p δ => (l δ).bind fun q δ => (h δ).bind fun r δ => lift (g p.fz q r) δ
theorem snd_sl {X : Cx} {r : V → Option Int → Option Int → Hp → VK → Prop} {g : D → Option Int → Option Int → Option Sl} {te : TE} {fe : FE} {tl th : TO} {fl fh : FO} (hr : SndSl X.K r g) (he : SndE X te fe) (hl : SndP X tl fl) (hh : SndP X th fh) : SndE X (tSl r te tl th) (fSl g fe fl fh) := by
  intro M G0 H0 G H σ δ q δ' Q S e k
  rcases Rs.inv e with ⟨s1, δ1, e1, e⟩ | ⟨x, e1, rfl⟩
  · refine he.toV M G0 H0 G H σ δ s1 δ1 _ S e1 fun x G1 H1 S1 g1 r1 => ?_
    rcases Rs.inv e with ⟨lo, δ2, e2, e⟩ | ⟨x, e2, rfl⟩
    · refine hl M G0 H0 G1 H1 σ δ1 (.ok lo) δ2 _ S1 e2 fun G2 H2 S2 g2 => ?_
      rcases Rs.inv e with ⟨hi, δ3, e3, e⟩ | ⟨x, e3, rfl⟩
      · refine hh M G0 H0 G2 H2 σ δ2 (.ok hi) _ _ S2 e3 fun G3 H3 S3 g3 => ?_
        obtain ⟨s4, e4, rfl, rfl⟩ := lift_inv e
        refine hr M G0 H0 G3 H3 σ _ x _ lo hi s4 Q S3 (Rep.mono (g2.gg.trans g3.gg) r1) e4 fun v G4 H4 S4 g4 r4 => ?_
        exact k v G4 H4 S4 (g1.trans (g2.trans (g3.trans g4))) (r4.back (g1.trans (g2.trans g3)))
      · exact hh M G0 H0 G2 H2 σ δ2 _ _ _ S2 e3 (PostX.after (g1.trans g2) k)
    · exact hl M G0 H0 G1 H1 σ δ1 _ _ _ S1 e2 (PostX.after g1 k)
  · exact he M G0 H0 G H σ δ _ _ _ S e1 k
def cutD {α : Type} (xs : List α) (lo hi : Option Int) : List α := (xs.drop (HT.sIx xs.length 0 lo)).take (HT.sIx xs.length xs.length hi - HT.sIx xs.length 0 lo)
theorem RepL.cut {G : Hp} {vs : List V} {ds : List D} (lo hi : Option Int) (r : RepL K G vs ds) : RepL K G (cutV vs lo hi) (cutD ds lo hi) := by
  unfold cutV cutD
  rw [r.len]
  exact RepL.take _ (RepL.drop _ r)
def slLD (d : D) (lo hi : Option Int) : Option Sl := match d with | .lst ds => some (.own (.lst (cutD ds lo hi))) | _ => none
theorem s_lst : SndSl K (rSlL K) slLD := by
  intro M G0 H0 G H σ δ x d lo hi s Q S r e k
  unfold slLD at e
  split at e
  · rename_i ds
    cases e
    obtain ⟨l, xs, rfl, q1, l1⟩ := rep_lst r
    refine ⟨l, xs, rfl, (same_ls S.gh q1).sq, fun p hp => ?_⟩
    obtain ⟨S2, g2, r⟩ := S.newLst hp (l1.cut lo hi)
    exact k _ _ _ S2 g2 r
  · cases e
/-- x.extend(e) of another list -/
def rExtendS (K : PySem.W.Frag) : V → List V → Hp → VK → Prop := fun x vs H Q => ∃ l b xs zs, x = .ref l ∧ vs = [.ref b] ∧ H l = some (.lst xs) ∧ LsK K H b zs ∧ xs.length + zs.length ≤ sizeLine ∧ Q .non (upd H l (.lst (xs ++ zs)))
def gExtend (ds es : List D) : Option (List D × D) := match es with | [.lst zs] => if ds.length + zs.length ≤ sizeLine then some (ds ++ zs, .non) else none | _ => none
theorem m_extend : SndM K (rExtendS K) gExtend := by
  intro G H p vs xs ds es ds' d Q S hp r1 r2 e k
  unfold gExtend at e
  split at e
  · rename_i zs
    split at e
    · rename_i hl
      cases e
      cases r2 with
      | cons h t =>
        cases t
        obtain ⟨b, ws, rfl, q, l⟩ := rep_lst h
        exact ⟨p, b, vs, ws, rfl, rfl, hp, same_ls S q, by rw [r1.len, l.len]; exact hl, k _ _ (r1.app l) .non⟩
    · cases e
  · cases e
/-! ### built-ins -/
def g1 (g : D → Option Sl) (ds : List D) : Option Sl := match ds with | [d] => g d | _ => none
def g2 (g : D → D → Option Sl) (ds : List D) : Option Sl := match ds with | [a, b] => g a b | _ => none
theorem repL1 {G : Hp} {xs : List V} {d : D} (r : RepL K G xs [d]) : ∃ x, xs = [x] ∧ Rep K G x d := by
  cases r with
  | cons h t => cases t; exact ⟨_, rfl, h⟩
theorem repL2 {G : Hp} {xs : List V} {d e : D} (r : RepL K G xs [d, e]) : ∃ x y, xs = [x, y] ∧ Rep K G x d ∧ Rep K G y e := by
  cases r with
  | cons h t =>
    obtain ⟨y, rfl, r⟩ := repL1 t
    exact ⟨_, _, rfl, h, r⟩
def lenD (d : D) : Option Sl := match d with
  | .str z => if z.length ≤ sizeLine then some (.val (.int z.length)) else none
  | .lst ds => some (.val (.int ds.length))
  | .tup ds => some (.val (.int ds.length))
  | _ => none
theorem c_len : SndN K (fun xs H Q => ∃ x n, xs = [x] ∧ LenV K x H n ∧ Q (.int n) H) (g1 lenD) := by
  intro M G0 H0 G H σ δ xs ds s Q S r e k
  unfold g1 at e
  split at e
  · rename_i d
    obtain ⟨x, rfl, rr⟩ := repL1 r
    unfold lenD at e
    split at e
    · rename_i z
      split at e
      · rename_i hz
        cases e
        cases rep_str rr
        exact ⟨_, z.length, rfl, ⟨hz, rfl⟩, k _ G H S (Gr.refl ..) (.val (.int _))⟩
      · cases e
    · rename_i es
      cases e
      obtain ⟨l, vs, rfl, q1, l1⟩ := rep_lst rr
      exact ⟨_, vs.length, rfl, .inl ⟨vs, (same_ls S.gh q1).sq, rfl⟩, k _ G H S (Gr.refl ..) (.val (by rw [l1.len]; exact .int _))⟩
    · rename_i es
      cases e
      obtain ⟨l, vs, rfl, q1, l1⟩ := rep_tup rr
      exact ⟨_, vs.length, rfl, .inr ⟨vs, same_sqT S.gh q1, rfl⟩, k _ G H S (Gr.refl ..) (.val (by rw [l1.len]; exact .int _))⟩
    · cases e
  · cases e
theorem c_ii {gv : Int → Int → V} {g : Int → Int → D} (hg : ∀ G i j, Rep K G (gv i j) (g i j)) : SndN K (fun xs H Q => ∃ i j, xs = [.int i, .int j] ∧ Q (gv i j) H) (g2 (iiD0 g)) := by
  intro M G0 H0 G H σ δ xs ds s Q S r e k
  unfold g2 at e
  split at e
  · obtain ⟨x, y, rfl, r1, r2⟩ := repL2 r
    unfold iiD0 at e
    split at e
    · rename_i i j
      cases e
      cases rep_int r1
      cases rep_int r2
      exact ⟨i, j, rfl, k _ G H S (Gr.refl ..) (.val (hg _ _ _))⟩
    · cases e
  · cases e
def intD (d : D) : Option Sl := match d with | .int i => some (.val (.int i)) | .bl k => some (.val (.int (if k then 1 else 0))) | _ => none
theorem c_int : SndN K (fun xs H Q => (∃ i, xs = [.int i] ∧ Q (.int i) H) ∨ ∃ k, xs = [.bl k] ∧ Q (.int (if k then 1 else 0)) H) (g1 intD) := by
  intro M G0 H0 G H σ δ xs ds s Q S r e k
  unfold g1 at e
  split at e
  · rename_i d
    obtain ⟨x, rfl, rr⟩ := repL1 r
    unfold intD at e
    split at e
    · rename_i i
      cases e
      cases rep_int rr
      exact .inl ⟨i, rfl, k _ G H S (Gr.refl ..) (.val (.int _))⟩
    · rename_i b
      cases e
      cases rep_bl rr
      exact .inr ⟨b, rfl, k _ G H S (Gr.refl ..) (.val (.int _))⟩
    · cases e
  · cases e
def strD (d : D) : Option Sl := match d with | .int i => if i.natAbs.log2 < 1920 then some (.val (.str (toString i))) else none | _ => none
theorem c_str : SndN K (fun xs H Q => ∃ i, xs = [.int i] ∧ i.natAbs.log2 < 1920 ∧ Q (.str (toString i)) H) (g1 strD) := by
  intro M G0 H0 G H σ δ xs ds s Q S r e k
  unfold g1 at e
  split at e
  · rename_i d
    obtain ⟨x, rfl, rr⟩ := repL1 r
    unfold strD at e
    split at e
    · rename_i i
      split at e
      · rename_i hi
        cases e
        cases rep_int rr
        exact ⟨i, rfl, hi, k _ G H S (Gr.refl ..) (.val (.str _))⟩
      · cases e
    · cases e
  · cases e
def listD (d : D) : Option Sl := match d with | .lst ds => some (.own (.lst ds)) | .tup ds => some (.own (.lst ds)) | _ => none
theorem c_list : SndN K (fun xs H Q => ∃ p ys, xs = [.ref p] ∧ (SqL K H p ys ∨ SqT K H p ys) ∧ ∀ l, H l = none → Q (.ref l) (upd H l (.lst ys))) (g1 listD) := by
  intro M G0 H0 G H σ δ xs ds s Q S r e k
  unfold g1 at e
  split at e
  · rename_i d
    obtain ⟨x, rfl, rr⟩ := repL1 r
    unfold listD at e
    split at e
    · cases e
      obtain ⟨l, vs, rfl, q1, l1⟩ := rep_lst rr
      refine ⟨l, vs, rfl, .inl (same_ls S.gh q1).sq, fun p hp => ?_⟩
      obtain ⟨S2, g2, r⟩ := S.newLst hp l1
      exact k _ _ _ S2 g2 r
    · cases e
      obtain ⟨l, vs, rfl, q1, l1⟩ := rep_tup rr
      refine ⟨l, vs, rfl, .inr (same_sqT S.gh q1), fun p hp => ?_⟩
      obtain ⟨S2, g2, r⟩ := S.newLst hp l1
      exact k _ _ _ S2 g2 r
    · cases e
  · cases e
/-! ### a op b op' c -/
def fChain (g g' : D → D → Option Sl) (f1 f2 f3 : FE) : FE := fun δ => (f1 δ).bind fun p δ => (f2 δ).bind fun q δ => match g p.fz q.fz with
  | some (.val (.bl true)) => (f3 δ).bind fun r δ => lift (g' q.fz r.fz) δ
  | some (.val (.bl false)) => some (.ok (.val (.bl false)), δ)
  | _ => none
theorem snd_chain {X : Cx} {r r' : R2} {g g' : D → D → Option Sl} {ta tb tc : TE} {f1 f2 f3 : FE} (ho : SndO X.K r g) (ho' : SndO X.K r' g') (ha : SndE X ta f1) (hb : SndE X tb f2) (hc : SndE X tc f3) : SndE X (tChain r r' ta tb tc) (fChain g g' f1 f2 f3) := by
  intro M G0 H0 G H σ δ q δ' Q S e k
  rcases Rs.inv e with ⟨s1, δ1, e1, e⟩ | ⟨x, e1, rfl⟩
  · refine ha.toV M G0 H0 G H σ δ s1 δ1 _ S e1 fun x G1 H1 S1 g1 r1 => ?_
    rcases Rs.inv e with ⟨s2, δ2, e2, e⟩ | ⟨x, e2, rfl⟩
    · refine hb.toV M G0 H0 G1 H1 σ δ1 s2 δ2 _ S1 e2 fun y G2 H2 S2 g2 r2 => ?_
      split at e
      · rename_i e3
        refine ho M G0 H0 G2 H2 σ δ2 x y _ _ _ _ S2 (Rep.mono g2.gg r1) r2 e3 fun v G3 H3 S3 g3 r3 => ?_
        refine ⟨true, rep_bl r3.1, ?_⟩
        rw [if_pos rfl]
        rcases Rs.inv e with ⟨s4, δ4, e4, e⟩ | ⟨x, e4, rfl⟩
        · obtain ⟨s5, e5, rfl, rfl⟩ := lift_inv e
          refine hc.toV M G0 H0 G3 H3 σ δ2 s4 _ _ S3 e4 fun z G4 H4 S4 g4 r4 => ?_
          refine ho' M G0 H0 G4 H4 σ _ y z _ _ _ _ S4 (Rep.mono (g3.gg.trans g4.gg) r2) r4 e5 fun v G5 H5 S5 g5 r5 => ?_
          exact k v G5 H5 S5 (g1.trans (g2.trans (g3.trans (g4.trans g5)))) (r5.back (g1.trans (g2.trans (g3.trans g4))))
        · exact hc M G0 H0 G3 H3 σ δ2 _ _ _ S3 e4 (PostX.after (g1.trans (g2.trans g3)) k)
      · rename_i e3
        refine ho M G0 H0 G2 H2 σ δ2 x y _ _ _ _ S2 (Rep.mono g2.gg r1) r2 e3 fun v G3 H3 S3 g3 r3 => ?_
        refine ⟨false, rep_bl r3.1, ?_⟩
        rw [if_neg Bool.false_ne_true]
        cases e
        exact k _ G3 H3 S3 (g1.trans (g2.trans g3)) (.val (.bl false))
      · cases e
    · exact hb M G0 H0 G1 H1 σ δ1 _ _ _ S1 e2 (PostX.after g1 k)
  · exact ha M G0 H0 G H σ δ _ _ _ S e1 k
theorem snd_truth {X : Cx} {ta : TE} {f1 : FE} (ha : SndE X ta f1) : SndT X (fun σ H Q => ta σ H fun x H' => ∃ k, TruV X.K x H' k ∧ Q k H') (fTr f1) := by
  intro M G0 H0 G H σ δ q δ' Q S e k
  rcases Rs.inv e with ⟨s1, δ1, e1, e⟩ | ⟨x, e1, rfl⟩
  · obtain ⟨b, e2, rfl, rfl⟩ := lift_inv e
    refine ha.toV M G0 H0 G H σ δ s1 _ _ S e1 fun x G1 H1 S1 g1 r1 => ?_
    refine ⟨_, ?_, k G1 H1 S1 g1⟩
    cases hd : s1.fz with
    | non => rw [hd] at e2 r1; cases e2; cases rep_non r1; rfl
    | bl c => rw [hd] at e2 r1; cases e2; cases rep_bl r1; rfl
    | int i => 
      rw [hd] at e2 r1; cases e2; cases rep_int r1
      show decide (i ≠ 0) = (i != 0)
      by_cases h : i = 0 <;> simp [h]
    | str z =>
      rw [hd] at e2 r1; 
      change (if z.length ≤ sizeLine then some (decide (z.length ≠ 0)) else none) = some b at e2
      split at e2
      · rename_i hz
        cases e2
        cases rep_str r1
        refine ⟨hz, ?_⟩
        by_cases h : z.length = 0
        · simp [h]
        · have h2 : ((z.length : Nat) : Int) ≠ 0 := by omega
          rw [decide_eq_true h]
          exact (bne_iff_ne.mpr h2).symm
      · cases e2
    | tup ds => 
      rw [hd] at e2 r1; cases e2
      obtain ⟨a, vs, rfl, q, l⟩ := rep_tup r1
      exact .inr (.inl ⟨vs, same_sqT S1.gh q, by cases l <;> rfl⟩)
    | lst ds => 
      rw [hd] at e2 r1; cases e2
      obtain ⟨a, vs, rfl, q, l⟩ := rep_lst r1
      exact .inl ⟨vs, (same_ls S1.gh q).sq, by cases l <;> rfl⟩
    | ty n => rw [hd] at e2; cases e2
    | dct ks vs => rw [hd] at e2; cases e2
  · exact ha M G0 H0 G H σ δ _ _ _ S e1 k
end
end L4

namespace L4
open PySem L2
/-! ### the operations' values -/
def addD : D → D → Option Sl := fun a b => match iiD0 (fun i j => .int (i + j)) a b with
  | some s => some s
  | none => (fun a b => match ssD (fun i j => decide (i.length + j.length ≤ sizeLine)) (fun i j => .str (i ++ j)) a b with | some s => some s | none => catD a b) a b
def subD : D → D → Option Sl := iiD0 fun i j => .int (i - j)
def cMul (i j : Int) : Bool := (decide (-(2 ^ 64) < i) && decide (i < 2 ^ 64)) || (decide (-(2 ^ 64) < j) && decide (j < 2 ^ 64))
def mulD : D → D → Option Sl := iiD cMul fun i j => .int (i * j)
def cDiv (_ j : Int) : Bool := decide (0 < j) && decide (j < 1073741824)
def fdivD : D → D → Option Sl := iiD cDiv fun i j => .int (i / j)
def modD : D → D → Option Sl := iiD (fun _ j => decide (0 < j)) fun i j => .int (i % j)
def cPow (i j : Int) : Bool := decide (0 ≤ j) && decide (j ≤ 1000000) && decide (i.natAbs < 2 ^ 64)
def powD : D → D → Option Sl := iiD cPow fun i j => .int (i ^ j.toNat)
def negD : D → Option Sl := fun d => match d with | .int i => some (.val (.int (-i))) | _ => none
def ltD : D → D → Option Sl := iiD0 fun i j => .bl (decide (i < j))
def leD : D → D → Option Sl := iiD0 fun i j => .bl (decide (i ≤ j))
def gtD : D → D → Option Sl := iiD0 fun i j => .bl (decide (j < i))
def geD : D → D → Option Sl := iiD0 fun i j => .bl (decide (j ≤ i))
def maxD : D → D → Option Sl := iiD0 fun i j => .int (if j > i then j else i)
def minD : D → D → Option Sl := iiD0 fun i j => .int (if j < i then j else i)
mutual
/-- == of data -/
def eqD : D → D → Bool
  | .non, .non => true
  | .bl a, .bl b => a == b
  | .int a, .int b => a == b
  | .bl a, .int b => (if a = true then (1 : Int) else 0) == b
  | .int a, .bl b => a == (if b = true then (1 : Int) else 0)
  | .str a, .str b => a == b
  | .tup a, .tup b => eqDs a b
  | .lst a, .lst b => eqDs a b
  | _, _ => false
def eqDs : List D → List D → Bool
  | [], [] => true
  | a :: as, b :: bs => eqD a b && eqDs as bs
  | _, _ => false
end
mutual
/-- how deep it nests -/
def depD : D → Nat
  | .tup a => depDs a + 1
  | .lst a => depDs a + 1
  | _ => 0
def depDs : List D → Nat
  | [] => 0
  | a :: as => max (depD a) (depDs as)
end
def strOkD (x : Str) : Bool := x.cps.all (· < 0x110000)
mutual
/-- no type within, texts of code points -/
def plainD : D → Bool
  | .ty _ => false
  | .dct _ _ => false
  | .str x => strOkD x
  | .tup ds => plainDs ds
  | .lst ds => plainDs ds
  | _ => true
def plainDs : List D → Bool
  | [] => true
  | d :: ds => plainD d && plainDs ds
end
def eqOp (neg : Bool) (a b : D) : Option Sl := if (decide (depD a ≤ 100) && plainD a && plainD b) = true then some (.val (.bl (if neg then !eqD a b else eqD a b))) else none
/-- a in b: b a list or tuple, or a text -/
def inOp (neg : Bool) (a b : D) : Option Sl := match b with
  | .lst ds => if (decide (depD a ≤ 100) && plainD a && plainDs ds) = true then some (.val (.bl (if neg then !ds.any (fun y => eqD y a) else ds.any (fun y => eqD y a)))) else none
  | .tup ds => if (decide (depD a ≤ 100) && plainD a && plainDs ds) = true then some (.val (.bl (if neg then !ds.any (fun y => eqD y a) else ds.any (fun y => eqD y a)))) else none
  | .str y => match a with
    | .str x => some (.val (.bl (if neg then !(!(Builtin.Str.occurrences y x 0 y.length 1).isEmpty) else !(Builtin.Str.occurrences y x 0 y.length 1).isEmpty)))
    | _ => none
  | _ => none
/-- isinstance of a builtin type -/
def isiT : D → String → Option Bool
  | .int _, T => if T = "int" then some true else if T = "bool" ∨ T = "str" ∨ T = "list" ∨ T = "tuple" then some false else none
  | .bl _, T => if T = "int" ∨ T = "bool" then some true else if T = "str" ∨ T = "list" ∨ T = "tuple" then some false else none
  | .str _, T => if T = "str" then some true else if T = "int" ∨ T = "bool" ∨ T = "list" ∨ T = "tuple" then some false else none
  | .tup _, T => if T = "tuple" then some true else if T = "int" ∨ T = "bool" ∨ T = "str" ∨ T = "list" then some false else none
  | .lst _, T => if T = "list" then some true else if T = "int" ∨ T = "bool" ∨ T = "str" ∨ T = "tuple" then some false else none
  | _, _ => none
def isiD (a b : D) : Option Sl := match b with | .ty T => (isiT a T).map fun k => .val (.bl k) | _ => none
/-- the slots at the entry: the arguments, those at ms lent, then the other names -/
def argS (ms : List Nat) (i : Nat) (d : D) : Sl := if ms.contains i then .lnt d else .val d
def argSs (ms : List Nat) : Nat → List D → List Sl
  | _, [] => []
  | i, d :: ds => argS ms i d :: argSs ms (i + 1) ds
def startD (n : Nat) (ms : List Nat) (ds : List D) : DEnv := (argSs ms 0 ds).map some ++ List.replicate (n - ds.length) none
/-- what the lent things are in the end -/
def outsD (δ : DEnv) : List Nat → Option (List D)
  | [] => some []
  | i :: ms => match δ[i]? with
    | some (some (.lnt d)) => (outsD δ ms).map (d :: ·)
    | _ => none
/-- a def at the data: what it hands back, or the exception; and what the lent things are then -/
abbrev Fn := List D → Option (Except XD Sl × List D)
def runD (n m : Nat) (ms : List Nat) (f : FS) : Fn := fun ds => if ds.length = m then (match f (startD n ms ds) with
  | some (.ret s δ) => (outsD δ ms).map fun o => (.ok s, o)
  | some (.next δ) => (outsD δ ms).map fun o => (.ok (.val .non), o)
  | some (.ex x δ) => (outsD δ ms).map fun o => (.error x, o)
  | _ => none) else none
end L4

namespace L4
open PySem L2
/-! ### looking at one's own things without giving them away -/
mutual
def noLst : D → Bool
  | .lst _ => false
  | .dct _ _ => false
  | .tup ds => noLsts ds
  | _ => true
def noLsts : List D → Bool
  | [] => true
  | d :: ds => noLst d && noLsts ds
end
/-- nothing within that may be one's own: data without lists and dicts; a new list of such -/
def Sl.flat : Sl → Bool
  | .val d => noLst d
  | .own (.lst ds) => noLsts ds
  | .own (.dct _ ds) => noLsts ds
  | _ => false
def frzS : Option Sl → Option Sl
  | some s => some (.val s.fz)
  | none => none
def frzE (δ : DEnv) : DEnv := δ.map frzS
def fPure (f : FE) : FE := fun δ => match f (frzE δ) with
  | some (.ok s, _) => if s.flat = true then some (.ok s, δ) else f δ
  | some (.error x, _) => if noLsts (x.fs.map (·.2)) = true then some (.error x, δ) else none
  | none => none
def fPureT (c : FT) : FT := fun δ => match c (frzE δ) with
  | some (.ok s, _) => some (.ok s, δ)
  | some (.error x, _) => if noLsts (x.fs.map (·.2)) = true then some (.error x, δ) else none
  | none => none
section
variable {K : PySem.W.Frag} {M : Nat → Option Addr}
theorem frz_at {δ : DEnv} {i : Nat} {s : Sl} (h : (frzE δ)[i]? = some (some s)) : ∃ s', δ[i]? = some (some s') ∧ s = .val s'.fz := by
  unfold frzE at h
  rw [List.getElem?_map] at h
  cases q : δ[i]? with
  | none => rw [q] at h; cases h
  | some o =>
    rw [q] at h
    cases o with
    | none => cases h
    | some s' => cases h; exact ⟨s', rfl, rfl⟩
theorem noOw_frz {σ : St} {δ : DEnv} {p : Addr} : ¬ Ow σ (frzE δ) p := fun ⟨i, s, z, os, _⟩ => by
  obtain ⟨s', _, rfl⟩ := frz_at z
  cases os
/-- lists and dicts -/
def isHO : HO → Prop
  | .lst _ => True
  | .dT _ => True
  | .dK _ => True
  | _ => False
theorem OwnAt.isHO {G H : Hp} {p : Addr} {d : D} (h : OwnAt K G H p d) : ∃ o, H p = Option.some o ∧ L4.isHO o := by
  cases d with
  | lst ds => obtain ⟨vs, h, _⟩ := h; exact ⟨_, h, trivial⟩
  | dct ks ds =>
    obtain ⟨vs, h, _⟩ := h
    rcases h with ⟨kvs, h, _⟩ | ⟨kvs, h, _⟩
    · exact ⟨_, h, trivial⟩
    · exact ⟨_, h, trivial⟩
  | _ => exact h.elim
open Classical in
theorem StOk.frz {G0 H0 G H : Hp} {σ : St} {δ : DEnv} (S : StOk K M G0 H0 G H σ δ) : ∃ G1, StOk K M G0 H0 G1 H σ (frzE δ) ∧ Same G G1 ∧ ∀ b o, G1 b = some o → G b = some o ∨ isHO o := by
  have hOw : ∀ p, Ow σ δ p → ∃ o, H p = some o ∧ G p = none ∧ isHO o := fun p ⟨i, s, z1, os, z2⟩ => by
    obtain ⟨v, z3, r⟩ := S.env.at' i _ z1
    obtain ⟨q, e1, e2, r⟩ := r.own os
    rw [z2] at z3; cases z3; cases e1
    obtain ⟨o, e3, e4⟩ := r.isHO
    exact ⟨o, e3, e2, e4⟩
  have hs : Same G (fun b => if Ow σ δ b then H b else G b) := fun b o q => by
    have : ¬ Ow σ δ b := fun z => by obtain ⟨_, _, e, _⟩ := hOw b z; rw [q] at e; cases e
    show (if Ow σ δ b then H b else G b) = some o
    rw [if_neg this]; exact q
  refine ⟨fun b => if Ow σ δ b then H b else G b, ⟨fun b o q => ?_, ⟨by simpa [frzE] using S.env.len, fun i s e => ?_, fun i j p a b z1 _ oa _ z3 _ => (noOw_frz ⟨i, a, z1, oa, z3⟩).elim⟩, S.h0, S.g0.trans hs, fun b h n => ?_, fun p z => (noOw_frz z).elim, fun i d e => ?_⟩, hs, fun b o q => ?_⟩
  · split at q
    · exact q
    · exact S.gh b o q
  · obtain ⟨s', q, rfl⟩ := frz_at e
    obtain ⟨v, e1, r⟩ := S.env.at' i s' q
    refine ⟨v, e1, ?_⟩
    by_cases os : s'.isO = true
    · obtain ⟨p, rfl, e3, r⟩ := r.own os
      obtain ⟨o, ho⟩ := r.some
      have r2 := r.shown e3 ho
      have : Same (upd G p o) (fun b => if Ow σ δ b then H b else G b) := fun b u z => by
        show (if Ow σ δ b then H b else G b) = some u
        by_cases hb : b = p
        · subst hb
          rw [upd_same] at z; cases z
          rw [if_pos ⟨i, s', q, os, e1⟩]; exact ho
        · rw [upd_ne hb] at z
          exact hs b u z
      exact Rep.mono this r2
    · cases s' with
      | val d => exact Rep.mono hs r
      | own d => exact absurd rfl os
      | lnt d => exact absurd rfl os
  · have : ¬ Ow σ δ b := fun z => h (S.own0 b z)
    show (if Ow σ δ b then H b else G b) = none
    rw [if_neg this]; exact S.fr b h n
  · obtain ⟨s', _, z⟩ := frz_at e
    cases z
  · dsimp only at q
    split at q
    · rename_i z
      obtain ⟨o', e, _, e4⟩ := hOw b z
      rw [e] at q; cases q
      exact .inr e4
    · exact .inl q
mutual
theorem Rep.narrow {G G' : Hp} (h : ∀ a vs, SqT K G a vs → SqT K G' a vs) : ∀ {v : V} {d : D}, Rep K G v d → noLst d = true → Rep K G' v d
  | _, _, .non, _ => .non
  | _, _, .bl b, _ => .bl b
  | _, _, .int i, _ => .int i
  | _, _, .str x, _ => .str x
  | _, _, .ty n, _ => .ty n
  | _, _, .tup q r, n => .tup (h _ _ q) (RepL.narrow h r n)
  | _, _, .lst _ _, n => nomatch n
  | _, _, .dct _ _, n => nomatch n
theorem RepL.narrow {G G' : Hp} (h : ∀ a vs, SqT K G a vs → SqT K G' a vs) : ∀ {vs : List V} {ds : List D}, RepL K G vs ds → noLsts ds = true → RepL K G' vs ds
  | _, _, .nil, _ => .nil
  | _, _, .cons q r, n => by
    have n' : (noLst _ && noLsts _) = true := n
    rw [Bool.and_eq_true] at n'
    exact .cons (Rep.narrow h q n'.1) (RepL.narrow h r n'.2)
end
/-- back from the frozen look -/
theorem StOk.back {G0 H0 G H G1 G2 H2 : Hp} {σ : St} {δ δ2 : DEnv} (S : StOk K M G0 H0 G H σ δ) (n1 : ∀ b o, G1 b = some o → G b = some o ∨ isHO o)
    (S2 : StOk K M G0 H0 G2 H2 σ δ2) (g : Gr G1 H σ (frzE δ) G2 H2 δ2) :
    ∃ G3, StOk K M G0 H0 G3 H2 σ δ ∧ Gr G H σ δ G3 H2 δ ∧ (∀ a vs, SqT K G2 a vs → SqT K G3 a vs) ∧ ∀ b, H b = none → G3 b = G2 b := by
  have hh : Same H H2 := fun b o e => g.hs b o e noOw_frz
  have hs : Same G (fun b => match H b with | none => G2 b | some _ => G b) := fun b o q => by
    show (match H b with | none => G2 b | some _ => G b) = some o
    rw [S.gh b o q]; exact q
  refine ⟨fun b => match H b with | none => G2 b | some _ => G b, ⟨fun b o q => ?_, ⟨S.env.len, fun i s e => ?_, S.env.sep⟩, S.h0.trans hh, S.g0.trans hs, fun b h n => ?_, S.own0, S.mt⟩, Gr.of hh hs (fun b h n _ => ?_) fun _ z => z, fun a vs q => ?_, fun b hb => by show (match H b with | none => G2 b | some _ => G b) = G2 b; rw [hb]⟩
  · cases hb : H b with
    | none => rw [hb] at q; exact S2.gh b o q
    | some u => rw [hb] at q; exact hh b o (S.gh b o q)
  · obtain ⟨v, e1, r⟩ := S.env.at' i s e
    refine ⟨v, e1, ?_⟩
    have key : ∀ d, (∃ p, v = .ref p ∧ G p = none ∧ OwnAt K G H p d) → ∃ p, v = .ref p ∧ (match H p with | none => G2 p | some _ => G p) = none ∧ OwnAt K (fun b => match H b with | none => G2 b | some _ => G b) H2 p d := fun d ⟨p, e2, e4, rr⟩ => by
      obtain ⟨o, e3⟩ := rr.some
      exact ⟨p, e2, by rw [e3]; exact e4, rr.keep (by rw [hh _ _ e3, e3]) hs⟩
    cases s with
    | val d => exact Rep.mono hs r
    | own d => exact key d r
    | lnt d => exact key d r
  · show (match H b with | none => G2 b | some _ => G b) = none
    have hb := same_ne S.h0 h
    cases q : H b with
    | none => exact absurd q hb
    | some u => exact S.fr b h n
  · show (match H b with | none => G2 b | some _ => G b) = none
    cases q : H b with
    | none => exact absurd q h
    | some u => exact n
  · have at_ : ∀ o, G2 a = some o → ¬ isHO o → (match H a with | none => G2 a | some _ => G a) = some o := fun o e no => by
      cases hb : H a with
      | none => exact e
      | some u =>
        show G a = some o
        cases e1 : G1 a with
        | none => 
          have := g.fr a (by rw [hb]; simp) e1 noOw_frz
          rw [e] at this; cases this
        | some o1 =>
          have e2 := g.gg a o1 e1
          rw [e] at e2; cases e2
          rcases n1 a o e1 with q | q
          · exact q
          · exact absurd q no
    rcases q with (q | ⟨o, q⟩) | q
    · exact .inl (.inl (at_ _ q fun z => z))
    · exact .inl (.inr ⟨o, at_ _ q fun z => z⟩)
    · exact .inr q
end
section
variable {X : Cx}
theorem XRep.narrow {C : Value} {dx : Option Addr} {G G' H : Hp} {x : XD} (h : ∀ a vs, SqT X.K G a vs → SqT X.K G' a vs) (n : noLsts (x.fs.map (·.2)) = true) (r : XRep X C dx G H x) : XRep X C dx G' H x := by
  obtain ⟨h1, h2⟩ := r
  refine ⟨h1, h2.imp id ?_⟩
  rintro ⟨p, fs, e1, e2, e3, e4⟩
  exact ⟨p, fs, e1, e2, RepL.narrow h e3 n, e4⟩
theorem snd_pure {te : TE} {fe : FE} (h : SndE X te fe) : SndE X te (fPure fe) := by
  intro M G0 H0 G H σ δ q δ' Q S e k
  unfold fPure at e
  obtain ⟨G1, S1, hs, n1⟩ := S.frz
  split at e
  · rename_i s δ1 e1
    split at e
    · rename_i hf
      cases e
      refine h M G0 H0 G1 H σ (frzE δ) (.ok s) δ1 Q S1 e1 fun v G2 H2 S2 g2 r2 => ?_
      obtain ⟨G3, S3, g3, hq, h3⟩ := S.back n1 S2 g2
      refine k v G3 H2 S3 g3 ⟨?_, r2.2⟩
      obtain ⟨r, nw⟩ := r2
      cases s with
      | val d => exact Rep.narrow hq r hf
      | lnt d => cases hf
      | own d =>
        obtain ⟨p, rfl, y2, r⟩ := r
        obtain ⟨_, q, y3, y4⟩ := nw rfl
        cases y3
        refine ⟨p, rfl, by rw [h3 p y4]; exact y2, ?_⟩
        cases d with
        | lst ds => obtain ⟨vs, y1, r⟩ := r; exact ⟨vs, y1, RepL.narrow hq r hf⟩
        | dct ks ds => obtain ⟨vs, y1, r⟩ := r; exact ⟨vs, y1, RepL.narrow hq r hf⟩
        | _ => exact r.elim
    · exact h M G0 H0 G H σ δ _ δ' Q S e k
  · rename_i x δ1 e1
    split at e
    · rename_i hf
      cases e
      refine h M G0 H0 G1 H σ (frzE δ) (.error x) δ1 Q S1 e1 fun C dx G2 H2 S2 g2 r2 => ?_
      obtain ⟨G3, S3, g3, hq, h3⟩ := S.back n1 S2 g2
      exact k C dx G3 H2 S3 g3 (r2.narrow hq hf)
    · cases e
  · cases e
theorem snd_pureT {tt : TT} {ft : FT} (h : SndT X tt ft) : SndT X tt (fPureT ft) := by
  intro M G0 H0 G H σ δ q δ' Q S e k
  unfold fPureT at e
  obtain ⟨G1, S1, hs, n1⟩ := S.frz
  split at e
  · rename_i s δ1 e1
    cases e
    refine h M G0 H0 G1 H σ (frzE δ) (.ok s) δ1 Q S1 e1 fun G2 H2 S2 g2 => ?_
    obtain ⟨G3, S3, g3, hq, h3⟩ := S.back n1 S2 g2
    exact k G3 H2 S3 g3
  · rename_i x δ1 e1
    split at e
    · rename_i hf
      cases e
      refine h M G0 H0 G1 H σ (frzE δ) (.error x) δ1 Q S1 e1 fun C dx G2 H2 S2 g2 r2 => ?_
      obtain ⟨G3, S3, g3, hq, h3⟩ := S.back n1 S2 g2
      exact k C dx G3 H2 S3 g3 (r2.narrow hq hf)
    · cases e
  · cases e
end
end L4

namespace L4
open PySem L2
section
variable {X : Cx} {a b c e : Expr} {es : List Expr} {f1 f2 f3 : FE} {fl : FL} {pos : Pos} {c1 c2 : FT} {rest : List Expr}
/-- an operator's reading and its value -/
def QR (X : Cx) (op : CmpOp) (g : D → D → Option Sl) : Prop := ∃ r, OpR X (compareOp op) r ∧ SndO X.K r g
def BR (X : Cx) (op : Operator) (g : D → D → Option Sl) : Prop := ∃ r, OpR X (binaryOp op) r ∧ SndO X.K r g
theorem de_bin {op : Operator} {g : D → D → Option Sl} (h : BR X op g) (ha : DE X a f1) (hb : DE X b f2) : DE X (.BinOp a op b pos) (fOp g f1 f2) :=
  let ⟨_, h1, h2⟩ := h; let ⟨_, a1, a2⟩ := ha; let ⟨_, b1, b2⟩ := hb; ⟨_, pe_op h1 a1 b1, snd_op h2 a2 b2⟩
theorem de_cmp {op : CmpOp} {g : D → D → Option Sl} (h : QR X op g) (ha : DE X a f1) (hb : DE X b f2) (hm : behindInMarks op b = false) : DE X (.Compare a [op] [b] pos) (fOp g f1 f2) :=
  let ⟨_, h1, h2⟩ := h; let ⟨_, a1, a2⟩ := ha; let ⟨_, b1, b2⟩ := hb; ⟨_, pe_cmpR h1 a1 b1 hm, snd_op h2 a2 b2⟩
theorem dt_cmp {op : CmpOp} {g : D → D → Option Sl} (h : QR X op g) (ha : DE X a f1) (hb : DE X b f2) (hm : behindInMarks op b = false) : DT X (.Compare a [op] [b] pos) (fTb (fOp g f1 f2)) :=
  let ⟨_, h1, h2⟩ := h; let ⟨_, a1, a2⟩ := ha; let ⟨_, b1, b2⟩ := hb; ⟨_, pt_cmpR h1 a1 b1 hm, snd_test (snd_op h2 a2 b2)⟩
theorem de_chain {op op' : CmpOp} {g g' : D → D → Option Sl} (h : QR X op g) (h' : QR X op' g') (ha : DE X a f1) (hb : DE X b f2) (hc : DE X c f3) (hm : lastMarks [op, op'] [b, c] = false := by with_unfolding_all rfl) : DE X (.Compare a [op, op'] [b, c] pos) (fChain g g' f1 f2 f3) :=
  let ⟨_, h1, h2⟩ := h; let ⟨_, h1', h2'⟩ := h'; let ⟨_, a1, a2⟩ := ha; let ⟨_, b1, b2⟩ := hb; let ⟨_, y1, y2⟩ := hc; ⟨_, pe_chain h1 h1' a1 b1 y1 hm, snd_chain h2 h2' a2 b2 y2⟩
theorem dt_chain {op op' : CmpOp} {g g' : D → D → Option Sl} (h : QR X op g) (h' : QR X op' g') (ha : DE X a f1) (hb : DE X b f2) (hc : DE X c f3) (hm : lastMarks [op, op'] [b, c] = false := by with_unfolding_all rfl) : DT X (.Compare a [op, op'] [b, c] pos) (fTb (fChain g g' f1 f2 f3)) :=
  let ⟨_, h1, h2⟩ := h; let ⟨_, h1', h2'⟩ := h'; let ⟨_, a1, a2⟩ := ha; let ⟨_, b1, b2⟩ := hb; let ⟨_, y1, y2⟩ := hc; ⟨_, pt_chain h1 h1' a1 b1 y1 hm, snd_test (snd_chain h2 h2' a2 b2 y2)⟩
theorem q_lt : QR X .Lt ltD := ⟨_, op_lt, o_int0 fun _ _ _ => .bl _⟩
theorem q_le : QR X .LtE leD := ⟨_, op_le, o_int0 fun _ _ _ => .bl _⟩
theorem q_gt : QR X .Gt gtD := ⟨_, op_gt, o_int0 fun _ _ _ => .bl _⟩
theorem q_ge : QR X .GtE geD := ⟨_, op_ge, o_int0 fun _ _ _ => .bl _⟩
theorem q_isN : QR X .Is (isND false) := ⟨_, op_isN, o_isN⟩
theorem q_notN : QR X .IsNot (isND true) := ⟨_, op_notN, o_notN⟩
theorem de_sub (ha : DE X a f1) (hb : DE X b f2) : DE X (.BinOp a .Sub b pos) (fOp subD f1 f2) := de_bin ⟨_, op_sub, o_int0 fun _ _ _ => .int _⟩ ha hb
theorem de_mul (ha : DE X a f1) (hb : DE X b f2) : DE X (.BinOp a .Mult b pos) (fOp mulD f1 f2) := de_bin ⟨_, op_mul, o_int (fun i j h => by
  unfold cMul at h
  rw [Bool.or_eq_true, Bool.and_eq_true, Bool.and_eq_true] at h
  exact h.imp (fun z => ⟨of_decide_eq_true z.1, of_decide_eq_true z.2⟩) fun z => ⟨of_decide_eq_true z.1, of_decide_eq_true z.2⟩) fun _ _ _ => .int _⟩ ha hb
theorem de_fdiv (ha : DE X a f1) (hb : DE X b f2) : DE X (.BinOp a .FloorDiv b pos) (fOp fdivD f1 f2) := de_bin ⟨_, op_fdiv, o_int (fun i j h => by
  unfold cDiv at h
  rw [Bool.and_eq_true] at h
  exact ⟨of_decide_eq_true h.1, of_decide_eq_true h.2⟩) fun _ _ _ => .int _⟩ ha hb
theorem de_mod (ha : DE X a f1) (hb : DE X b f2) : DE X (.BinOp a .Mod b pos) (fOp modD f1 f2) := de_bin ⟨_, op_mod, o_int (fun i j h => of_decide_eq_true h) fun _ _ _ => .int _⟩ ha hb
theorem de_pow (ha : DE X a f1) (hb : DE X b f2) : DE X (.BinOp a .Pow b pos) (fOp powD f1 f2) := de_bin ⟨_, op_pow, o_int (fun i j h => by
  unfold cPow at h
  rw [Bool.and_eq_true, Bool.and_eq_true] at h
  exact ⟨of_decide_eq_true h.1.1, of_decide_eq_true h.1.2, of_decide_eq_true h.2⟩) fun _ _ _ => .int _⟩ ha hb
theorem Inv.lstR {pins : List (Addr × Obj)} {σ : St} {H : Hp} {s : Shared} {l : Addr} {xs : List V} (I : Inv X pins σ H s) (hH : LsK X.K H l xs) : xs.length ≤ sizeLine ∧ ∃ (its : List Value) (n : Nat), Vals xs its ∧ xs.length = its.length ∧ s.heap.get? l = some { cls := .type "list", data := .seq its.toArray n } := by
  rcases hH with hH | ⟨its, n, h1, h2, h3⟩
  · obtain ⟨z, its, n, r, e⟩ := hH.ok I.hok
    exact ⟨z, its, n, r, r.length, e⟩
  · refine ⟨by rw [h3.length, Array.length_toList]; exact h2, its.toList, n, h3, h3.length, ?_⟩
    have := I.kIn l _ h1
    simpa using this
theorem op_catS : OpR X (binaryOp .Add) (rCatS X.K) := by
  intro pins s σ H x y v u Q I rx ry h
  obtain ⟨l, b, xs, zs, rfl, rfl, hH, hB, hz, q⟩ := h
  cases rx
  cases ry
  obtain ⟨z, its, n, r, hl, e⟩ := Inv.lstR I hH
  obtain ⟨z2, its2, n2, r2, hl2, e2⟩ := Inv.lstR I hB
  refine PySem.P.add_list e e2 ?_ (by rw [List.size_toArray, List.size_toArray]; omega)
  have ea : its.toArray ++ its2.toArray = (its ++ its2).toArray := by simp
  rw [ea]
  exact ⟨.ref _, _, I.lnew (t' := s.toks) (r.append r2) (by rw [List.length_append]; omega), rfl, q _ I.fresh⟩
theorem mt_extendS : MtM X "list.extend" (rExtendS X.K) := by
  intro pins s σ H x vs v us Q I rx rv h
  obtain ⟨l, b, xs, zs, rfl, rfl, hH, hB, hz, q⟩ := h
  cases rx
  obtain ⟨u, rfl, ru⟩ := rv.one
  cases ru
  obtain ⟨z, its, n, r, hl, e⟩ := I.lstM hH
  obtain ⟨z2, its2, n2, r2, hl2, e2⟩ := Inv.lstR I hB
  have hsz : its.toArray.size + its2.toArray.size ≤ sizeLine := by rw [List.size_toArray, List.size_toArray]; omega
  have hlong : ¬ (!its.toArray.isEmpty && Builtin.List.listTooLong (its.toArray.size + its2.toArray.size)) = true := by
    rw [notLongL hsz, Bool.and_false]
    exact Bool.false_ne_true
  refine call_meets F.slot_list_extend ⟨_, e, rfl⟩ F.entry_list_extend (F.args_list_extend_2 _ _)
    (AutoSeq1.list_extend_list_list_0 l its.toArray n b its2.toArray n2 hlong (by rw [List.size_toArray]; omega) (by omega)) ⟨e, e2, ?_⟩
  refine ⟨.non, _, I.lset (its' := its ++ its2) hH e (by simp) (r.append r2) ?_, rfl, q⟩
  rw [List.length_append]
  omega
theorem de_add (ha : DE X a f1) (hb : DE X b f2) : DE X (.BinOp a .Add b pos) (fOp addD f1 f2) := de_bin ⟨_, op_add.or (op_add_str.or op_catS), (o_int0 fun _ _ _ => .int _).or (o_addS.or o_cat)⟩ ha hb
theorem u_neg {K : PySem.W.Frag} : SndU K (rU fun i => .int (-i)) negD := by
  intro M G0 H0 G H σ δ x d s Q S r e k
  unfold negD at e
  split at e
  · rename_i i
    cases e
    cases rep_int r
    exact ⟨i, rfl, k _ G H S (Gr.refl ..) (.val (.int _))⟩
  · cases e
theorem de_neg (ha : DE X a f1) : DE X (.UnaryOp .USub a pos) (fUn negD f1) := let ⟨_, a1, a2⟩ := ha; ⟨_, pe_un un_neg a1, snd_un u_neg a2⟩
theorem de_not (ha : DE X a f1) : DE X (.UnaryOp .Not a pos) (fNotV f1) := let ⟨_, a1, a2⟩ := ha; ⟨_, pe_not a1, snd_notV a2⟩
theorem de_one {op} (ha : DE X a f1) : DE X (.BoolOp op [a] pos) f1 := let ⟨_, a1, a2⟩ := ha; ⟨_, pe_one a1, a2⟩
theorem de_and (ha : DE X a f1) (hb : DE X (.BoolOp .And (b :: rest) pos) f2) : DE X (.BoolOp .And (a :: b :: rest) pos) (fAndV f1 f2) := let ⟨_, a1, a2⟩ := ha; let ⟨_, b1, b2⟩ := hb; ⟨_, pe_and a1 b1, snd_andV a2 b2⟩
theorem de_or (ha : DE X a f1) (hb : DE X (.BoolOp .Or (b :: rest) pos) f2) : DE X (.BoolOp .Or (a :: b :: rest) pos) (fOrV f1 f2) := let ⟨_, a1, a2⟩ := ha; let ⟨_, b1, b2⟩ := hb; ⟨_, pe_or a1 b1, snd_orV a2 b2⟩
theorem de_ifE (hc : DT X c c1) (ha : DE X a f1) (hb : DE X b f2) : DE X (.IfExp c a b pos) (fIfE c1 f1 f2) := let ⟨_, y1, y2⟩ := hc; let ⟨_, a1, a2⟩ := ha; let ⟨_, b1, b2⟩ := hb; ⟨_, pe_ifExp y1 a1 b1, snd_ifE y2 a2 b2⟩
theorem da_nil : DA X [] fNil := ⟨_, pa_nil, snd_nil⟩
theorem da_cons (ha : DE X e f1) (hr : DA X es fl) (hs : starEach (e :: es) X.env = (false, eval e X.env) :: starEach es X.env := by rfl) : DA X (e :: es) (fCons f1 fl) := let ⟨_, a1, a2⟩ := ha; let ⟨_, b1, b2⟩ := hr; ⟨_, pa_cons a1 b1 hs, snd_cons a2 b2⟩
theorem de_tup {x1} (h : DA X es fl) : DE X (.Tuple es x1 pos) (fArgs gTupD fl) := let ⟨_, a1, a2⟩ := h; ⟨_, pe_tup a1, snd_tup a2⟩
theorem de_lst (h : DA X es fl) : DE X (.List es pos) (fArgs gLstD fl) := let ⟨_, a1, a2⟩ := h; ⟨_, pe_lst a1, snd_lst a2⟩
theorem de_ix (ha : DE X a f1) (hb : DE X b f2) (hs : PlainIx b) : DE X (.Subscript a b pos) (fOp ixD f1 f2) := let ⟨_, a1, a2⟩ := ha; let ⟨_, b1, b2⟩ := hb; ⟨_, pe_ix ix_seq a1 b1 hs, snd_op o_ix a2 b2⟩
theorem de_pure (h : DE X e f1) : DE X e (fPure f1) := let ⟨_, a1, a2⟩ := h; ⟨_, a1, snd_pure a2⟩
theorem dt_pure (h : DT X e c1) : DT X e (fPureT c1) := let ⟨_, a1, a2⟩ := h; ⟨_, a1, snd_pureT a2⟩
/-! tests -/
def DW (X : Cx) (e : Expr) (f : FT) : Prop := ∃ t, PW X e t ∧ SndT X t f
theorem dw (h : DW X e c1) : DT X e c1 := let ⟨_, a1, a2⟩ := h; ⟨_, a1.pt, a2⟩
theorem dw_and1 (h : DT X a c1) : DW X (.BoolOp .And [a] pos) c1 := let ⟨_, a1, a2⟩ := h; ⟨_, pw_and1 a1, a2⟩
theorem dw_or1 (h : DT X a c1) : DW X (.BoolOp .Or [a] pos) c1 := let ⟨_, a1, a2⟩ := h; ⟨_, pw_or1 a1, a2⟩
theorem dw_and (ha : DT X a c1) (hb : DW X (.BoolOp .And (b :: rest) pos) c2) : DW X (.BoolOp .And (a :: b :: rest) pos) (fAndT c1 c2) := let ⟨_, a1, a2⟩ := ha; let ⟨_, b1, b2⟩ := hb; ⟨_, pw_and a1 b1, snd_andT a2 b2⟩
theorem dw_or (ha : DT X a c1) (hb : DW X (.BoolOp .Or (b :: rest) pos) c2) : DW X (.BoolOp .Or (a :: b :: rest) pos) (fOrT c1 c2) := let ⟨_, a1, a2⟩ := ha; let ⟨_, b1, b2⟩ := hb; ⟨_, pw_or a1 b1, snd_orT a2 b2⟩
theorem dt_not (h : DT X a c1) : DT X (.UnaryOp .Not a pos) (fNotT c1) := let ⟨_, a1, a2⟩ := h; ⟨_, pt_not a1, snd_notT a2⟩
theorem dt_truth (h : DE X a f1) (he : ∀ whole, isTrue a X.env whole = (do let v ← whole; standAt a.pos; holding [v] (truthy v))) : DT X a (fTr f1) := let ⟨_, a1, a2⟩ := h; ⟨_, pt_truth a1 he, snd_truth a2⟩
/-! built-ins -/
section
variable {x : Str} {p : Pos}
theorem de_blt {id : String} {r : List V → Hp → VK → Prop} {g : List D → Option Sl} (hc : CallR X (.builtin id) r) (hn : SndN X.K r g) (hg : Gl X x) (hm : X.mg x = none) (hv : bootBuiltins x = some (.builtin id)) (ha : DA X (e :: es) fl) (hnm : x ≠ "__name__" := by decide) (hdb : (x == ("__debug__" : Str)) = false := by decide)
    (he : starEach (e :: es) X.env = (false, eval e X.env) :: starEach es X.env := by rfl) (hpl : (backTo pos (starEach es X.env)).any (·.1) = false := by rfl) : DE X (.Call (.Name x p) (e :: es) [] pos) (fArgs g fl) :=
  let ⟨_, a1, a2⟩ := ha; ⟨_, pe_callB hc hg hm hv a1 hnm hdb he hpl, snd_cb hn a2⟩
theorem de_tyc {T : String} {r : List V → Hp → VK → Prop} {g : List D → Option Sl} (hc : CallR X (.type T) r) (hn : SndN X.K r g) (hg : Gl X x) (hm : X.mg x = none) (hv : bootBuiltins x = some (.type T)) (ha : DA X (e :: es) fl) (hnm : x ≠ "__name__" := by decide) (hdb : (x == ("__debug__" : Str)) = false := by decide)
    (he : starEach (e :: es) X.env = (false, eval e X.env) :: starEach es X.env := by rfl) (hpl : (backTo pos (starEach es X.env)).any (·.1) = false := by rfl) : DE X (.Call (.Name x p) (e :: es) [] pos) (fArgs g fl) :=
  let ⟨_, a1, a2⟩ := ha; ⟨_, pe_callTy hc hg hm hv a1 hnm hdb he hpl, snd_cb hn a2⟩
end
end
/-! ### deep data against the library's own -/
mutual
def toPy : D → PyData
  | .non => .none
  | .bl b => .bool b
  | .int i => .int i
  | .str x => .str x
  | .ty _ => .none
  | .dct _ _ => .none
  | .tup ds => .tuple (toPys ds)
  | .lst ds => .list (toPys ds)
def toPys : List D → List PyData
  | [] => []
  | d :: ds => toPy d :: toPys ds
end
mutual
theorem toPy_ok : ∀ d : D, plainD d = true → (toPy d).canLay0 = true
  | .non, _ => by unfold toPy; rfl
  | .bl _, _ => by unfold toPy; rfl
  | .int _, _ => by unfold toPy; rfl
  | .str x, h => by unfold plainD at h; unfold toPy; exact h
  | .ty _, h => by unfold plainD at h; cases h
  | .dct _ _, h => by unfold plainD at h; cases h
  | .tup ds, h => by unfold plainD at h; unfold toPy; exact toPys_ok ds h
  | .lst ds, h => by unfold plainD at h; unfold toPy; exact toPys_ok ds h
theorem toPys_ok : ∀ ds : List D, plainDs ds = true → PyData.canLayAll0 (toPys ds) = true
  | [], _ => by unfold toPys; rfl
  | d :: ds, h => by
    unfold plainDs at h
    rw [Bool.and_eq_true] at h
    unfold toPys PyData.canLayAll0
    rw [toPy_ok d h.1, toPys_ok ds h.2]
    rfl
end
mutual
theorem toPy_depth : ∀ d : D, (toPy d).depth = depD d
  | .non => by unfold toPy PyData.depth depD; rfl
  | .bl _ => by unfold toPy PyData.depth depD; rfl
  | .int _ => by unfold toPy PyData.depth depD; rfl
  | .str x => by unfold toPy PyData.depth depD; rfl
  | .ty _ => by unfold toPy PyData.depth depD; rfl
  | .dct _ _ => by unfold toPy PyData.depth depD; rfl
  | .tup ds => by unfold toPy PyData.depth depD; rw [toPys_depth ds]
  | .lst ds => by unfold toPy PyData.depth depD; rw [toPys_depth ds]
theorem toPys_depth : ∀ ds : List D, PyData.depthAll (toPys ds) = depDs ds
  | [] => by unfold toPys depDs; rfl
  | d :: ds => by
    unfold toPys PyData.depthAll depDs
    rw [toPy_depth d, toPys_depth ds]
end
mutual
theorem toPy_eqv : ∀ a b : D, plainD a = true → plainD b = true → PyData.eqv (toPy a) (toPy b) = eqD a b
  | a, .ty _, _, h => by unfold plainD at h; cases h
  | .ty _, _, h, _ => by unfold plainD at h; cases h
  | a, .dct _ _, _, h => by unfold plainD at h; cases h
  | .dct _ _, _, h, _ => by unfold plainD at h; cases h
  | .tup as, .tup bs, h1, h2 => by unfold plainD at h1 h2; unfold toPy PyData.eqv eqD; exact toPys_eqv as bs h1 h2
  | .lst as, .lst bs, h1, h2 => by unfold plainD at h1 h2; unfold toPy PyData.eqv eqD; exact toPys_eqv as bs h1 h2
  | .non, .non, _, _ => by unfold toPy PyData.eqv eqD; rfl
  | .non, .bl _, _, _ => by unfold toPy PyData.eqv eqD; rfl
  | .non, .int _, _, _ => by unfold toPy PyData.eqv eqD; rfl
  | .non, .str _, _, _ => by unfold toPy PyData.eqv eqD; rfl
  | .non, .tup _, _, _ => by unfold toPy PyData.eqv eqD; rfl
  | .non, .lst _, _, _ => by unfold toPy PyData.eqv eqD; rfl
  | .bl _, .non, _, _ => by unfold toPy PyData.eqv eqD; rfl
  | .bl _, .bl _, _, _ => by unfold toPy PyData.eqv eqD; rfl
  | .bl _, .int _, _, _ => by unfold toPy PyData.eqv eqD; rfl
  | .bl _, .str _, _, _ => by unfold toPy PyData.eqv eqD; rfl
  | .bl _, .tup _, _, _ => by unfold toPy PyData.eqv eqD; rfl
  | .bl _, .lst _, _, _ => by unfold toPy PyData.eqv eqD; rfl
  | .int _, .non, _, _ => by unfold toPy PyData.eqv eqD; rfl
  | .int _, .bl _, _, _ => by unfold toPy PyData.eqv eqD; rfl
  | .int _, .int _, _, _ => by unfold toPy PyData.eqv eqD; rfl
  | .int _, .str _, _, _ => by unfold toPy PyData.eqv eqD; rfl
  | .int _, .tup _, _, _ => by unfold toPy PyData.eqv eqD; rfl
  | .int _, .lst _, _, _ => by unfold toPy PyData.eqv eqD; rfl
  | .str _, .non, _, _ => by unfold toPy PyData.eqv eqD; rfl
  | .str _, .bl _, _, _ => by unfold toPy PyData.eqv eqD; rfl
  | .str _, .int _, _, _ => by unfold toPy PyData.eqv eqD; rfl
  | .str _, .str _, _, _ => by unfold toPy PyData.eqv eqD; rfl
  | .str _, .tup _, _, _ => by unfold toPy PyData.eqv eqD; rfl
  | .str _, .lst _, _, _ => by unfold toPy PyData.eqv eqD; rfl
  | .tup _, .non, _, _ => by unfold toPy PyData.eqv eqD; rfl
  | .tup _, .bl _, _, _ => by unfold toPy PyData.eqv eqD; rfl
  | .tup _, .int _, _, _ => by unfold toPy PyData.eqv eqD; rfl
  | .tup _, .str _, _, _ => by unfold toPy PyData.eqv eqD; rfl
  | .tup _, .lst _, _, _ => by unfold toPy PyData.eqv eqD; rfl
  | .lst _, .non, _, _ => by unfold toPy PyData.eqv eqD; rfl
  | .lst _, .bl _, _, _ => by unfold toPy PyData.eqv eqD; rfl
  | .lst _, .int _, _, _ => by unfold toPy PyData.eqv eqD; rfl
  | .lst _, .str _, _, _ => by unfold toPy PyData.eqv eqD; rfl
  | .lst _, .tup _, _, _ => by unfold toPy PyData.eqv eqD; rfl
theorem toPys_eqv : ∀ as bs : List D, plainDs as = true → plainDs bs = true → PyData.eqvAll (toPys as) (toPys bs) = eqDs as bs
  | [], [], _, _ => by unfold toPys eqDs; rfl
  | a :: as, b :: bs, h1, h2 => by
    unfold plainDs at h1 h2
    rw [Bool.and_eq_true] at h1 h2
    unfold toPys PyData.eqvAll eqDs
    rw [toPy_eqv a b h1.1 h2.1, toPys_eqv as bs h1.2 h2.2]
  | [], _ :: _, _, _ => by unfold toPys eqDs; rfl
  | _ :: _, [], _, _ => by unfold toPys eqDs; rfl
end
section
variable {X : Cx} {pins : List (Addr × Obj)} {σ : St} {H G : Hp} {s : Shared}
mutual
theorem reads_of (I : Inv X pins σ H s) (hs : Same G H) : ∀ {x : V} {d : D} {u : Value}, Rep X.K G x d → plainD d = true → RelV x u → ∃ as, Reads s.heap u (toPy d) as
  | _, _, _, .non, _, r => by cases r; unfold toPy; exact ⟨_, .none⟩
  | _, _, _, .bl b, _, r => by cases r; unfold toPy; exact ⟨_, .bool b⟩
  | _, _, _, .int i, _, r => by obtain ⟨t, rfl⟩ := r; unfold toPy; exact ⟨_, .int i t⟩
  | _, _, _, .str x, _, r => by obtain ⟨t, rfl⟩ := r; unfold toPy; exact ⟨_, .str x t⟩
  | _, _, _, .ty _, h, _ => by unfold plainD at h; cases h
  | _, _, _, .dct _ _, h, _ => by unfold plainD at h; cases h
  | _, _, _, .tup q l, h, r => by
    cases r
    unfold plainD at h
    obtain ⟨its, r', ⟨o, ho, hc, n, hd⟩, _⟩ := I.tuple (same_sqT hs q)
    obtain ⟨as, ra⟩ := readsAll_of I hs l h r'
    unfold toPy
    exact ⟨as, .tuple ho hc hd (by simpa using ra)⟩
  | _, _, _, .lst q l, h, r => by
    cases r
    unfold plainD at h
    obtain ⟨_, its, n, r', _, e⟩ := Inv.lstR I (same_ls hs q)
    obtain ⟨as, ra⟩ := readsAll_of I hs l h r'
    unfold toPy
    exact ⟨_, .list e rfl rfl (by simpa using ra)⟩
theorem readsAll_of (I : Inv X pins σ H s) (hs : Same G H) : ∀ {xs : List V} {ds : List D} {us : List Value}, RepL X.K G xs ds → plainDs ds = true → Vals xs us → ∃ as, ReadsAll s.heap us (toPys ds) as
  | _, _, _, .nil, _, .nil => by unfold toPys; exact ⟨_, .nil⟩
  | _, _, _, .cons q l, h, .cons r rs => by
    unfold plainDs at h
    rw [Bool.and_eq_true] at h
    obtain ⟨as, ra⟩ := reads_of I hs q h.1 r
    obtain ⟨bs, rb⟩ := readsAll_of I hs l h.2 rs
    unfold toPys
    exact ⟨_, .cons ra rb⟩
end
end
section
variable {X : Cx}
/-- == and != of data -/
def rEqD (K : PySem.W.Frag) (neg : Bool) : R2 := fun x y H Q => ∃ G a b, Same G H ∧ Rep K G x a ∧ Rep K G y b ∧ depD a ≤ 100 ∧ plainD a = true ∧ plainD b = true ∧ Q (.bl (if neg then !eqD a b else eqD a b)) H
theorem op_eqD (hu : X.A.units + 150 < cLine) : OpR X (compareOp .Eq) (rEqD X.K false) := by
  intro pins s σ H x y v u Q I rx ry h
  obtain ⟨G, a, b, hs, ra, rb, hd, pa, pb, q⟩ := h
  obtain ⟨as, r1⟩ := reads_of I hs ra pa rx
  obtain ⟨bs, r2⟩ := reads_of I hs rb pb ry
  refine SeqAt.compareEq_reads r1 r2 (toPy_ok a pa) (toPy_ok b pb) ?_ ⟨.bl _, H, I, rfl, ?_⟩
  · rw [toPy_depth]
    have := Nat.min_le_left (depD a) (toPy b).depth
    omega
  · rw [toPy_eqv a b pa pb]; exact q
theorem op_neD (hu : X.A.units + 150 < cLine) : OpR X (compareOp .NotEq) (rEqD X.K true) := by
  intro pins s σ H x y v u Q I rx ry h
  obtain ⟨G, a, b, hs, ra, rb, hd, pa, pb, q⟩ := h
  obtain ⟨as, r1⟩ := reads_of I hs ra pa rx
  obtain ⟨bs, r2⟩ := reads_of I hs rb pb ry
  refine SeqAt.compareNe_reads r1 r2 (toPy_ok a pa) (toPy_ok b pb) ?_ ⟨.bl _, H, I, rfl, ?_⟩
  · rw [toPy_depth]
    have := Nat.min_le_left (depD a) (toPy b).depth
    omega
  · rw [toPy_eqv a b pa pb]; exact q
theorem o_eqD {K : PySem.W.Frag} (neg : Bool) : SndO K (rEqD K neg) (eqOp neg) := by
  intro M G0 H0 G H σ δ x y d1 d2 s Q S r1 r2 e k
  unfold eqOp at e
  split at e
  · rename_i h
    cases e
    rw [Bool.and_eq_true, Bool.and_eq_true] at h
    exact ⟨G, d1, d2, S.gh, r1, r2, of_decide_eq_true h.1.1, h.1.2, h.2, k _ G H S (Gr.refl ..) (.val (.bl _))⟩
  · cases e
theorem q_eq (hu : X.A.units + 150 < cLine) : QR X .Eq (eqOp false) := ⟨_, op_eqD hu, o_eqD false⟩
theorem q_ne (hu : X.A.units + 150 < cLine) : QR X .NotEq (eqOp true) := ⟨_, op_neD hu, o_eqD true⟩
theorem hu_of2 {A : Around} {k : Nat} (hr : Room k A) : A.units + 150 < cLine := by have := hr.un; omega
/-- in and not in -/
def rInD (K : PySem.W.Frag) (neg : Bool) : R2 := fun x y H Q => ∃ G a ds, Same G H ∧ Rep K G x a ∧ (Rep K G y (.lst ds) ∨ Rep K G y (.tup ds)) ∧ depD a ≤ 100 ∧ plainD a = true ∧ plainDs ds = true ∧ Q (.bl (if neg then !ds.any (fun z => eqD z a) else ds.any (fun z => eqD z a))) H
theorem any_eqv {a : D} (pa : plainD a = true) : ∀ ds : List D, plainDs ds = true → ((toPys ds).any fun y => PyData.eqv y (toPy a)) = ds.any fun z => eqD z a
  | [], _ => by unfold toPys; rfl
  | d :: ds, h => by
    unfold plainDs at h
    rw [Bool.and_eq_true] at h
    unfold toPys
    rw [List.any_cons, List.any_cons, toPy_eqv d a h.1 pa, any_eqv pa ds h.2]
theorem op_inD (hu : X.A.units + 150 < cLine) : OpR X (compareOp .In) (rInD X.K false) := by
  intro pins s σ H x y v u Q I rx ry h
  obtain ⟨G, a, ds, hs, ra, rb, hd, pa, pb, q⟩ := h
  obtain ⟨as, r1⟩ := reads_of I hs ra pa rx
  have hu' : X.A.units + 1 + min (PyData.depthAll (toPys ds)) (toPy a).depth < cLine := by
    rw [toPy_depth]
    have := Nat.min_le_right (PyData.depthAll (toPys ds)) (depD a)
    omega
  rcases rb with rb | rb
  · obtain ⟨bs, r2⟩ := reads_of (d := .lst ds) I hs rb (by unfold plainD; exact pb) ry
    unfold toPy at r2
    exact SeqAt.in_list_reads r2 r1 (toPys_ok ds pb) (toPy_ok a pa) hu' ⟨.bl _, H, I, rfl, by rw [any_eqv pa ds pb]; exact q⟩
  · obtain ⟨bs, r2⟩ := reads_of (d := .tup ds) I hs rb (by unfold plainD; exact pb) ry
    unfold toPy at r2
    exact SeqAt.in_tuple_reads r2 r1 (toPys_ok ds pb) (toPy_ok a pa) hu' ⟨.bl _, H, I, rfl, by rw [any_eqv pa ds pb]; exact q⟩
theorem op_notInD (hu : X.A.units + 150 < cLine) : OpR X (compareOp .NotIn) (rInD X.K true) := by
  intro pins s σ H x y v u Q I rx ry h
  obtain ⟨G, a, ds, hs, ra, rb, hd, pa, pb, q⟩ := h
  obtain ⟨as, r1⟩ := reads_of I hs ra pa rx
  have hu' : X.A.units + 1 + min (PyData.depthAll (toPys ds)) (toPy a).depth < cLine := by
    rw [toPy_depth]
    have := Nat.min_le_right (PyData.depthAll (toPys ds)) (depD a)
    omega
  rcases rb with rb | rb
  · obtain ⟨bs, r2⟩ := reads_of (d := .lst ds) I hs rb (by unfold plainD; exact pb) ry
    unfold toPy at r2
    exact SeqAt.notIn_list_reads r2 r1 (toPys_ok ds pb) (toPy_ok a pa) hu' ⟨.bl _, H, I, rfl, by rw [any_eqv pa ds pb]; exact q⟩
  · obtain ⟨bs, r2⟩ := reads_of (d := .tup ds) I hs rb (by unfold plainD; exact pb) ry
    unfold toPy at r2
    exact SeqAt.notIn_tuple_reads r2 r1 (toPys_ok ds pb) (toPy_ok a pa) hu' ⟨.bl _, H, I, rfl, by rw [any_eqv pa ds pb]; exact q⟩
theorem o_inD {K : PySem.W.Frag} (neg : Bool) : SndO K (fun x y H Q => rInD K neg x y H Q ∨ ∃ i j, x = .str i ∧ y = .str j ∧ Q (.bl (if neg then !(!(Builtin.Str.occurrences j i 0 j.length 1).isEmpty) else !(Builtin.Str.occurrences j i 0 j.length 1).isEmpty)) H) (inOp neg) := by
  intro M G0 H0 G H σ δ x y d1 d2 s Q S r1 r2 e k
  unfold inOp at e
  split at e
  · split at e
    · rename_i h
      cases e
      rw [Bool.and_eq_true, Bool.and_eq_true] at h
      exact .inl ⟨G, d1, _, S.gh, r1, .inl r2, of_decide_eq_true h.1.1, h.1.2, h.2, k _ G H S (Gr.refl ..) (.val (.bl _))⟩
    · cases e
  · split at e
    · rename_i h
      cases e
      rw [Bool.and_eq_true, Bool.and_eq_true] at h
      exact .inl ⟨G, d1, _, S.gh, r1, .inr r2, of_decide_eq_true h.1.1, h.1.2, h.2, k _ G H S (Gr.refl ..) (.val (.bl _))⟩
    · cases e
  · split at e
    · cases e
      cases rep_str r1
      cases rep_str r2
      exact .inr ⟨_, _, rfl, rfl, k _ G H S (Gr.refl ..) (.val (.bl _))⟩
    · cases e
  · cases e
theorem q_in (hu : X.A.units + 150 < cLine) : QR X .In (inOp false) := ⟨_, (op_inD hu).or op_in_str, o_inD false⟩
theorem q_notin (hu : X.A.units + 150 < cLine) : QR X .NotIn (inOp true) := ⟨_, (op_notInD hu).or op_notin_str, o_inD true⟩
end
end L4

namespace L4
open PySem PySem.Spec PyProof.Rows L2
theorem bo_len : bootBuiltins "len" = some (.builtin "len") := by decide +kernel
theorem bo_isinstance : bootBuiltins "isinstance" = some (.builtin "isinstance") := by decide +kernel
theorem bo_max : bootBuiltins "max" = some (.builtin "max") := by decide +kernel
theorem bo_min : bootBuiltins "min" = some (.builtin "min") := by decide +kernel
theorem bo_int : bootBuiltins "int" = some (.type "int") := by decide +kernel
theorem bo_str : bootBuiltins "str" = some (.type "str") := by decide +kernel
theorem bo_list : bootBuiltins "list" = some (.type "list") := by decide +kernel
theorem bo_bool : bootBuiltins "bool" = some (.type "bool") := by decide +kernel
theorem bo_tuple : bootBuiltins "tuple" = some (.type "tuple") := by decide +kernel
section
variable {X : Cx} {a b c e : Expr} {es : List Expr} {f1 f2 f3 : FE} {fl : FL} {pos p : Pos} {c1 c2 : FT} {x : Str}
/-! ### isinstance against a built-in type -/
def rIsi (K : PySem.W.Frag) : List V → Hp → VK → Prop := fun xs H Q => ∃ G d T v k, xs = [v, .ty T] ∧ Same G H ∧ Rep K G v d ∧ isiT d T = some k ∧ Q (.bl k) H
theorem call_isi : CallR X (.builtin "isinstance") (rIsi X.K) := by
  intro pins s σ H xs us Q I r h
  obtain ⟨G, d, T, v, k, rfl, hs, rd, hk, q⟩ := h
  obtain ⟨u, w', rfl, ru, rw'⟩ := vals2 r
  cases rw'
  have hq : ∀ b, b = k → EP X pins σ Q (.bool b) s := fun b e => ⟨.bl k, H, I, by rw [e]; rfl, q⟩
  have hq' : ∀ b, b = k → EP X pins σ Q (.bool b) { s with toks := s.toks + 1 } := fun b e => ⟨.bl k, H, I.tok _, by rw [e]; rfl, q⟩
  cases d with
  | non => cases hk
  | ty n => cases hk
  | dct _ _ => cases hk
  | int i =>
    cases rep_int rd
    obtain ⟨t, rfl⟩ := ru
    simp only [isiT] at hk
    split at hk
    · rename_i e; subst e; cases hk; exact IsiPair.int_int (hq _ rfl)
    · split at hk
      · rename_i e; cases hk
        rcases e with rfl | rfl | rfl | rfl
        · exact IsiPair.int_bool (hq' _ rfl)
        · exact IsiPair.int_str (hq' _ rfl)
        · exact IsiPair.int_list (hq' _ rfl)
        · exact IsiPair.int_tuple (hq' _ rfl)
      · cases hk
  | bl i =>
    cases rep_bl rd
    cases ru
    simp only [isiT] at hk
    split at hk
    · rename_i e; cases hk
      rcases e with rfl | rfl
      · exact IsiPair.bool_int (hq _ rfl)
      · exact IsiPair.bool_bool (hq _ rfl)
    · split at hk
      · rename_i e; cases hk
        rcases e with rfl | rfl | rfl
        · exact IsiPair.bool_str (hq' _ rfl)
        · exact IsiPair.bool_list (hq' _ rfl)
        · exact IsiPair.bool_tuple (hq' _ rfl)
      · cases hk
  | str i =>
    cases rep_str rd
    obtain ⟨t, rfl⟩ := ru
    simp only [isiT] at hk
    split at hk
    · rename_i e; subst e; cases hk; exact IsiPair.str_str (hq _ rfl)
    · split at hk
      · rename_i e; cases hk
        rcases e with rfl | rfl | rfl | rfl
        · exact IsiPair.str_int (hq' _ rfl)
        · exact IsiPair.str_bool (hq' _ rfl)
        · exact IsiPair.str_list (hq' _ rfl)
        · exact IsiPair.str_tuple (hq' _ rfl)
      · cases hk
  | tup ds =>
    obtain ⟨l, vs, rfl, hq0, _⟩ := rep_tup rd
    cases ru
    obtain ⟨its, _, ⟨o, ho, hc, n, hd⟩, _⟩ := I.tuple (same_sqT hs hq0)
    simp only [isiT] at hk
    split at hk
    · rename_i e; subst e; cases hk; exact IsiPair.tuple_tuple ho hc (hq _ rfl)
    · split at hk
      · rename_i e; cases hk
        rcases e with rfl | rfl | rfl | rfl
        · exact IsiPair.tuple_int ho hc (hq' _ rfl)
        · exact IsiPair.tuple_bool ho hc (hq' _ rfl)
        · exact IsiPair.tuple_str ho hc (hq' _ rfl)
        · exact IsiPair.tuple_list ho hc (hq' _ rfl)
      · cases hk
  | lst ds =>
    obtain ⟨l, vs, rfl, hq0, _⟩ := rep_lst rd
    cases ru
    obtain ⟨_, its, n, _, _, ho⟩ := Inv.lstR I (same_ls hs hq0)
    simp only [isiT] at hk
    split at hk
    · rename_i e; subst e; cases hk; exact IsiPair.list_list ho rfl (hq _ rfl)
    · split at hk
      · rename_i e; cases hk
        rcases e with rfl | rfl | rfl | rfl
        · exact IsiPair.list_int ho rfl (hq' _ rfl)
        · exact IsiPair.list_bool ho rfl (hq' _ rfl)
        · exact IsiPair.list_str ho rfl (hq' _ rfl)
        · exact IsiPair.list_tuple ho rfl (hq' _ rfl)
      · cases hk
theorem c_isi {K : PySem.W.Frag} : SndN K (rIsi K) (g2 isiD) := by
  intro M G0 H0 G H σ δ xs ds s Q S r e k
  unfold g2 at e
  split at e
  · obtain ⟨v, y, rfl, r1, r2⟩ := repL2 r
    unfold isiD at e
    split at e
    · rename_i T
      obtain ⟨b, e1, e2⟩ := Option.map_eq_some_iff.mp e
      subst e2
      have ey : y = .ty T := by cases r2; rfl
      subst ey
      exact ⟨G, _, T, v, b, rfl, S.gh, r1, e1, k _ G H S (Gr.refl ..) (.val (.bl _))⟩
    · cases e
  · cases e
section
variable (he : starEach (e :: es) X.env = (false, eval e X.env) :: starEach es X.env := by rfl) (hpl : (backTo pos (starEach es X.env)).any (·.1) = false := by rfl)
include he hpl
end
theorem de_len (hg : Gl X "len") (hm : X.mg "len" = none) (ha : DA X (e :: es) fl) (he : starEach (e :: es) X.env = (false, eval e X.env) :: starEach es X.env := by rfl) (hpl : (backTo pos (starEach es X.env)).any (·.1) = false := by rfl) :
    DE X (.Call (.Name "len" p) (e :: es) [] pos) (fArgs (g1 lenD) fl) := de_blt call_len c_len hg hm bo_len ha (by decide) (by decide) he hpl
theorem de_isi (hg : Gl X "isinstance") (hm : X.mg "isinstance" = none) (ha : DA X (e :: es) fl) (he : starEach (e :: es) X.env = (false, eval e X.env) :: starEach es X.env := by rfl) (hpl : (backTo pos (starEach es X.env)).any (·.1) = false := by rfl) :
    DE X (.Call (.Name "isinstance" p) (e :: es) [] pos) (fArgs (g2 isiD) fl) := de_blt call_isi c_isi hg hm bo_isinstance ha (by decide) (by decide) he hpl
theorem de_max (hc : X.calm = true) (hg : Gl X "max") (hm : X.mg "max" = none) (ha : DA X (e :: es) fl) (he : starEach (e :: es) X.env = (false, eval e X.env) :: starEach es X.env := by rfl) (hpl : (backTo pos (starEach es X.env)).any (·.1) = false := by rfl) :
    DE X (.Call (.Name "max" p) (e :: es) [] pos) (fArgs (g2 maxD) fl) := de_blt (call_max2 hc) (c_ii fun _ _ _ => .int _) hg hm bo_max ha (by decide) (by decide) he hpl
theorem de_min (hc : X.calm = true) (hg : Gl X "min") (hm : X.mg "min" = none) (ha : DA X (e :: es) fl) (he : starEach (e :: es) X.env = (false, eval e X.env) :: starEach es X.env := by rfl) (hpl : (backTo pos (starEach es X.env)).any (·.1) = false := by rfl) :
    DE X (.Call (.Name "min" p) (e :: es) [] pos) (fArgs (g2 minD) fl) := de_blt (call_min2 hc) (c_ii fun _ _ _ => .int _) hg hm bo_min ha (by decide) (by decide) he hpl
theorem de_int_ (hg : Gl X "int") (hm : X.mg "int" = none) (ha : DA X (e :: es) fl) (he : starEach (e :: es) X.env = (false, eval e X.env) :: starEach es X.env := by rfl) (hpl : (backTo pos (starEach es X.env)).any (·.1) = false := by rfl) :
    DE X (.Call (.Name "int" p) (e :: es) [] pos) (fArgs (g1 intD) fl) := de_tyc call_int1 c_int hg hm bo_int ha (by decide) (by decide) he hpl
theorem de_str_ (hg : Gl X "str") (hm : X.mg "str" = none) (ha : DA X (e :: es) fl) (he : starEach (e :: es) X.env = (false, eval e X.env) :: starEach es X.env := by rfl) (hpl : (backTo pos (starEach es X.env)).any (·.1) = false := by rfl) :
    DE X (.Call (.Name "str" p) (e :: es) [] pos) (fArgs (g1 strD) fl) := de_tyc call_str_int c_str hg hm bo_str ha (by decide) (by decide) he hpl
theorem de_list_ (hg : Gl X "list") (hm : X.mg "list" = none) (ha : DA X (e :: es) fl) (he : starEach (e :: es) X.env = (false, eval e X.env) :: starEach es X.env := by rfl) (hpl : (backTo pos (starEach es X.env)).any (·.1) = false := by rfl) :
    DE X (.Call (.Name "list" p) (e :: es) [] pos) (fArgs (g1 listD) fl) := de_tyc call_list_of c_list hg hm bo_list ha (by decide) (by decide) he hpl
/-- a built-in type as a value -/
theorem de_ty {T : String} (hg : Gl X x) (hm : X.mg x = none) (hv : bootBuiltins x = some (.type T)) (hn : x ≠ "__name__" := by decide) (hd : (x == ("__debug__" : Str)) = false := by decide) : DE X (.Name x pos) (fC (.ty T)) :=
  ⟨_, pe_bltn hg hm hv (v := .ty T) rfl hn hd, snd_C fun _ => .ty T⟩
/-! ### slices -/
def slD (d : D) (lo hi : Option Int) : Option Sl := slLD d lo hi
def DP (X : Cx) (e : Option Expr) (f : FO) : Prop := ∃ t, PO X e t ∧ SndP X t f
theorem dp_none : DP X none fNoP := ⟨_, po_none, snd_noP⟩
theorem dp_some (h : DE X e f1) : DP X (some e) (fPart f1) := let ⟨_, a1, a2⟩ := h; ⟨_, po_some a1, snd_part a2⟩
theorem de_sl {lo hi : Option Expr} {fl fh : FO} {p2 : Pos} (ha : DE X e f1) (hl : DP X lo fl) (hh : DP X hi fh) : DE X (.Subscript e (.Slice lo hi none p2) pos) (fSl slD f1 fl fh) :=
  let ⟨_, a1, a2⟩ := ha; let ⟨_, b1, b2⟩ := hl; let ⟨_, y1, y2⟩ := hh; ⟨_, pe_slice sl_list a1 b1 y1, snd_sl s_lst a2 b2 y2⟩
end
/-! ### statements -/
section
variable {X : Cx} {e o : Expr} {es : List Expr} {fe : FE} {fl : FL} {pos p : Pos} {ft : FT} {st : Stmt} {rest : List Stmt} {F1 F2 : FS}
theorem db_nil : DB X [] fNext := ⟨_, pss_nil, snd_next⟩
theorem db_cons (h1 : DS X st F1) (h2 : DB X rest F2) : DB X (st :: rest) (fSeq F1 F2) := let ⟨_, a1, a2⟩ := h1; let ⟨_, b1, b2⟩ := h2; ⟨_, pss_cons a1 b1, snd_seq a2 b2⟩
theorem db_one (h1 : DS X st F1) : DB X [st] F1 := let ⟨_, a1, a2⟩ := h1; ⟨_, pss_one a1, a2⟩
theorem ds_pass : DS X (.Pass pos) fNext := ⟨_, ps_pass, snd_next⟩
theorem ds_ret (h : DE X e fe) : DS X (.Return (some e) pos) (fRet fe) := let ⟨_, a1, a2⟩ := h; ⟨_, ps_ret a1, snd_ret a2⟩
theorem ds_retN : DS X (.Return none pos) fRetN := ⟨_, ps_retN, snd_retN⟩
theorem ds_retV (i : Nat) {x : Str} (hN : X.N[i]? = some x := by rfl) (hv : Vis X.env.scope x := by first | exact Or.inl rfl | exact Or.inr (Or.inl rfl) | exact Or.inr (Or.inr rfl)) (hd : (x == ("__debug__" : Str)) = false := by decide) (hcd : (x == ("__classdict__" : Str)) = false := by decide) :
    DS X (.Return (some (.Name x p)) pos) (fRetV i) := ⟨_, ps_ret (pv i hN hv hd hcd), snd_retV i⟩
theorem ds_if {c : Expr} {a b : List Stmt} (hc : DT X c ft) (h1 : DB X a F1) (h2 : DB X b F2) : DS X (.If c a b pos) (fIf ft F1 F2) := let ⟨_, y1, y2⟩ := hc; let ⟨_, a1, a2⟩ := h1; let ⟨_, b1, b2⟩ := h2; ⟨_, ps_if y1 a1 b1, snd_if y2 a2 b2⟩
theorem ds_expr (h : DE X e fe) (hs : swapsWith e none pos.line X.env = pure false := by rfl) : DS X (.Expr e pos) (fDrop fe) := let ⟨_, a1, a2⟩ := h; ⟨_, ps_expr a1 hs, snd_drop a2⟩
theorem ds_set {i : Nat} {x : Str} {pos' : Pos} (hN : X.N.Nodup) (hi : X.N[i]? = some x) (hx : Loc X.env.scope x) (h : DE X e fe) (hs : swapsWith e (some (.Name x pos')) pos.line X.env = pure false := by rfl) (hf : X.fn x = true ∨ X.env.scope.names.lookup x = some .local := by first | exact .inl rfl | exact .inr rfl | assumption) :
    DS X (.Assign [.Name x pos'] e pos) (fAsg i fe) := let ⟨_, a1, a2⟩ := h; ⟨_, ps_set hN hi hx a1 hs hf, snd_asg a2⟩
theorem de_append (i : Nat) {x : Str} {apos cpos np : Pos} (h : DA X (e :: es) fl) (hN : X.N[i]? = some x := by rfl) (hv : Vis X.env.scope x := by first | exact Or.inl rfl | exact Or.inr (Or.inl rfl) | exact Or.inr (Or.inr rfl)) (hd : (x == ("__debug__" : Str)) = false := by decide) (hcd : (x == ("__classdict__" : Str)) = false := by decide)
    (hbase : attributeBase (.Name x np) "append" X.env (eval (.Name x np) X.env) = eval (.Name x np) X.env := by rfl)
    (hfew : ((backTo cpos (starEach (e :: es) X.env)).all (fun x => !x.1) && (backToKw cpos (keywordEach [] X.env)).all (fun x => x.1.isSome)
      && decide ((e :: es).length + ([] : List Keyword).length + (if ([] : List Keyword).isEmpty then 0 else 1) < 30)) = true := by rfl)
    (hline : (apos.endLine == cpos.line) = true := by rfl) (hs : starEach (e :: es) X.env = (false, eval e X.env) :: starEach es X.env := by rfl) (hplain : (backTo cpos (starEach es X.env)).any (·.1) = false := by rfl) :
    DE X (.Call (.Attribute (.Name x np) "append" apos) (e :: es) [] cpos) (fMut i gAppend fl) :=
  let ⟨_, a1, a2⟩ := h; ⟨_, pe_bm PySem.F.plainAttrs_list PySem.F.slot_list_append PySem.F.type_list_append mt_append (pv i hN hv hd hcd) a1 hbase hfew hline hs hplain, snd_mut m_append a2⟩
theorem de_extend (i : Nat) {x : Str} {apos cpos np : Pos} (h : DA X (e :: es) fl) (hN : X.N[i]? = some x := by rfl) (hv : Vis X.env.scope x := by first | exact Or.inl rfl | exact Or.inr (Or.inl rfl) | exact Or.inr (Or.inr rfl)) (hd : (x == ("__debug__" : Str)) = false := by decide) (hcd : (x == ("__classdict__" : Str)) = false := by decide)
    (hbase : attributeBase (.Name x np) "extend" X.env (eval (.Name x np) X.env) = eval (.Name x np) X.env := by rfl)
    (hfew : ((backTo cpos (starEach (e :: es) X.env)).all (fun x => !x.1) && (backToKw cpos (keywordEach [] X.env)).all (fun x => x.1.isSome)
      && decide ((e :: es).length + ([] : List Keyword).length + (if ([] : List Keyword).isEmpty then 0 else 1) < 30)) = true := by rfl)
    (hline : (apos.endLine == cpos.line) = true := by rfl) (hs : starEach (e :: es) X.env = (false, eval e X.env) :: starEach es X.env := by rfl) (hplain : (backTo cpos (starEach es X.env)).any (·.1) = false := by rfl) :
    DE X (.Call (.Attribute (.Name x np) "extend" apos) (e :: es) [] cpos) (fMut i gExtend fl) :=
  let ⟨_, a1, a2⟩ := h; ⟨_, pe_bm PySem.F.plainAttrs_list PySem.F.slot_list_extend PySem.F.type_list_extend mt_extendS (pv i hN hv hd hcd) a1 hbase hfew hline hs hplain, snd_mut m_extend a2⟩
theorem de_pop0 (i : Nat) {x : Str} {apos cpos np : Pos} (hN : X.N[i]? = some x := by rfl) (hv : Vis X.env.scope x := by first | exact Or.inl rfl | exact Or.inr (Or.inl rfl) | exact Or.inr (Or.inr rfl)) (hd : (x == ("__debug__" : Str)) = false := by decide) (hcd : (x == ("__classdict__" : Str)) = false := by decide)
    (hbase : attributeBase (.Name x np) "pop" X.env (eval (.Name x np) X.env) = eval (.Name x np) X.env := by rfl) (hline : (apos.endLine == cpos.line) = true := by rfl) :
    DE X (.Call (.Attribute (.Name x np) "pop" apos) [] [] cpos) (fMut0 i gPop) :=
  ⟨_, pe_bm0 PySem.F.plainAttrs_list PySem.F.slot_list_pop PySem.F.type_list_pop mt_pop (pv i hN hv hd hcd) hbase hline, snd_mut0 m_pop⟩
theorem ds_brk : DS X (.Break pos) fBrk := ⟨_, ps_break, snd_brk⟩
theorem ds_cont : DS X (.Continue pos) fCont := ⟨_, ps_continue, snd_cont⟩
theorem ds_while (n : Nat) {c : Expr} {body : List Stmt} (hc : DT X c ft) (hb : DB X body F1) (hp : PassesOwn (model X.prog X.w) X.A X.env X.xe := by exact PassesOwn.never) : DS X (.While c body [] pos) (whileD ft F1 n) :=
  let ⟨_, a1, a2⟩ := hc; let ⟨_, b1, b2⟩ := hb; ⟨_, ps_while hp a1 b1, snd_while n a2 b2⟩
end
end L4

namespace L4
open PySem PySem.Spec PyProof.Rows L2
/-! ### calls of the text's own defs -/
/-- a call's arguments as they lie: those at ms are lent -/
structure ArgOk (K : PySem.W.Frag) (G H : Hp) (ms : List Nat) (vs : List V) (ds : List D) : Prop where
  len : vs.length = ds.length
  val : ∀ i d, i ∉ ms → ds[i]? = some d → ∃ v, vs[i]? = some v ∧ Rep K G v d
  lent : ∀ i, i ∈ ms → ∃ p d, vs[i]? = some (.ref p) ∧ ds[i]? = some d ∧ G p = none ∧ OwnAt K G H p d
  sep : ∀ i j p, i ∈ ms → j ∈ ms → vs[i]? = some (.ref p) → vs[j]? = some (.ref p) → i = j
def Lent (vs : List V) (ms : List Nat) (p : Addr) : Prop := ∃ i, i ∈ ms ∧ vs[i]? = some (V.ref p)
structure GrM (L : Addr → Prop) (G H G' H' : Hp) : Prop where
  gh : Same G' H'
  hs : ∀ b o, H b = some o → ¬ L b → H' b = some o
  hd : ∀ b, H b ≠ none → H' b ≠ none
  gg : Same G G'
  fr : ∀ b, H b ≠ none → G b = none → ¬ L b → G' b = none
structure OutsOk (K : PySem.W.Frag) (G H : Hp) (vs : List V) (ms : List Nat) (outs : List D) : Prop where
  len : outs.length = ms.length
  at' : ∀ (k i : Nat) (d : D), ms[k]? = some i → outs[k]? = some d → ∃ p, vs[i]? = some (.ref p) ∧ G p = none ∧ OwnAt K G H p d
/-- the promise of a def that is a function of data -/
def spM (K : PySem.W.Frag) (ms : List Nat) (F : Fn) : Sp := fun vs H Q _ => ∃ (G : Hp) (ds : List D) (s : Sl) (outs : List D), Same G H ∧ ArgOk K G H ms vs ds ∧ F ds = some (.ok s, outs) ∧
  ∀ v G' H', GrM (Lent vs ms) G H G' H' → OutsOk K G' H' vs ms outs → RepR K H G' H' v s → Q v H'
/-- all arguments are data -/
def fCall (F : Fn) (r : FL) : FE := fun δ => (r δ).bind fun ds δ => match F ds with | some (.ok s, []) => some (.ok s, δ) | _ => none
theorem StOk.gr0 {K : PySem.W.Frag} {M : Nat → Option Addr} {L : Addr → Prop} {G0 H0 G H G' H' : Hp} {σ : L2.St} {δ : DEnv} (S : StOk K M G0 H0 G H σ δ) (g : GrM L G H G' H') (nl : ∀ p, ¬ L p) : StOk K M G0 H0 G' H' σ δ ∧ Gr G H σ δ G' H' δ := by
  have hh : Same H H' := fun b o e => g.hs b o e (nl b)
  refine ⟨⟨g.gh, ⟨S.env.len, fun i s e => ?_, S.env.sep⟩, S.h0.trans hh, S.g0.trans g.gg, fun b h n => ?_, S.own0, S.mt⟩, Gr.of hh g.gg (fun b h n _ => g.fr b h n (nl b)) fun _ z => z⟩
  · obtain ⟨v, e1, r⟩ := S.env.at' i s e
    refine ⟨v, e1, ?_⟩
    have key : ∀ d, (∃ q, v = .ref q ∧ G q = none ∧ OwnAt K G H q d) → ∃ q, v = .ref q ∧ G' q = none ∧ OwnAt K G' H' q d := fun d ⟨q, e2, e4, rr⟩ => by
      obtain ⟨o, e3⟩ := rr.some
      exact ⟨q, e2, g.fr q (by rw [e3]; simp) e4 (nl q), rr.keep (by rw [hh _ _ e3, e3]) g.gg⟩
    cases s with
    | val d => exact Rep.mono g.gg r
    | own d => exact key d r
    | lnt d => exact key d r
  · exact g.fr b (same_ne S.h0 h) (S.fr b h n) (nl b)
theorem ArgOk.of {K : PySem.W.Frag} {G H : Hp} {vs : List V} {ds : List D} (r : RepL K G vs ds) : ArgOk K G H [] vs ds := ⟨r.len, fun i d _ e => r.at e, fun i z => (by simp at z), fun i j p z => (by simp at z)⟩
section
variable {X : Cx} {t : TA} {fl : FL}
theorem snd_call {F : Fn} {E : XK} (ha : SndL X t fl) : SndE X (tCall (spM X.K [] F) [] E t) (fCall F fl) := by
  intro M G0 H0 G H σ δ q δ' Q S e k
  rcases Rs.inv e with ⟨s1, δ1, e1, e⟩ | ⟨x, e1, rfl⟩
  · refine ha M G0 H0 G H σ δ (.ok s1) δ1 _ S e1 fun vs G1 H1 S1 g1 r1 => ?_
    split at e
    · rename_i s e3
      cases e
      refine ⟨G1, s1, s, [], S1.gh, by rw [List.append_nil]; exact .of r1, e3, fun v G2 H2 g2 _ r2 => ?_⟩
      obtain ⟨S3, g3⟩ := S1.gr0 g2 fun p ⟨i, z, _⟩ => (by simp at z)
      exact k v G2 H2 S3 (g1.trans g3) (r2.back g1)
    · cases e
  · exact ha M G0 H0 G H σ δ _ _ _ S e1 k
end
/-! some arguments are lent -/
inductive Ar where
  | v (d : D) | s (i : Nat)
abbrev FA := DEnv → Rs (List Ar)
def RepAs (K : PySem.W.Frag) (G : Hp) (σ : L2.St) : List V → List Ar → Prop := Paired fun v a => match a with | .v d => Rep K G v d | .s i => σ[i]? = some (some v)
def PostA (X : Cx) (M : Nat → Option Addr) (G0 H0 G H : Hp) (σ : L2.St) (δ δ' : DEnv) (Q : List V → Hp → Prop) : Except XD (List Ar) → Prop
  | .ok as => ∀ vs G' H', StOk X.K M G0 H0 G' H' σ δ' → Gr G H σ δ G' H' δ' → RepAs X.K G' σ vs as → Q vs H'
  | .error x => PostX X M G0 H0 G H σ δ δ' x
def SndA (X : Cx) (t : TA) (f : FA) : Prop := ∀ (M : Nat → Option Addr) (G0 H0 G H : Hp) (σ : L2.St) (δ : DEnv) (r : Except XD (List Ar)) (δ' : DEnv) (Q : List V → Hp → Prop), StOk X.K M G0 H0 G H σ δ → f δ = some (r, δ') → PostA X M G0 H0 G H σ δ δ' Q r → t σ H Q
def fANil : FA := fun δ => some (.ok [], δ)
def fAV (f : FE) (r : FA) : FA := fun δ => (f δ).bind fun p δ => (r δ).bind fun q δ => some (.ok (.v p.fz :: q), δ)
def fAS (i : Nat) (r : FA) : FA := fun δ => match δ[i]? with
  | some (some _) => (r δ).bind fun q δ => some (.ok (.s i :: q), δ)
  | _ => none
def DAs (X : Cx) (es : List Expr) (f : FA) : Prop := ∃ t, PA X es t ∧ SndA X t f
/-- where the lent ones stand, in which slots -/
def msOf : Nat → List Ar → List Nat
  | _, [] => []
  | k, .v _ :: r => msOf (k + 1) r
  | k, .s _ :: r => k :: msOf (k + 1) r
def slotsOf : List Ar → List Nat
  | [] => []
  | .v _ :: r => slotsOf r
  | .s i :: r => i :: slotsOf r
def dataOf (δ : DEnv) : List Ar → Option (List D)
  | [] => some []
  | .v d :: r => (dataOf δ r).map (d :: ·)
  | .s i :: r => match δ[i]? with
    | some (some s) => if s.isO = true then (dataOf δ r).map (s.fz :: ·) else none
    | _ => none
def putOut (δ : DEnv) (j : Nat) (d : D) : DEnv := match δ[j]? with | some (some s) => δ.set j (some (s.now d)) | _ => δ
def putOuts (δ : DEnv) : List Nat → List D → DEnv
  | j :: js, d :: ds => putOuts (putOut δ j d) js ds
  | _, _ => δ
def fCallM (ms : List Nat) (F : Fn) (r : FA) : FE := fun δ => (r δ).bind fun as δ => if msOf 0 as = ms ∧ (slotsOf as).Nodup then (match dataOf δ as with
  | some ds => (match F ds with
    | some (.ok s, outs) => if outs.length = ms.length then some (.ok s, putOuts δ (slotsOf as) outs) else none
    | _ => none)
  | none => none) else none
theorem putOut_len (δ : DEnv) (j : Nat) (d : D) : (putOut δ j d).length = δ.length := by unfold putOut; split <;> simp
theorem putOut_ne {δ : DEnv} {i j : Nat} (d : D) (h : i ≠ j) : (putOut δ j d)[i]? = δ[i]? := by
  unfold putOut
  split
  · exact List.getElem?_set_ne (Ne.symm h)
  · rfl
theorem putOut_eq {δ : DEnv} {j : Nat} {s : Sl} (d : D) (h : δ[j]? = some (some s)) : (putOut δ j d)[j]? = some (some (s.now d)) := by
  unfold putOut
  rw [h]
  exact List.getElem?_set_self (List.getElem?_eq_some_iff.mp h).1
theorem putOuts_len : ∀ (js : List Nat) (ds : List D) (δ : DEnv), (putOuts δ js ds).length = δ.length
  | [], ds, δ => by unfold putOuts; rfl
  | _ :: _, [], δ => by unfold putOuts; rfl
  | j :: js, d :: ds, δ => by unfold putOuts; rw [putOuts_len js ds, putOut_len]
theorem putOuts_ne : ∀ (js : List Nat) (ds : List D) (δ : DEnv) (i : Nat), i ∉ js → (putOuts δ js ds)[i]? = δ[i]?
  | [], ds, δ, i, _ => by unfold putOuts; rfl
  | _ :: _, [], δ, i, _ => by unfold putOuts; rfl
  | j :: js, d :: ds, δ, i, h => by
    unfold putOuts
    rw [putOuts_ne js ds _ i fun z => h (List.mem_cons_of_mem _ z), putOut_ne d (fun (z : i = j) => h (by rw [z]; exact List.mem_cons_self))]
theorem putOuts_at : ∀ (js : List Nat) (ds : List D) (δ : DEnv) (k i : Nat) (s : Sl) (d : D), js.Nodup → js[k]? = some i → ds[k]? = some d → δ[i]? = some (some s) → (putOuts δ js ds)[i]? = some (some (s.now d))
  | [], _, _, _, _, _, _, _, e, _, _ => by simp at e
  | _ :: _, [], _, _, _, _, _, _, _, e, _ => by simp at e
  | j :: js, d :: ds, δ, 0, i, s, d', nd, e1, e2, e3 => by
    simp at e1 e2
    subst e1 e2
    unfold putOuts
    rw [putOuts_ne js ds _ j (List.nodup_cons.mp nd).1]
    exact putOut_eq _ e3
  | j :: js, d :: ds, δ, k + 1, i, s, d', nd, e1, e2, e3 => by
    simp at e1 e2
    unfold putOuts
    have ne : i ≠ j := fun z => (List.nodup_cons.mp nd).1 (by rw [← z]; exact List.mem_of_getElem? e1)
    exact putOuts_at js ds _ k i s d' (List.nodup_cons.mp nd).2 e1 e2 (by rw [putOut_ne d ne]; exact e3)
theorem now_isO (s : Sl) (d : D) : (s.now d).isO = true := by cases s <;> rfl
section
variable {K : PySem.W.Frag} {M : Nat → Option Addr} {G H : Hp} {σ : L2.St} {δ : DEnv}
theorem mem_msOf : ∀ (as : List Ar) (k i : Nat), i ∈ msOf k as ↔ ∃ m j, i = k + m ∧ as[m]? = some (.s j)
  | [], k, i => by simp [msOf]
  | .v d :: r, k, i => by
    rw [msOf, mem_msOf r (k + 1) i]
    constructor
    · rintro ⟨m, j, rfl, e⟩; exact ⟨m + 1, j, by omega, by simpa using e⟩
    · rintro ⟨m, j, rfl, e⟩
      cases m with
      | zero => simp at e
      | succ m => exact ⟨m, j, by omega, by simpa using e⟩
  | .s j' :: r, k, i => by
    rw [msOf, List.mem_cons, mem_msOf r (k + 1) i]
    constructor
    · rintro (rfl | ⟨m, j, rfl, e⟩)
      · exact ⟨0, j', by omega, by simp⟩
      · exact ⟨m + 1, j, by omega, by simpa using e⟩
    · rintro ⟨m, j, rfl, e⟩
      cases m with
      | zero => exact .inl (by omega)
      | succ m => exact .inr ⟨m, j, by omega, by simpa using e⟩
/-- the n-th lent one -/
theorem ms_slot : ∀ (as : List Ar) (k n i : Nat), (msOf k as)[n]? = some i → ∃ m j, i = k + m ∧ as[m]? = some (.s j) ∧ (slotsOf as)[n]? = some j
  | [], k, n, i, e => by simp [msOf] at e
  | .v d :: r, k, n, i, e => by
    obtain ⟨m, j, h1, h2, h3⟩ := ms_slot r (k + 1) n i e
    exact ⟨m + 1, j, by omega, by simpa using h2, h3⟩
  | .s j' :: r, k, 0, i, e => by
    simp [msOf] at e
    exact ⟨0, j', by omega, by simp, by simp [slotsOf]⟩
  | .s j' :: r, k, n + 1, i, e => by
    obtain ⟨m, j, h1, h2, h3⟩ := ms_slot r (k + 1) n i (by simpa [msOf] using e)
    exact ⟨m + 1, j, by omega, by simpa using h2, by simpa [slotsOf] using h3⟩
theorem slot_ms : ∀ (as : List Ar) (k n j : Nat), (slotsOf as)[n]? = some j → ∃ m, as[m]? = some (.s j) ∧ (msOf k as)[n]? = some (k + m)
  | [], k, n, j, e => by simp [slotsOf] at e
  | .v d :: r, k, n, j, e => by
    obtain ⟨m, h2, h3⟩ := slot_ms r (k + 1) n j e
    exact ⟨m + 1, by simpa using h2, by rw [msOf, h3]; congr 1; omega⟩
  | .s j' :: r, k, 0, j, e => by
    simp [slotsOf] at e
    exact ⟨0, by simp [e], by simp [msOf]⟩
  | .s j' :: r, k, n + 1, j, e => by
    obtain ⟨m, h2, h3⟩ := slot_ms r (k + 1) n j (by simpa [slotsOf] using e)
    exact ⟨m + 1, by simpa using h2, by rw [msOf, List.getElem?_cons_succ, h3]; congr 1; omega⟩
theorem dataOf_at : ∀ (as : List Ar) (ds : List D), dataOf δ as = some ds → as.length = ds.length ∧ ∀ (m : Nat) (a : Ar), as[m]? = some a → match a with
    | .v d => ds[m]? = some d
    | .s j => ∃ s, δ[j]? = some (some s) ∧ s.isO = true ∧ ds[m]? = some s.fz
  | [], ds, e => by cases e; exact ⟨rfl, fun m a e => by simp at e⟩
  | .v d :: r, ds, e => by
    unfold dataOf at e
    obtain ⟨r', e1, rfl⟩ := Option.map_eq_some_iff.mp e
    obtain ⟨h1, h2⟩ := dataOf_at r r' e1
    refine ⟨by simp [h1], fun m a e => ?_⟩
    cases m with
    | zero => simp at e; subst e; simp
    | succ m => simpa using h2 m a (by simpa using e)
  | .s j :: r, ds, e => by
    unfold dataOf at e
    split at e
    · rename_i s hs
      split at e
      · rename_i os
        obtain ⟨r', e1, rfl⟩ := Option.map_eq_some_iff.mp e
        obtain ⟨h1, h2⟩ := dataOf_at r r' e1
        refine ⟨by simp [h1], fun m a e => ?_⟩
        cases m with
        | zero => simp at e; subst e; exact ⟨s, hs, os, by simp⟩
        | succ m => simpa using h2 m a (by simpa using e)
      · cases e
    · cases e
theorem RepAs.len {vs : List V} {as : List Ar} (r : RepAs K G σ vs as) : vs.length = as.length := Paired.length r
theorem RepAs.at : ∀ {vs : List V} {as : List Ar} {m : Nat} {a : Ar}, RepAs K G σ vs as → as[m]? = some a → ∃ v, vs[m]? = some v ∧ match a with | .v d => Rep K G v d | .s i => σ[i]? = some (some v)
  | _, _, _, _, .nil, e => by simp at e
  | _, _, 0, _, .cons h _, e => by simp at e; subst e; exact ⟨_, rfl, h⟩
  | _, _, m + 1, a, .cons _ r, e => by
    obtain ⟨v, h1, h2⟩ := RepAs.at (m := m) (a := a) r (by simpa using e)
    exact ⟨v, by simpa using h1, h2⟩
/-- the arguments as the callee finds them -/
theorem args_lie {G0 H0 : Hp} {vs : List V} {as : List Ar} {ds : List D} (S : StOk K M G0 H0 G H σ δ) (r : RepAs K G σ vs as) (hd : dataOf δ as = some ds) (nd : (slotsOf as).Nodup) : ArgOk K G H (msOf 0 as) vs ds := by
  obtain ⟨hl, at_⟩ := dataOf_at as ds hd
  refine ⟨by rw [r.len, hl], fun i d hi e => ?_, fun i hi => ?_, fun i j p hi hj e1 e2 => ?_⟩
  · have hlt : i < as.length := by rw [hl]; exact (List.getElem?_eq_some_iff.mp e).1
    obtain ⟨v, h1, h2⟩ := r.at (List.getElem?_eq_getElem hlt)
    have h3 := at_ i _ (List.getElem?_eq_getElem hlt)
    cases ha : as[i] with
    | v d' => rw [ha] at h2 h3; dsimp only at h2 h3; rw [e] at h3; cases h3; exact ⟨v, h1, h2⟩
    | s j => exact absurd ((mem_msOf as 0 i).mpr ⟨i, j, by omega, by rw [List.getElem?_eq_getElem hlt, ha]⟩) hi
  · obtain ⟨m, j, e0, e1⟩ := (mem_msOf as 0 i).mp hi
    rw [Nat.zero_add] at e0; subst e0
    obtain ⟨v, h1, h2⟩ := r.at e1
    obtain ⟨s, h3, os, h4⟩ := at_ i _ e1
    obtain ⟨v', h5, h6⟩ := S.env.at' j s h3
    have h2' : σ[j]? = some (some v) := h2
    rw [h2'] at h5; cases h5
    obtain ⟨p, rfl, h7, h8⟩ := h6.own os
    exact ⟨p, s.fz, h1, h4, h7, h8⟩
  · obtain ⟨m, j1, e0, a1⟩ := (mem_msOf as 0 i).mp hi
    rw [Nat.zero_add] at e0; subst e0
    obtain ⟨m, j2, e0, a2⟩ := (mem_msOf as 0 j).mp hj
    rw [Nat.zero_add] at e0; subst e0
    obtain ⟨v, h1, h2⟩ := r.at a1
    obtain ⟨w, g1, g2⟩ := r.at a2
    rw [e1] at h1; cases h1
    rw [e2] at g1; cases g1
    obtain ⟨s, h3, os, _⟩ := at_ i _ a1
    obtain ⟨s', g3, os', _⟩ := at_ j _ a2
    have ej : j1 = j2 := S.env.sep j1 j2 p s s' h3 g3 os os' h2 g2
    subst ej
    -- one slot: one place
    have key : ∀ (as : List Ar) (i j : Nat), (slotsOf as).Nodup → as[i]? = some (.s j1) → as[j]? = some (.s j1) → i = j := by
      intro as
      induction as with
      | nil => intro i j _ e; simp at e
      | cons a r ih =>
        intro i j nd e1 e2
        cases a with
        | v d =>
          cases i with
          | zero => simp at e1
          | succ i =>
            cases j with
            | zero => simp at e2
            | succ j => rw [ih i j nd (by simpa using e1) (by simpa using e2)]
        | s j' =>
          have mem : ∀ (r : List Ar) (m : Nat), r[m]? = some (.s j1) → j1 ∈ slotsOf r := by
            intro r
            induction r with
            | nil => intro m e; simp at e
            | cons b r ih =>
              intro m e
              cases m with
              | zero => simp at e; subst e; simp [slotsOf]
              | succ m =>
                have := ih m (by simpa using e)
                cases b with
                | v d => exact this
                | s j => exact List.mem_cons_of_mem _ this
          have nd' := List.nodup_cons.mp (show (j' :: slotsOf r).Nodup from nd)
          cases i with
          | zero =>
            simp at e1
            subst e1
            cases j with
            | zero => rfl
            | succ j => exact absurd (mem r j (by simpa using e2)) nd'.1
          | succ i =>
            cases j with
            | zero => simp at e2; subst e2; exact absurd (mem r i (by simpa using e1)) nd'.1
            | succ j => rw [ih i j nd'.2 (by simpa using e1) (by simpa using e2)]
    exact key as i j nd a1 a2
/-- behind the call -/
theorem StOk.called {G0 H0 G' H' : Hp} {vs : List V} {as : List Ar} {ds outs : List D} (S : StOk K M G0 H0 G H σ δ) (r : RepAs K G σ vs as) (hd : dataOf δ as = some ds) (nd : (slotsOf as).Nodup)
    (g : GrM (Lent vs (msOf 0 as)) G H G' H') (o : OutsOk K G' H' vs (msOf 0 as) outs) : StOk K M G0 H0 G' H' σ (putOuts δ (slotsOf as) outs) ∧ Gr G H σ δ G' H' (putOuts δ (slotsOf as) outs) := by
  obtain ⟨hl, at_⟩ := dataOf_at as ds hd
  -- a slot that was lent
  have slot : ∀ j, j ∈ slotsOf as → ∃ (k m : Nat) (s : Sl) (p : Addr) (d : D), (slotsOf as)[k]? = some j ∧ (msOf 0 as)[k]? = some m ∧ outs[k]? = some d ∧ δ[j]? = some (some s) ∧ s.isO = true ∧ σ[j]? = some (some (.ref p)) ∧ vs[m]? = some (.ref p) ∧ G' p = none ∧ OwnAt K G' H' p d := fun j hj => by
    obtain ⟨k, hk⟩ := List.getElem?_of_mem hj
    obtain ⟨m, e1, e2⟩ := slot_ms as 0 k j hk
    rw [Nat.zero_add] at e2
    have hko : k < outs.length := by rw [o.len]; exact (List.getElem?_eq_some_iff.mp e2).1
    obtain ⟨p, h1, h2, h3⟩ := o.at' k m _ e2 (List.getElem?_eq_getElem hko)
    obtain ⟨v, h4, h5⟩ := r.at e1
    rw [h1] at h4; cases h4
    obtain ⟨s, h6, os, _⟩ := at_ m _ e1
    exact ⟨k, m, s, p, _, hk, e2, List.getElem?_eq_getElem hko, h6, os, h5, h1, h2, h3⟩
  have lent : ∀ p, Lent vs (msOf 0 as) p → ∃ j, j ∈ slotsOf as ∧ σ[j]? = some (some (.ref p)) := fun p ⟨i, hi, e⟩ => by
    obtain ⟨n, hn⟩ := List.getElem?_of_mem hi
    obtain ⟨m, j, e0, e1, e2⟩ := ms_slot as 0 n i hn
    rw [Nat.zero_add] at e0; subst e0
    obtain ⟨v, h4, h5⟩ := r.at e1
    rw [e] at h4; cases h4
    exact ⟨j, List.mem_of_getElem? e2, h5⟩
  have lentOw : ∀ p, Lent vs (msOf 0 as) p → Ow σ δ p := fun p h => by
    obtain ⟨j, hj, e⟩ := lent p h
    obtain ⟨_, _, s, p', _, _, _, _, h6, os, h5, _⟩ := slot j hj
    exact ⟨j, s, h6, os, e⟩
  have new : ∀ i s, (putOuts δ (slotsOf as) outs)[i]? = some (some s) → (i ∉ slotsOf as ∧ δ[i]? = some (some s)) ∨ (i ∈ slotsOf as ∧ ∃ s0 d p, δ[i]? = some (some s0) ∧ s0.isO = true ∧ s = s0.now d ∧ σ[i]? = some (some (.ref p)) ∧ G' p = none ∧ OwnAt K G' H' p d) := fun i s e => by
    by_cases hi : i ∈ slotsOf as
    · obtain ⟨k, m, s0, p, d, h1, h2, h3, h4, os, h5, h6, h7, h8⟩ := slot i hi
      rw [putOuts_at _ _ δ k i s0 d nd h1 h3 h4] at e
      cases e
      exact .inr ⟨hi, s0, d, p, h4, os, rfl, h5, h7, h8⟩
    · rw [putOuts_ne _ _ _ _ hi] at e
      exact .inl ⟨hi, e⟩
  have ow : ∀ p, Ow σ (putOuts δ (slotsOf as) outs) p → Ow σ δ p := fun p ⟨i, s, e, os, z⟩ => by
    rcases new i s e with ⟨_, e'⟩ | ⟨_, s0, d, p', e', os', _⟩
    · exact ⟨i, s, e', os, z⟩
    · exact ⟨i, s0, e', os', z⟩
  have own0 : ∀ p, Lent vs (msOf 0 as) p → H0 p = none := fun p h => S.own0 p (lentOw p h)
  refine ⟨⟨g.gh, ⟨by rw [putOuts_len]; exact S.env.len, fun i s e => ?_, fun i j p a b z1 z2 oa ob z3 z4 => ?_⟩, fun b o' e => ?_, S.g0.trans g.gg, fun b h n => ?_, fun p z => S.own0 p (ow p z), fun i d e => ?_⟩, fun b o' e n => g.hs b o' e fun z => n (lentOw b z), g.hd, g.gg, fun b h n o' => g.fr b h n fun z => o' (lentOw b z), ow⟩
  · rcases new i s e with ⟨hi, e'⟩ | ⟨_, s0, d, p, e', os', rfl, z, h7, h8⟩
    · obtain ⟨v, e1, r'⟩ := S.env.at' i s e'
      refine ⟨v, e1, ?_⟩
      have key : ∀ d, s.isO = true → (∃ q, v = .ref q ∧ G q = none ∧ OwnAt K G H q d) → ∃ q, v = .ref q ∧ G' q = none ∧ OwnAt K G' H' q d := fun d os ⟨q, e2, e4, rr⟩ => by
        subst e2
        obtain ⟨o', e3⟩ := rr.some
        have nl : ¬ Lent vs (msOf 0 as) q := fun z => by
          obtain ⟨j, hj, ej⟩ := lent q z
          obtain ⟨_, _, s', _, _, _, _, _, h6, os', _⟩ := slot j hj
          exact hi (by rw [S.env.sep i j q s s' e' h6 os os' e1 ej]; exact hj)
        exact ⟨q, rfl, g.fr q (by rw [e3]; simp) e4 nl, rr.keep (by rw [g.hs _ _ e3 nl, e3]) g.gg⟩
      cases s with
      | val d => exact Rep.mono g.gg r'
      | own d => exact key d rfl r'
      | lnt d => exact key d rfl r'
    · refine ⟨_, z, ?_⟩
      cases s0 <;> exact ⟨p, rfl, h7, h8⟩
  · have fix : ∀ (m : Nat) (c : Sl), (putOuts δ (slotsOf as) outs)[m]? = some (some c) → c.isO = true → ∃ c', δ[m]? = some (some c') ∧ c'.isO = true := fun m c z oz => by
      rcases new m c z with ⟨_, e'⟩ | ⟨_, s0, _, _, e', os', _⟩
      · exact ⟨c, e', oz⟩
      · exact ⟨s0, e', os'⟩
    obtain ⟨a', z1, oa⟩ := fix i a z1 oa
    obtain ⟨b', z2, ob⟩ := fix j b z2 ob
    exact S.env.sep i j p a' b' z1 z2 oa ob z3 z4
  · exact g.hs b o' (S.h0 b o' e) fun z => by rw [own0 b z] at e; cases e
  · exact g.fr b (same_ne S.h0 h) (S.fr b h n) fun z => h (own0 b z)
  · rcases new i _ e with ⟨hi, e'⟩ | ⟨_, s0, d', p, e', os', hn, z, h7, h8⟩
    · exact S.mt i d e'
    · cases s0 with
      | val d0 => cases os'
      | own d0 => cases hn
      | lnt d0 => exact S.mt i d0 e'
end
section
variable {X : Cx} {t : TA} {fa : FA} {ta : TE} {f1 : FE}
theorem snd_anil : SndA X tNil fANil := by
  intro M G0 H0 G H σ δ q δ' Q S e k
  cases e
  exact k [] G H S (Gr.refl ..) .nil
theorem RepAs.mono {K : PySem.W.Frag} {G G' : Hp} {σ : L2.St} (h : Same G G') : ∀ {vs : List V} {as : List Ar}, RepAs K G σ vs as → RepAs K G' σ vs as
  | _, _, .nil => .nil
  | _, _, .cons (b := .v d) q r => .cons (Rep.mono h q) (RepAs.mono h r)
  | _, _, .cons (b := .s i) q r => .cons q (RepAs.mono h r)
theorem snd_av (ha : SndE X ta f1) (hr : SndA X t fa) : SndA X (tCons ta t) (fAV f1 fa) := by
  intro M G0 H0 G H σ δ q δ' Q S e k
  rcases Rs.inv e with ⟨s1, δ1, e1, e⟩ | ⟨x, e1, rfl⟩
  · refine ha.toV M G0 H0 G H σ δ s1 δ1 _ S e1 fun x G1 H1 S1 g1 r1 => ?_
    rcases Rs.inv e with ⟨s2, δ2, e2, e⟩ | ⟨x, e2, rfl⟩
    · cases e
      refine hr M G0 H0 G1 H1 σ δ1 (.ok s2) _ _ S1 e2 fun vs G2 H2 S2 g2 r2 => ?_
      exact k _ G2 H2 S2 (g1.trans g2) (.cons (Rep.mono g2.gg r1) r2)
    · exact hr M G0 H0 G1 H1 σ δ1 _ _ _ S1 e2 (PostX.after g1 k)
  · exact ha M G0 H0 G H σ δ _ _ _ S e1 k
theorem snd_as {i : Nat} (hr : SndA X t fa) : SndA X (tCons (tVar i) t) (fAS i fa) := by
  intro M G0 H0 G H σ δ q δ' Q S e k
  unfold fAS at e
  split at e
  · rename_i s hs
    obtain ⟨v, z1, r0⟩ := S.env.at' i _ hs
    refine ⟨v, z1, ?_⟩
    rcases Rs.inv e with ⟨s2, δ2, e2, e⟩ | ⟨x, e2, rfl⟩
    · cases e
      exact hr M G0 H0 G H σ δ (.ok s2) _ _ S e2 fun vs G2 H2 S2 g2 r2 => k _ G2 H2 S2 g2 (.cons z1 r2)
    · exact hr M G0 H0 G H σ δ _ _ _ S e2 k
  · cases e
theorem snd_callM {ms : List Nat} {F : Fn} {E : XK} (ha : SndA X t fa) : SndE X (tCall (spM X.K ms F) [] E t) (fCallM ms F fa) := by
  intro M G0 H0 G H σ δ q δ' Q S e k
  rcases Rs.inv e with ⟨as, δ1, e1, e⟩ | ⟨x, e1, rfl⟩
  · refine ha M G0 H0 G H σ δ (.ok as) δ1 _ S e1 fun vs G1 H1 S1 g1 r1 => ?_
    split at e
    · rename_i hc
      obtain ⟨rfl, nd⟩ := hc
      split at e
      · rename_i ds hd
        split at e
        · rename_i s outs e3
          split at e
          · cases e
            refine ⟨G1, ds, s, outs, S1.gh, by rw [List.append_nil]; exact args_lie S1 r1 hd nd, e3, fun v G2 H2 g2 o2 r2 => ?_⟩
            rw [List.append_nil] at g2 o2
            obtain ⟨S3, g3⟩ := S1.called r1 hd nd g2 o2
            exact k v G2 H2 S3 (g1.trans g3) (r2.back g1)
          · cases e
        · cases e
      · cases e
    · cases e
  · exact ha M G0 H0 G H σ δ _ _ _ S e1 k
end
/-! ### defs -/
/-- the def of that name is the function F of data, in k calls' room -/
structure FnD (P : Program) (w : World) (K : PySem.W.Frag) (mg : Str → Option Value) (base : Heap) (x : Str) (k : Nat) (ps : List Str) (ms : List Nat) (F : Fn) : Prop where
  ex : ∃ f fd, mg x = some (.ref f) ∧ PySem.W.keepIn K (.ref f) = true ∧ Binds K fd ps [] ∧ FnOk P w K mg base CX0 k f fd ps (spM K ms F)
section
variable {X : Cx} {e : Expr} {es : List Expr} {fl : FL} {fa : FA} {pos p : Pos} {x : Str} {k : Nat} {ps : List Str} {ms : List Nat} {F : Fn}
theorem de_call (G : FnD X.prog X.w X.K X.mg X.base x k ps [] F) (hr : Room k X.A) (hg : Gl X x) (ha : DA X (e :: es) fl) (hdb : (x == ("__debug__" : Str)) = false := by decide)
    (he : starEach (e :: es) X.env = (false, eval e X.env) :: starEach es X.env := by rfl) (hpl : (backTo pos (starEach es X.env)).any (·.1) = false := by rfl) : DE X (.Call (.Name x p) (e :: es) [] pos) (fCall F fl) :=
  let ⟨_, _, hm, hk, hb, ok⟩ := G.ex; let ⟨_, a1, a2⟩ := ha; ⟨_, pe_call ok hr hg hm hk hb .nil pass0 a1 hdb he hpl, snd_call a2⟩
theorem de_call0 (G : FnD X.prog X.w X.K X.mg X.base x k ps [] F) (hr : Room k X.A) (hg : Gl X x) (hdb : (x == ("__debug__" : Str)) = false := by decide) : DE X (.Call (.Name x p) [] [] pos) (fCall F fNil) :=
  let ⟨_, _, hm, hk, hb, ok⟩ := G.ex; ⟨_, pe_call0 ok hr hg hm hk hb .nil pass0 hdb, snd_call snd_nil⟩
theorem de_callM (G : FnD X.prog X.w X.K X.mg X.base x k ps ms F) (hr : Room k X.A) (hg : Gl X x) (ha : DAs X (e :: es) fa) (hdb : (x == ("__debug__" : Str)) = false := by decide)
    (he : starEach (e :: es) X.env = (false, eval e X.env) :: starEach es X.env := by rfl) (hpl : (backTo pos (starEach es X.env)).any (·.1) = false := by rfl) : DE X (.Call (.Name x p) (e :: es) [] pos) (fCallM ms F fa) :=
  let ⟨_, _, hm, hk, hb, ok⟩ := G.ex; let ⟨_, a1, a2⟩ := ha; ⟨_, pe_call ok hr hg hm hk hb .nil pass0 a1 hdb he hpl, snd_callM a2⟩
theorem das_nil : DAs X [] fANil := ⟨_, pa_nil, snd_anil⟩
theorem das_v {f1 : FE} (ha : DE X e f1) (hr : DAs X es fa) (hs : starEach (e :: es) X.env = (false, eval e X.env) :: starEach es X.env := by rfl) : DAs X (e :: es) (fAV f1 fa) := let ⟨_, a1, a2⟩ := ha; let ⟨_, b1, b2⟩ := hr; ⟨_, pa_cons a1 b1 hs, snd_av a2 b2⟩
theorem das_s (i : Nat) {y : Str} (hr : DAs X es fa) (hN : X.N[i]? = some y := by rfl) (hv : Vis X.env.scope y := by first | exact Or.inl rfl | exact Or.inr (Or.inl rfl) | exact Or.inr (Or.inr rfl)) (hd : (y == ("__debug__" : Str)) = false := by decide) (hcd : (y == ("__classdict__" : Str)) = false := by decide)
    (hs : starEach (.Name y p :: es) X.env = (false, eval (.Name y p) X.env) :: starEach es X.env := by rfl) : DAs X (.Name y p :: es) (fAS i fa) := let ⟨_, b1, b2⟩ := hr; ⟨_, pa_cons (pv i hN hv hd hcd) b1 hs, snd_as b2⟩
end
section
variable {P : Program} {w : World} {K : PySem.W.Frag} {mg : Str → Option Value} {base : Heap}
theorem argSs_at (ms : List Nat) : ∀ (ds : List D) (k i : Nat) (s : Sl), (argSs ms k ds)[i]? = some s → ∃ d, ds[i]? = some d ∧ s = argS ms (k + i) d
  | [], k, i, s, e => by simp [argSs] at e
  | d :: ds, k, 0, s, e => by simp [argSs] at e; exact ⟨d, by simp, by rw [← e]; rfl⟩
  | d :: ds, k, i + 1, s, e => by
    obtain ⟨d', h1, h2⟩ := argSs_at ms ds (k + 1) i s (by simpa [argSs] using e)
    exact ⟨d', by simpa using h1, by rw [h2]; congr 1; omega⟩
theorem argSs_len (ms : List Nat) : ∀ (ds : List D) (k : Nat), (argSs ms k ds).length = ds.length
  | [], k => rfl
  | d :: ds, k => by simp [argSs, argSs_len ms ds]
theorem startD_at {n : Nat} {ms : List Nat} {ds : List D} {i : Nat} {s : Sl} (e : (startD n ms ds)[i]? = some (some s)) : ∃ d, ds[i]? = some d ∧ s = argS ms i d := by
  unfold startD at e
  by_cases hi : i < ds.length
  · rw [List.getElem?_append_left (by simpa [argSs_len] using hi), List.getElem?_map] at e
    cases q : (argSs ms 0 ds)[i]? with
    | none => rw [q] at e; cases e
    | some s' =>
      rw [q] at e; cases e
      obtain ⟨d, h1, h2⟩ := argSs_at ms ds 0 i _ q
      exact ⟨d, h1, by rw [h2, Nat.zero_add]⟩
  · rw [List.getElem?_append_right (by simpa [argSs_len] using hi)] at e
    rw [List.getElem?_replicate] at e
    split at e <;> cases e
/-- the heap at the entry without what is lent -/
noncomputable def lessL (L : Addr → Prop) (H : Hp) : Hp := open Classical in fun b => if L b then none else H b
theorem lessL_no {L : Addr → Prop} {H : Hp} {b : Addr} (h : ¬ L b) : lessL L H b = H b := by unfold lessL; rw [if_neg h]
theorem lessL_yes {L : Addr → Prop} {H : Hp} {b : Addr} (h : L b) : lessL L H b = none := by unfold lessL; rw [if_pos h]
def lentM (vs : List V) (ms : List Nat) (i : Nat) : Option Addr := if ms.contains i then (match vs[i]? with | some (.ref p) => some p | _ => none) else none
theorem argS_mut {ms : List Nat} {i : Nat} {d d' : D} (h : argS ms i d = .lnt d') : i ∈ ms ∧ d' = d := by
  unfold argS at h
  split at h
  · rename_i hm; cases h; exact ⟨by simpa using hm, rfl⟩
  · cases h
theorem argS_isO {ms : List Nat} {i : Nat} {d : D} (h : (argS ms i d).isO = true) : i ∈ ms ∧ argS ms i d = .lnt d := by
  unfold argS at h ⊢
  split
  · rename_i hm; exact ⟨by simpa using hm, rfl⟩
  · rename_i hm; rw [if_neg hm] at h; cases h
theorem start_len {N : List Str} {vs : List V} (h : vs.length ≤ N.length) : (L2.start N vs).length = N.length := by unfold L2.start; simp; omega
theorem start_at {N : List Str} {vs : List V} {i : Nat} {v : V} (h : vs[i]? = some v) : (L2.start N vs)[i]? = some (some v) := by
  have hv : i < vs.length := (List.getElem?_eq_some_iff.mp h).1
  unfold L2.start
  rw [List.getElem?_append_left (by simpa using hv), List.getElem?_map, h]
  rfl
theorem start_ok {G H : Hp} {N : List Str} {ms : List Nat} {vs : List V} {ds : List D} (hs : Same G H) (r : ArgOk K G H ms vs ds) :
    StOk K (lentM vs ms) G (lessL (Lent vs ms) H) G H (L2.start N vs) (startD N.length ms ds) := by
  have hl := r.len
  have lent : ∀ i s, (startD N.length ms ds)[i]? = some (some s) → s.isO = true → ∃ p d, i ∈ ms ∧ vs[i]? = some (.ref p) ∧ ds[i]? = some d ∧ s = .lnt d ∧ G p = none ∧ OwnAt K G H p d := fun i s e os => by
    obtain ⟨d, h1, rfl⟩ := startD_at e
    obtain ⟨hm, h2⟩ := argS_isO os
    obtain ⟨p, d', h3, h4, h5, h6⟩ := r.lent i hm
    rw [h1] at h4; cases h4
    exact ⟨p, d, hm, h3, h1, h2, h5, h6⟩
  refine ⟨hs, ⟨by simp [L2.start, startD, argSs_len, hl], fun i s e => ?_, fun i j p a b z1 z2 oa ob z3 z4 => ?_⟩, fun b o e => ?_, Same.refl _, fun _ _ n => n, fun p ⟨i, s, z1, os, z2⟩ => ?_, fun i d e => ?_⟩
  · by_cases os : s.isO = true
    · obtain ⟨p, d, hm, h3, h1, rfl, h5, h6⟩ := lent i s e os
      exact ⟨_, start_at h3, p, rfl, h5, h6⟩
    · obtain ⟨d, h1, rfl⟩ := startD_at e
      have hm : i ∉ ms := fun hm => os (by unfold argS; rw [if_pos (by simpa using hm)]; rfl)
      obtain ⟨v, h2, h3⟩ := r.val i d hm h1
      refine ⟨v, start_at h2, ?_⟩
      unfold argS
      rw [if_neg (by simpa using hm)]
      exact h3
  · obtain ⟨p1, d1, m1, h1, _⟩ := lent i a z1 oa
    obtain ⟨p2, d2, m2, h2, _⟩ := lent j b z2 ob
    rw [start_at h1] at z3; cases z3
    rw [start_at h2] at z4; cases z4
    exact r.sep i j p m1 m2 h1 h2
  · by_cases hL : Lent vs ms b
    · rw [lessL_yes hL] at e; cases e
    · rw [lessL_no hL] at e; exact e
  · obtain ⟨p1, d1, m1, h1, _⟩ := lent i s z1 os
    rw [start_at h1] at z2; cases z2
    exact lessL_yes ⟨i, m1, h1⟩
  · obtain ⟨p, d1, m1, h1, _⟩ := lent i _ e rfl
    exact ⟨p, by unfold lentM; rw [if_pos (by simpa using m1), h1], start_at h1⟩
theorem outs_at {δ : DEnv} : ∀ {ms : List Nat} {outs : List D}, outsD δ ms = some outs → outs.length = ms.length ∧ ∀ (k i : Nat) (d : D), ms[k]? = some i → outs[k]? = some d → δ[i]? = some (some (.lnt d))
  | [], outs, e => by cases e; exact ⟨rfl, fun k i d e => by simp at e⟩
  | i :: ms, outs, e => by
    unfold outsD at e
    split at e
    · rename_i d hd
      obtain ⟨r, e1, rfl⟩ := Option.map_eq_some_iff.mp e
      obtain ⟨h1, h2⟩ := outs_at e1
      refine ⟨by simp [h1], fun k i d e1 e2 => ?_⟩
      cases k with
      | zero => simp at e1 e2; subst e1 e2; exact hd
      | succ k => exact h2 k i d (by simpa using e1) (by simpa using e2)
    · cases e
/-- the end of a body, as the caller sees it -/
theorem end_ok {G H G' H' : Hp} {ms : List Nat} {vs : List V} {outs : List D} {σ : L2.St} {δ : DEnv} {v : V} {s : Sl} (S : StOk K (lentM vs ms) G (lessL (Lent vs ms) H) G' H' σ δ) (ho : outsD δ ms = some outs) (hm : ∀ i, i ∈ ms → ∃ p, vs[i]? = some (.ref p)) (r : RepN K (lessL (Lent vs ms) H) G' H' σ δ v s) :
    GrM (Lent vs ms) G H G' H' ∧ OutsOk K G' H' vs ms outs ∧ RepR K H G' H' v s := by
  obtain ⟨hl, at_⟩ := outs_at ho
  have slot : ∀ i p, i ∈ ms → vs[i]? = some (.ref p) → ∃ d, δ[i]? = some (some (.lnt d)) ∧ σ[i]? = some (some (.ref p)) ∧ G' p = none ∧ OwnAt K G' H' p d := fun i p hi e => by
    obtain ⟨k, hk⟩ := List.getElem?_of_mem hi
    have hko : k < outs.length := by rw [hl]; exact (List.getElem?_eq_some_iff.mp hk).1
    have h1 := at_ k i _ hk (List.getElem?_eq_getElem hko)
    obtain ⟨p', h2, h3⟩ := S.mt i _ h1
    unfold lentM at h2
    rw [if_pos (by simpa using hi), e] at h2
    cases h2
    obtain ⟨v', h4, h5⟩ := S.env.at' i _ h1
    rw [h3] at h4; cases h4
    obtain ⟨q, h6, h7, h8⟩ := h5
    cases h6
    exact ⟨_, h1, h3, h7, h8⟩
  refine ⟨⟨S.gh, fun b o e n => S.h0 b o (by rw [lessL_no n]; exact e), fun b n => ?_, S.g0, fun b h n l => S.fr b (by rw [lessL_no l]; exact h) n⟩, ⟨hl, fun k i d e1 e2 => ?_⟩, r.1, fun o => ?_⟩
  · by_cases hL : Lent vs ms b
    · obtain ⟨i, hi, e⟩ := hL
      obtain ⟨d, _, _, _, h4⟩ := slot i b hi e
      obtain ⟨o, h5⟩ := h4.some
      rw [h5]; simp
    · exact same_ne S.h0 (by rw [lessL_no hL]; exact n)
  · have hi := List.mem_of_getElem? e1
    obtain ⟨p, e⟩ := hm i hi
    obtain ⟨d', h1, _, h3, h4⟩ := slot i p hi e
    rw [at_ k i d e1 e2] at h1; cases h1
    exact ⟨p, e, h3, h4⟩
  · obtain ⟨a, p, e1, e2, e3⟩ := r.2 o
    refine ⟨a, p, e1, ?_⟩
    by_cases hL : Lent vs ms p
    · obtain ⟨i, hi, e⟩ := hL
      obtain ⟨d, h1, h2, _⟩ := slot i p hi e
      exact absurd ⟨i, _, h1, rfl, h2⟩ e3
    · rw [lessL_no hL] at e2; exact e2
theorem fnD_ok {x : Str} {st : Stmt} {f : Addr} {fd : FuncData} {N ps : List Str} {n m k : Nat} {ms : List Nat} {f0 : FS} (F : Fun K x x st f fd) (S : FnScope N ps (defScope st)) (hn : N.length = n) (hm : ps.length = m) 
    (body : ∀ (cdv : Value) (A : Around) (outer : List Env) (s : Shared) (H : Hp) (E : XK), Room k (A.deeper (envOfC x (defScope st) s.heap.objs.size f cdv)) → DB (cxOf CX0 P w K mg base N x (defScope st) f cdv A outer s H E).nox (defBody st) f0) :
    FnOk P w K mg base CX0 (k + 1) f fd ps (spM K ms (runD n m ms f0)) := by
  have len : ∀ vs H Q E, spM K ms (runD n m ms f0) vs H Q E → vs.length = ps.length := fun vs H Q E h => by
    obtain ⟨G, ds, s, outs, _, r, e, _⟩ := h
    unfold runD at e
    split at e
    · rename_i hl
      rw [r.len, hl, hm]
    · cases e
  refine F.ok S len fun cdv A outer s H vs Q E hr h => ?_
  obtain ⟨t, ht, snd⟩ := body cdv A outer s H E hr
  refine ⟨t, ht, ?_⟩
  obtain ⟨G, ds, sl, outs, hs, r, e, q⟩ := h
  unfold runD at e
  split at e
  · have S0 := start_ok (N := N) hs r
    rw [hn] at S0
    have hms : ∀ i, i ∈ ms → ∃ p, vs[i]? = some (.ref p) := fun i hi => let ⟨p, _, h, _⟩ := r.lent i hi; ⟨p, h⟩
    split at e
    · rename_i s' δ' ef
      obtain ⟨o, e1, e2⟩ := Option.map_eq_some_iff.mp e
      cases e2
      refine snd _ _ _ G H _ _ _ _ S0 ef fun v σ' G' H' S' r' => ?_
      obtain ⟨h1, h2, h3⟩ := end_ok S' e1 hms r'
      exact q v G' H' h1 h2 h3
    · rename_i δ' ef
      obtain ⟨o, e1, e2⟩ := Option.map_eq_some_iff.mp e
      cases e2
      refine snd _ _ _ G H _ _ _ _ S0 ef fun σ' G' H' S' => ?_
      obtain ⟨h1, h2, h3⟩ := end_ok (v := .non) (s := .val .non) S' e1 hms ⟨Rep.non, fun z => nomatch z⟩
      exact q .non G' H' h1 h2 h3
    · obtain ⟨o, _, e2⟩ := Option.map_eq_some_iff.mp e
      cases e2
    · cases e
  · cases e
theorem fnD_mk {x : Str} {st : Stmt} {f : Addr} {fd : FuncData} {N ps : List Str} {n m k : Nat} {ms : List Nat} {f0 : FS} (F : Fun K x x st f fd) (S : FnScope N ps (defScope st)) (hn : N.length = n) (hm : ps.length = m) (b : Binds K fd ps []) (hmg : mg x = some (.ref f))
    (body : ∀ (cdv : Value) (A : Around) (outer : List Env) (s : Shared) (H : Hp) (E : XK), Room k (A.deeper (envOfC x (defScope st) s.heap.objs.size f cdv)) → DB (cxOf CX0 P w K mg base N x (defScope st) f cdv A outer s H E).nox (defBody st) f0) :
    FnD P w K mg base x (k + 1) ps ms (runD n m ms f0) := ⟨f, fd, hmg, F.kp, b, fnD_ok F S hn hm body⟩
/-- a def that is never come to the end of -/
theorem fnD_none {x : Str} {st : Stmt} {f : Addr} {fd : FuncData} {ps : List Str} {ms : List Nat} (F : Fun K x x st f fd) (b : Binds K fd ps []) (hmg : mg x = some (.ref f)) (k : Nat) : FnD P w K mg base x k ps ms (fun _ => none) :=
  have no : ∀ vs H Q E, ¬ spM K ms (fun _ => none) vs H Q E := fun vs H Q E h => by
    obtain ⟨_, _, _, _, _, _, e, _⟩ := h
    cases e
  ⟨f, fd, hmg, F.kp, b, ⟨fun vs H Q E h => (no vs H Q E h).elim, fun A outer s H args us vs Q E _ _ _ _ h => (no vs H Q E h).elim⟩⟩
/-- a constant of the module -/
structure GlD (K : PySem.W.Frag) (mg : Str → Option Value) (x : Str) (d : D) : Prop where
  ex : ∃ v u, mg x = some u ∧ RelV v u ∧ ∀ G, Rep K G v d
theorem GlD.str {x y : Str} {t : Tok} (h : mg x = some (.str y t)) : GlD K mg x (.str y) := ⟨.str y, _, h, ⟨t, rfl⟩, fun _ => .str y⟩
theorem GlD.int {x : Str} {y : Int} {t : Tok} (h : mg x = some (.int y t)) : GlD K mg x (.int y) := ⟨.int y, _, h, ⟨t, rfl⟩, fun _ => .int y⟩
theorem de_gl {X : Cx} {x : Str} {d : D} {pos : Pos} (h : GlD X.K X.mg x d) (hg : Gl X x) (hd : (x == ("__debug__" : Str)) = false := by decide) : DE X (.Name x pos) (fC d) := let ⟨_, _, h1, h2, h3⟩ := h.ex; de_glob hg h1 h2 h3 hd
/-- the law's promise at the script -/
theorem law_sp {F : Fn} {H : Hp} {a : Addr} {ns : List Int} (h : F [.lst (ns.map D.int)] = some (.ok (.val (.bl true)), [])) (hR : LsK K H a (ns.map V.int)) : spM K [] F [.ref a] H (fun v _ => v = .bl true) fun _ _ _ => False :=
  ⟨H, _, _, [], Same.refl _, .of (.cons (.lst hR (RepL.map (fun i => .int i) ns)) .nil), h, fun _ _ _ _ _ r => rep_bl r.1⟩
end
end L4

namespace L4
open PySem PySem.Spec PyProof.Rows L2
theorem law_callK {P : Program} {w : World} {K : PySem.W.Frag} {mg mb : Str → Option Value} {CX : CXT} {k : Nat} {fa a : Addr} {fd : FuncData} {x : Str} {sp : Sp} {s₁ : Shared} {vs : List Value} {ns : List Int}
    (KX : K.In s₁.heap) (hns : s₁.heap.Ns mainGlobals mg) (hb : s₁.heap.Ns builtinsNs mb) (hbb : ∀ x : Str, x ≠ "__name__" → mb x = bootBuiltins x) (hlim : s₁.heap.NoLimit) (hg : s₁.gens = #[])
    (ha : s₁.heap.get? a = some { cls := .type "list", data := .seq vs.toArray }) (hi : IntsAre vs ns) (hl : ns.length ≤ sizeLine) (hr : Room k callerA)
    (F : ∀ base : Heap, K.In base → base.Ns mainGlobals mg → FnOk P w K mg base CX k fa fd [x] sp) (hbind : ∀ (s : Shared) (u : Value), BindsTo s fd ⟨[u], []⟩ [(x, u)])
    (hsp : ∀ H : Hp, Only H → LsK K H a (ns.map V.int) → sp [.ref a] H (fun v _ => v = .bl true) fun _ _ _ => False)
    (hCX : ∀ H e s', CX [] H s₁ (fun _ _ _ => False) e s' → False) :
    codeAny (model P w) callerA (.call (.ref fa) ⟨[.ref a], []⟩) (fun r s' => r = .ok (.ret (.bool true)) ∧ OldK s₁.heap s'.heap ∧ s'.os = s₁.os ∧ AllBare s'.gens) s₁ := by
  have rv := vals_ints hi
  have lenV := hi.length
  -- from an abstract heap in which nothing but the script may be tracked
  have core : ∀ H : Hp, Only H → LsK K H a (ns.map V.int) → HOk P w H s₁.heap → (∀ b, H b ≠ none → b = a) → (H a ≠ none → K.lookup a = none) →
      codeAny (model P w) callerA (.call (.ref fa) ⟨[.ref a], []⟩) (fun r s' => r = .ok (.ret (.bool true)) ∧ OldK s₁.heap s'.heap ∧ s'.os = s₁.os ∧ AllBare s'.gens) s₁ := by
    intro H hO hS hok hA hK
    have base_of : ∀ {b : Addr} {o : Obj}, s₁.heap.get? b = some o → H b = none → (hidT s₁.heap H).get? b = some o := fun e n => hidT_get e n
    have noA : ∀ {b : Addr} {o : Obj} {es : Array DictEntry} {ep : Nat}, s₁.heap.get? b = some o → o.data = .dict es ep → H b = none := fun {b o es ep} e d => by
      cases q : H b with
      | none => rfl
      | some u =>
        have e' : b = a := hA b (by rw [q]; simp)
        subst e'
        rw [ha] at e; cases e
        have d' : Data.seq vs.toArray _ = Data.dict es ep := d
        cases d'
    have nsK : ∀ {b : Addr} {m : Str → Option Value}, s₁.heap.Ns b m → (hidT s₁.heap H).Ns b m := fun {b m} ⟨o, es, ep, e, d, r⟩ => ⟨o, es, ep, base_of e (noA e d), d, r⟩
    have hKb : K.In (hidT s₁.heap H) := fun b o e => base_of (KX b o e) (by
      cases q : H b with
      | none => rfl
      | some u =>
        have e' : b = a := hA b (by rw [q]; simp)
        subst e'
        rw [hK (by rw [q]; simp)] at e; cases e)
    have hM : Mod K mg (hidT s₁.heap H) := ⟨hKb, nsK hns, ⟨mb, nsK hb, hbb⟩, let ⟨mc, h1, h2⟩ := hlim; ⟨mc, nsK h1, h2⟩⟩
    have e0 : Env0 P w K mg (hidT s₁.heap H) callerA [] s₁ H := ⟨rfl, hM, fun b o e => of_hidT e, Nat.le_of_eq (hidT_size _ _), trivial, fun b hb => absurd (show b ∈ ([] : List Addr) from hb) (by simp), hok, .of_eq hg⟩
    refine codeAny_mono ((F _ hKb (nsK hns)).run callerA [] s₁ H ⟨[.ref a], []⟩ [.ref a] [.ref a] _ _ hr e0 (hbind s₁ (.ref a)) (.cons rfl .nil) (hsp H hO hS)) fun r s' h => ?_
    cases r with
    | error e => exact (hCX H e s' h).elim
    | ok fl =>
      cases fl with
      | next => exact False.elim h
      | brk => exact False.elim h
      | cont => exact False.elim h
      | ret u =>
        obtain ⟨v, H', os, bare, un, hok', r', q⟩ := h
        have q' : v = .bl true := q
        subst q'
        obtain rfl : u = Value.bool true := r'
        refine ⟨rfl, OldK.of_keep fun b o e => ?_, os, bare⟩
        cases q : H b with
        | none => exact un.keep b o e q (by intro z; exact absurd (show b ∈ ([] : List Addr) from z) (by simp)) (by simp)
        | some u =>
          rcases hO b with z | ⟨ob, xs, z⟩
          · rw [q] at z; cases z
          · have z2 := un.frzs b ob _ z
            obtain ⟨e1, _⟩ := hok b _ z
            obtain ⟨e2, _⟩ := hok' b _ z2
            rw [e] at e1; cases e1
            exact e2
  cases hk : K.lookup a with
  | some o =>
    -- the script is one of the module's own objects
    have e := KX a o hk
    rw [ha] at e
    cases e
    refine core (fun _ => none) (fun _ => .inl rfl) (.inr ⟨vs.toArray, _, hk, by rw [List.size_toArray, lenV]; exact hl, by simpa using rv⟩) (fun b u z => by have z' : (none : Option HO) = some u := z; cases z') (fun b z => absurd rfl z) fun z => absurd rfl z
  | none =>
    refine core (fun b => if b = a then some (.frz { cls := .type "list", data := .seq vs.toArray } (.lst (ns.map V.int))) else none) (fun b => ?_) (.inl (.inr ⟨{ cls := .type "list", data := .seq vs.toArray }, if_pos rfl⟩)) (fun b u z => ?_) (fun b z => ?_) fun _ => hk
    · by_cases hb : b = a
      · exact .inr ⟨_, _, if_pos hb⟩
      · exact .inl (if_neg hb)
    · by_cases hb : b = a
      · have z' := (if_pos hb).symm.trans z
        cases z'
        subst hb
        exact ⟨ha, by rw [List.length_map]; exact hl, vs, _, rv, ha⟩
      · have z' := (if_neg hb).symm.trans z
        cases z'
    · by_cases hb : b = a
      · exact hb
      · exact absurd (if_neg hb) z
theorem walk_ofL {l : PySem.W.OpenLaw} {n k : Nat} {q : Program} {loose : List Str} {XP : (Str → Option Value) → Heap → Prop} {YP : World → Heap → Prop} {d : DefRec} {K : Params → PySem.W.Frag} {CX : World → CXT} {sp : World → Sp} {x : Str}
    (hn : l.most = some n) (hn2 : n ≤ sizeLine) (hdf : d.params.defaults = []) (hr : Room k callerA)
    (hY : ∀ (w : World) (h : Heap), YP w h → (K w.params).In h)
    (F : ∀ (w : World) (mg : Str → Option Value) (fa : Addr) (h : Heap), (K w.params).In h → h.Ns mainGlobals mg → mg d.name = some (.ref fa) →
      ∃ fd : FuncData, (∀ (s : Shared) (u : Value), BindsTo s fd ⟨[u], []⟩ [(x, u)]) ∧
        ∀ base : Heap, (K w.params).In base → base.Ns mainGlobals mg → FnOk l.prog w (K w.params) mg base (CX w) k fa fd [x] (sp w))
    (hsp : ∀ (w : World) (H : Hp) (a : Addr) (ns : List Int), ns.length ≤ n → Only H → LsK (K w.params) H a (ns.map V.int) → sp w [.ref a] H (fun v _ => v = .bl true) fun _ _ _ => False)
    (hCX : ∀ (w : World) (H : Hp) (s : Shared) (e : Value) (s' : Shared), CX w [] H s (fun _ _ _ => False) e s' → False) :
    PySem.W.WalkO q loose XP YP l.row.toRowW d [] (fun f vs => PySem.call f vs) := by
  refine Att.attach_call hn hdf fun w s₀ s₁ mg mb fa o pm cd doc a vs ns G Y ho hd hcd hmg hobj hints hlen hg => ?_
  have KX := hY w _ Y
  obtain ⟨fd, hb, hF⟩ := F w mg fa _ KX G.T.g hmg
  exact law_callK KX G.T.g G.T.b G.T.builtins G.T.nolimit hg hobj hints (Nat.le_trans hlen hn2) hr hF hb (fun H hO hS => hsp w H a ns hlen hO hS) fun H e s' => hCX w H s₁ e s'
end L4

namespace L4
open PySem PySem.Spec PyProof.Rows L2
/-! ### what is walked, at the data -/
structure IterOk (K : PySem.W.Frag) (J : It) (ds : List D) (G : Hp) : Prop where
  go : ∀ (H : Hp) (i : Nat), Same G H → i < ds.length → J.go i H
  yld : ∀ (H : Hp) (i : Nat) (x : V) (H' : Hp), Same G H → i < ds.length → J.yld i H x H' → H' = H ∧ ∃ d, ds[i]? = some d ∧ Rep K G x d
  stop : ∀ (H : Hp), Same G H → J.stop ds.length H
def PostI (X : Cx) (M : Nat → Option Addr) (G0 H0 G H : Hp) (σ : L2.St) (δ δ' : DEnv) (R : It → Hp → Prop) : Except XD (List D) → Prop
  | .ok ds => ∀ J G' H', StOk X.K M G0 H0 G' H' σ δ' → Gr G H σ δ G' H' δ' → IterOk X.K J ds G' → R J H'
  | .error x => PostX X M G0 H0 G H σ δ δ' x
def SndI (X : Cx) (wi : TI) (fs : FL) : Prop := ∀ (M : Nat → Option Addr) (G0 H0 G H : Hp) (σ : L2.St) (δ : DEnv) (q : Except XD (List D)) (δ' : DEnv) (R : It → Hp → Prop), StOk X.K M G0 H0 G H σ δ → fs δ = some (q, δ') →
  PostI X M G0 H0 G H σ δ δ' R q → wi σ H R
def DI (X : Cx) (tg iter : Expr) (fs : FL) : Prop := ∃ wi, PI X tg iter wi ∧ SndI X wi fs
theorem iter_rng {K : PySem.W.Frag} (lo : Int) (n : Nat) (G : Hp) : IterOk K (Itr lo n) (rngD lo n) G := by
  have hl : (rngD lo n).length = n := by simp [rngD]
  refine ⟨fun H i _ hi => by rw [hl] at hi; exact hi, fun H i x H' _ hi y => ?_, fun H _ => by rw [hl]; exact Nat.le_refl _⟩
  obtain ⟨e1, e2⟩ := y
  rw [hl] at hi
  exact ⟨e1, D.int (lo + (i : Int)), by simp [rngD, hi], by rw [e2]; exact .int _⟩
section
variable {X : Cx}
theorem snd_iR1 {ta : TA} {fa : FL} (ha : SndL X ta fa) : SndI X (iRng1 ta) (fRng1 fa) := by
  intro M G0 H0 G H σ δ q δ' R S e k
  rcases Rs.inv e with ⟨as, δ2, e2, e⟩ | ⟨x, e2, rfl⟩
  · obtain ⟨ds, e3, rfl, rfl⟩ := lift_inv e
    unfold rng1D at e3
    split at e3
    · rename_i j
      split at e3
      · rename_i hj
        cases e3
        refine ha M G0 H0 G H σ δ _ _ _ S e2 fun xs G1 H1 S1 g1 r1 => ?_
        cases r1 with
        | cons h t =>
          cases t
          cases rep_int h
          exact ⟨j, rfl, hj.1, hj.2, k _ G1 H1 S1 g1 (iter_rng 0 _ G1)⟩
      · cases e3
    · cases e3
  · exact ha M G0 H0 G H σ δ _ _ _ S e2 k
theorem snd_iR2 {ta : TA} {fa : FL} (ha : SndL X ta fa) : SndI X (iRng2 ta) (fRng2 fa) := by
  intro M G0 H0 G H σ δ q δ' R S e k
  rcases Rs.inv e with ⟨as, δ2, e2, e⟩ | ⟨x, e2, rfl⟩
  · obtain ⟨ds, e3, rfl, rfl⟩ := lift_inv e
    unfold rng2D at e3
    split at e3
    · rename_i a b
      split at e3
      · rename_i hj
        cases e3
        refine ha M G0 H0 G H σ δ _ _ _ S e2 fun xs G1 H1 S1 g1 r1 => ?_
        cases r1 with
        | cons h t =>
          cases t with
          | cons h2 t =>
            cases t
            cases rep_int h
            cases rep_int h2
            exact ⟨a, b, rfl, ⟨hj.1, hj.2.1, hj.2.2.1, hj.2.2.2⟩, k _ G1 H1 S1 g1 (iter_rng a _ G1)⟩
      · cases e3
    · cases e3
  · exact ha M G0 H0 G H σ δ _ _ _ S e2 k
end
section
variable {X : Cx} {tg iter a b : Expr} {fe : FE} {fl : FL} {p pos : Pos}
theorem di_rng1 (hg : Gl X "range") (hm : X.mg "range" = none) (ha : DA X [a] fl) (hs : starEach [a] X.env = [(false, eval a X.env)] := by rfl) : DI X tg (.Call (.Name "range" p) [a] [] pos) (fRng1 fl) := let ⟨_, a1, a2⟩ := ha; ⟨_, pi_range1 hg hm a1 hs, snd_iR1 a2⟩
theorem di_rng2 (hg : Gl X "range") (hm : X.mg "range" = none) (ha : DA X [a, b] fl) (hs : starEach [a, b] X.env = [(false, eval a X.env), (false, eval b X.env)] := by rfl) (hs2 : starEach [b] X.env = [(false, eval b X.env)] := by rfl) : DI X tg (.Call (.Name "range" p) [a, b] [] pos) (fRng2 fl) := let ⟨_, a1, a2⟩ := ha; ⟨_, pi_range2 hg hm a1 hs hs2, snd_iR2 a2⟩
end
/-! ### the block of a comprehension -/
def clOf (cells : List (Str × Addr)) : List (Str × NameKind) → List (Str × Addr) → List (Str × Addr)
  | [], cs => cs
  | (n, k) :: r, cs => clOf cells r (if k == .free then (match cells.lookup n with | some c => (n, c) :: cs | none => cs) else cs)
theorem cl_sub {cells : List (Str × Addr)} : ∀ (ns : List (Str × NameKind)) (cs : List (Str × Addr)), (∀ y c, cs.lookup y = some c → cells.lookup y = some c) → ∀ y c, (clOf cells ns cs).lookup y = some c → cells.lookup y = some c
  | [], cs, h => h
  | (n, k) :: r, cs, h => by
    refine cl_sub r _ fun y c e => ?_
    split at e
    · split at e
      · rename_i c' hc
        rw [List.lookup_cons] at e
        split at e
        · rename_i hy
          cases e
          rw [eq_of_beq hy]; exact hc
        · exact h y c e
      · exact h y c e
    · exact h y c e
theorem cl_mono {cells : List (Str × Addr)} : ∀ (ns : List (Str × NameKind)) (cs : List (Str × Addr)) (y : Str), (∃ c, cs.lookup y = some c) → ∃ c, (clOf cells ns cs).lookup y = some c
  | [], cs, y, h => h
  | (n, k) :: r, cs, y, h => by
    refine cl_mono r _ y ?_
    split
    · split
      · rw [List.lookup_cons]
        split
        · exact ⟨_, rfl⟩
        · exact h
      · exact h
    · exact h
theorem cl_has {cells : List (Str × Addr)} : ∀ (ns : List (Str × NameKind)) (cs : List (Str × Addr)) (y : Str) (c : Addr), (y, NameKind.free) ∈ ns → cells.lookup y = some c → ∃ c, (clOf cells ns cs).lookup y = some c
  | (n, k) :: r, cs, y, c, h, e => by
    rcases List.mem_cons.mp h with h | h
    · cases h
      refine cl_mono r _ _ ?_
      rw [if_pos (by rfl), e]
      exact ⟨c, by simp⟩
    · exact cl_has r _ y c h e
theorem closure_eq {scope : Scope} {env : Env} (h : ∀ p ∈ scope.names, p.2 = .free → ∃ c, env.cells.lookup p.1 = some c) : closureFor scope env = pure (clOf env.cells scope.names []) := by
  have key : ∀ (ns : List (Str × NameKind)) (cs : List (Str × Addr)), (∀ p ∈ ns, p.2 = .free → ∃ c, env.cells.lookup p.1 = some c) →
      (forIn ns cs fun (p : Str × NameKind) (r : List (Str × Addr)) => if (p.2 == NameKind.free) = true then (do let a ← cellOf env p.1; pure (ForInStep.yield ((p.1, a) :: r))) else pure (ForInStep.yield r) : Sem (List (Str × Addr))) = pure (clOf env.cells ns cs) := by
    intro ns
    induction ns with
    | nil => intro cs _; rfl
    | cons p r ih =>
      intro cs hc
      obtain ⟨n, k⟩ := p
      rw [List.forIn_cons]
      by_cases hk : (k == NameKind.free) = true
      · obtain ⟨c, e⟩ := hc (n, k) List.mem_cons_self (eq_of_beq hk)
        have ec : cellOf env n = pure c := by unfold cellOf; rw [show env.cells.lookup n = some c from e]
        simp only [hk, if_true, ec]
        have := ih ((n, c) :: cs) fun p hp => hc p (List.mem_cons_of_mem _ hp)
        show (forIn r ((n, c) :: cs) _ : Sem _) = _
        rw [this]
        show pure (clOf env.cells r ((n, c) :: cs)) = pure (clOf env.cells r (if (k == NameKind.free) = true then (match env.cells.lookup n with | some c => (n, c) :: cs | none => cs) else cs))
        rw [if_pos hk, show env.cells.lookup n = some c from e]
      · simp only [hk, if_false]
        have := ih cs fun p hp => hc p (List.mem_cons_of_mem _ hp)
        show (forIn r cs _ : Sem _) = _
        rw [this]
        show pure (clOf env.cells r cs) = pure (clOf env.cells r (if (k == NameKind.free) = true then (match env.cells.lookup n with | some c => (n, c) :: cs | none => cs) else cs))
        rw [if_neg hk]
  have := key scope.names [] h
  unfold closureFor
  first
    | exact this
    | (show ((forIn scope.names [] _ : Sem _) >>= fun r => pure r) = _; rw [this]; rfl)
    | (simp only [bind_pure]; exact this)
end L4

namespace L4
open PySem PySem.Spec PyProof.Rows L2
/-- the context of a comprehension's block: x its own name, M the def's names that it may see (the others "") -/
def compCx (X : Cx) (M : List Str) (scope : Scope) (x : Str) (s : Shared) (H : Hp) (fp : List Addr) (pn : List (Addr × Obj)) : Cx :=
  { X with N := x :: M, s₀ := s, H₀ := H, env := compEnvC scope (clOf X.env.cells scope.names []) s.heap.objs.size X.env, outer := X.stack, stack := X.stack, ex := fp, fn := fun _ => false, pn := pn, xe := fun _ _ => False }
/-- what is read off the text -/
structure CompOk (X : Cx) (M : List Str) (scope : Scope) (x : Str) : Prop where
  kind : scope.kind = .function
  nocell : ∀ p ∈ scope.names, p.2 ≠ .cell
  xl : scope.names.lookup x = some .local
  names : ∀ p ∈ scope.names, p.2 = .local → scope.names.lookup p.1 = some .local
  loc : ∀ p ∈ scope.names, p.2 = .local → p.1 ∉ M
  free : ∀ p ∈ scope.names, p.2 = .free → X.env.scope.names.lookup p.1 = some .cell ∨ X.env.scope.names.lookup p.1 = some .free
  blank : ∀ p ∈ scope.names, p.1 ≠ ""
  len : M.length = X.N.length
  seen : ∀ p ∈ M.zip X.N, p.1 = "" ∨ p.1 = p.2
  nd : (x :: M).Nodup
theorem lookup_mem {α β : Type} [BEq α] [LawfulBEq α] : ∀ {l : List (α × β)} {x : α} {y : β}, l.lookup x = some y → (x, y) ∈ l
  | (a, b) :: r, x, y, h => by
    rw [List.lookup_cons] at h
    split at h
    · rename_i hx
      cases h
      rw [eq_of_beq hx]
      exact List.mem_cons_self
    · exact List.mem_cons_of_mem _ (lookup_mem h)
theorem lookup_relabel {names : List (Str × NameKind)} {env : Env} {x : Str} {k : NameKind} : (names.map fun (n, k) => if (k == NameKind.free && env.scope.kind == .function && env.kindOf n == some .cell) then (n, NameKind.cell) else (n, k)).lookup x = some k →
    names.lookup x = some k ∨ (k = .cell ∧ names.lookup x = some .free) := by
  induction names with
  | nil => intro h; cases h
  | cons p r ih =>
    obtain ⟨n, k'⟩ := p
    intro h
    rw [List.map_cons] at h
    by_cases hc : (k' == NameKind.free && env.scope.kind == .function && env.kindOf n == some .cell) = true
    · simp only [hc, if_true] at h
      rw [List.lookup_cons] at h ⊢
      split at h
      · rename_i hx
        cases h
        refine .inr ⟨rfl, ?_⟩
        have : k' = .free := by
          rw [Bool.and_eq_true, Bool.and_eq_true] at hc
          exact eq_of_beq hc.1.1
        rw [this]
      · exact ih h
    · have hc' : (k' == NameKind.free && env.scope.kind == .function && env.kindOf n == some .cell) = false := by simpa using hc
      simp only [hc', Bool.false_eq_true, if_false] at h
      rw [List.lookup_cons] at h ⊢
      split at h
      · rename_i hx
        cases h
        exact .inl rfl
      · exact ih h
section
variable {X : Cx} {M : List Str} {scope : Scope} {x : Str} {pins : List (Addr × Obj)} {σ : L2.St} {H : Hp} {s : Shared} {fp : List Addr}
theorem CompOk.cells (c : CompOk X M scope x) (ok : X.Ok) : ∀ p ∈ scope.names, p.2 = .free → ∃ a, X.env.cells.lookup p.1 = some a := fun p hp hf => ok.has p.1 (c.free p hp hf)
theorem inv_comp {h₁ : Heap} {tk : Nat} (c : CompOk X M scope x) (I : Inv X pins σ H s) (hf : ∀ b ∈ fp, FpOk X pins H b) (hfo : ∀ b ∈ fp, ∃ o, s.heap.get? b = some o)
    (hns : h₁.Ns s.heap.objs.size (fun _ => none)) (keep : ∀ b o, s.heap.get? b = some o → h₁.get? b = some o) :
    Inv (compCx X M scope x s H fp (X.pn ++ pins)) [] (none :: σ) H { s with heap := h₁, toks := tk } := by
  have sub : ∀ y a, (clOf X.env.cells scope.names []).lookup y = some a → X.env.cells.lookup y = some a := cl_sub scope.names [] fun y a e => by cases e
  have nstk : ∀ b, b ≠ X.env.locals → b ∉ X.fs → b ∉ frs X.stack := fun b h1 h2 z => (List.mem_cons.mp (I.stkSub b z)).elim h1 h2
  have lt : ∀ b o, s.heap.get? b = some o → b ≠ s.heap.objs.size := fun b o e => Nat.ne_of_lt (Heap.lt_size e)
  refine ⟨⟨I.ok.mod, ?_, I.ok.glob, I.ok.blt, Nat.le_refl _, fun y z a e1 e2 => I.ok.inj y z a (sub y a e1) (sub z a e2), fun y hy => ?_, fun y a e => (by cases e), I.ok.hd, I.ok.frames, .inl rfl, fun b hb => ⟨?_, fun y a e => (hf b hb).2.2.2.2.1 y a (sub y a e)⟩, I.bs,
      Nat.le_trans I.ok.bsz I.sz, fun b o e hb => ?_, fun b hb => nstk b (hf b hb).2.1 (hf b hb).2.2.1, I.stack, I.stkFree⟩, rfl, I.bare, Un.kept keep, ⟨_, hns, fun i y v e1 e2 e3 => ?_⟩, fun y a e => ?_, I.fresh, fun y a e => I.freeC y a (sub y a e), fun p hp => ?_, I.hok.kept keep, ?_⟩
  · show (relabel scope X.env).kind = .function
    exact c.kind
  · have hy' : scope.names.lookup y = some .free := by
      rcases hy with hy | hy
      · rcases lookup_relabel hy with z | ⟨_, z⟩
        · exact absurd rfl (c.nocell _ (lookup_mem z))
        · exact z
      · rcases lookup_relabel hy with z | ⟨z, _⟩
        · exact z
        · cases z
    obtain ⟨a, e⟩ := c.cells I.ok _ (lookup_mem hy') rfl
    exact cl_has scope.names [] y a (lookup_mem hy') e
  · obtain ⟨o, e⟩ := hfo b hb
    exact lt b o e
  · rcases (hf b hb).2.2.2.1 with z | z
    · exact I.ok.noex b o e z
    · exact absurd (Nat.lt_of_lt_of_le (Heap.lt_size e) (Nat.le_trans I.ok.bsz z)) (Nat.lt_irrefl _)
  · cases i with
    | zero => cases e2
    | succ i =>
      have e1' : M[i]? = some y := e1
      have e2' : σ[i]? = some (some v) := e2
      have hi : i < M.length := (List.getElem?_eq_some_iff.mp e1').1
      have hX : ∃ z, X.N[i]? = some z ∧ (y = "" ∨ y = z) := by
        have hi' : i < X.N.length := by rw [← c.len]; exact hi
        refine ⟨X.N[i], List.getElem?_eq_getElem hi', ?_⟩
        refine c.seen (y, X.N[i]) ?_
        have : (M.zip X.N)[i]? = some (y, X.N[i]) := by
          rw [List.getElem?_zip_eq_some]
          exact ⟨e1', List.getElem?_eq_getElem hi'⟩
        exact List.mem_of_getElem? this
      obtain ⟨z, hz, hyz⟩ := hX
      -- it is seen: free there
      have hy' : scope.names.lookup y = some .free := by
        rcases e3 with w | w | w
        · rcases lookup_relabel w with z | ⟨z, _⟩
          · exact absurd (List.mem_of_getElem? e1') (c.loc _ (lookup_mem z) rfl)
          · cases z
        · rcases lookup_relabel w with z | ⟨_, z⟩
          · exact absurd rfl (c.nocell _ (lookup_mem z))
          · exact z
        · rcases lookup_relabel w with z | ⟨z, _⟩
          · exact z
          · cases z
      have hm := lookup_mem hy'
      rcases hyz with rfl | rfl
      · exact absurd rfl (c.blank _ hm)
      · have hk := c.free _ hm rfl
        obtain ⟨m, hn, hl⟩ := I.loc
        obtain ⟨u, r, l⟩ := hl i y v hz e2' (hk.elim (fun q => .inr (.inl q)) fun q => .inr (.inr q))
        refine ⟨u, r, ?_⟩
        rcases l with ⟨l, _⟩ | ⟨_, a, ea, ia⟩
        · rcases hk with hk | hk
          · have l' : X.env.scope.names.lookup y = some .local := l
            rw [hk] at l'; cases l'
          · have l' : X.env.scope.names.lookup y = some .local := l
            rw [hk] at l'; cases l'
        · obtain ⟨a', e'⟩ := cl_has scope.names [] y a hm ea
          have : a' = a := by have := sub y a' e'; rw [ea] at this; exact (Option.some.inj this).symm
          subst this
          refine .inr ⟨?_, a', e', ia.keeps keep⟩
          rcases e3 with w | w | w
          · rcases lookup_relabel w with z | ⟨z, _⟩
            · rw [hy'] at z; cases z
            · cases z
          · exact .inl w
          · exact .inr w
  · obtain ⟨v, z⟩ := I.cell y a (sub y a e)
    exact ⟨v, z.keeps keep⟩
  · have hp' : p ∈ X.pn ++ pins := by simpa [compCx] using hp
    obtain ⟨q1, q2, q3, q4, q5⟩ := I.pin p hp'
    exact ⟨keep _ _ q1, q2, lt _ _ q1, nstk _ q3 q4, q5⟩
  · show (none :: σ).length = (x :: M).length
    rw [List.length_cons, List.length_cons, I.len, c.len]
theorem inv_back {σ' : L2.St} {H' : Hp} {s' : Shared} {h₂ : Heap} (I : Inv X pins σ H s) (hf : ∀ b ∈ fp, FpOk X pins H b)
    (I' : Inv (compCx X M scope x s H fp (X.pn ++ pins)) [] σ' H' s') (hs : Heap.SameBut s.heap.objs.size s'.heap h₂) : Inv X pins σ H' { s' with heap := h₂ } := by
  have lt : ∀ b o, s.heap.get? b = some o → b ≠ s.heap.objs.size := fun b o e => Nat.ne_of_lt (Heap.lt_size e)
  have u := I'.base
  refine I.call' (s' := { s' with heap := h₂ }) (ch := fp) I'.os ⟨fun b o e n hb hx => ?_, fun b o e n hb hx => ?_, u.free, fun b o e hx => ?_, u.tups, u.frzs, u.tbls⟩ (fun b ob e => ?_) I'.bare fun b hb => ⟨(hf b hb).2.2.2.1, (hf b hb).2.1, (hf b hb).2.2.2.2.1, (hf b hb).2.2.2.2.2⟩
  · exact (hs.2 b (lt b o e)).trans (u.keep b o e n hb hx)
  · obtain ⟨sl, q⟩ := u.slot b o e n hb hx
    exact ⟨sl, (hs.2 b (lt b o e)).trans q⟩
  · obtain ⟨o', q⟩ := u.there b o e hx
    exact ⟨o', (hs.2 b (lt b o e)).trans q⟩
  · have hC : H' s.heap.objs.size = none := I'.free
    refine (I'.hok b ob e).stay (fun d v hd q => (hs.2 d ?_).trans q) (fun _ q => q) fun _ _ q => q
    rintro rfl
    rcases hd with hd | hd
    · rw [← hd, hC] at e; cases e
    · rw [hC] at hd; cases hd
end
end L4

namespace L4
open PySem PySem.Spec PyProof.Rows L2
section
variable {prog : Program} {w : World} {A : Around} {R : Result → Shared → Prop} {s : Shared}
abbrev Well {α : Type} (prog : Program) (w : World) (A : Around) (m : Sem α) (q : α → Shared → Prop) (s : Shared) : Prop := wpAny (model prog w) A m q (fun _ _ => False) s
theorem Well.go {α β : Type} {prog : Program} {w : World} {A : Around} {s : Shared} {E : Value → Shared → Prop} {m : Sem α} {f : α → Sem β} {q : α → Shared → Prop} {r : β → Shared → Prop} (a : Well prog w A m q s) (b : ∀ v t, q v t → wpAny (model prog w) A (f v) r E t) : wpAny (model prog w) A (m >>= f) r E s :=
  wpAny_bind (wpAny_mono a b fun _ _ => False.elim)
abbrev testsOf (ifs : List Expr) (env : Env) : Sem Bool := forIn ifs true fun c ok => if ok = true then isTrue c env (eval c env) >>= fun b => pure (.yield b) else pure (.yield ok)
theorem compLoop_own {prog : Program} {w : World} {A : Around} {R : Result → Shared → Prop} {s : Shared} {elt target iter : Expr} {ifs : List Expr} {scope : Scope} {pos : Pos} {it acc : Value} {env : Env} (I : Nat → Shared → Prop)
    (turn : ∀ n s, I n s → Well prog w A (pyNext it) (fun r t => r.elim (R (.ok .next) t) fun v => Well prog w A (letOwnedTupleGo target it v) (fun _ t => Well prog w A (assign target env v) (fun _ t => Well prog w A (testsOf ifs env) (fun ok t =>
      if ok = true then Well prog w A (eval elt env) (fun x t => Well prog w A (call (.builtin "list.append") [acc, x]) (fun _ t => ∃ m, m < n ∧ I m t) t) t else ∃ m, m < n ∧ I m t) t) t) t) s)
    (n : Nat) (h : I n s) : codeAny (model prog w) A (.compLoop (.ListComp elt [⟨target, iter, ifs, 0⟩] scope pos) 0 it acc env) R s := by
  apply codeAny_loop rfl I (n := n) (h := h)
  intro n s i
  apply wpAny_noted
  rw [compTurn_list]
  apply wpAny_bind
  apply wpAny_standAt
  apply (turn n s i).go
  rintro (_ | v) t a
  · exact wpAny_pure a
  · apply a.go
    intro _ t a
    apply a.go
    intro _ t a
    apply a.go
    rintro (_ | _) t a
    · wp_walk
      exact ⟨rfl, a⟩
    · apply wpAny_bind
      apply a.go
      intro x t a
      apply a.go
      intro _ t a
      wp_walk
      exact ⟨rfl, a⟩
end
/-! ### at the data -/
def testD (fc : Option FT) (d : D) (δ : DEnv) : Rs Bool := match fc with | none => some (.ok true, some (Sl.val d) :: δ) | some c => c (some (Sl.val d) :: δ)
def compD (fc : Option FT) (fe : FE) : List D → List D → DEnv → Option (List D × DEnv)
  | [], acc, δ => some (acc, δ)
  | d :: ds, acc, δ => match testD fc d δ with
    | some (.ok true, δ1) => (match fe δ1 with
      | some (.ok q, δ2) => if acc.length < sizeLine then compD fc fe ds (acc ++ [q.fz]) δ2.tail else none
      | _ => none)
    | some (.ok false, δ1) => compD fc fe ds acc δ1.tail
    | _ => none
def fComp (src : FL) (fc : Option FT) (fe : FE) : FE := fun δ => (src δ).bind fun ds δ => match compD fc fe ds [] δ with
  | some (r, δ') => some (.ok (.own (.lst r)), δ')
  | none => none
def shM (M : Nat → Option Addr) : Nat → Option Addr
  | 0 => none
  | i + 1 => M i
section
variable {K : PySem.W.Frag} {M : Nat → Option Addr} {G0 H0 G H G' H' : Hp} {σ : L2.St} {δ δ' : DEnv} {ov : Option V}
theorem ow_cons {d : D} {p : Addr} (h : Ow (ov :: σ) (some (.val d) :: δ) p) : Ow σ δ p := by
  obtain ⟨i, s, z1, os, z2⟩ := h
  cases i with
  | zero => cases z1; cases os
  | succ i => exact ⟨i, s, z1, os, z2⟩
theorem ow_tail {p : Addr} (h : Ow σ δ'.tail p) : Ow (ov :: σ) δ' p := by
  obtain ⟨i, s, z1, os, z2⟩ := h
  cases δ' with
  | nil => cases z1
  | cons o r => exact ⟨i + 1, s, z1, os, z2⟩
theorem StOk.cons {v : V} {d : D} (S : StOk K M G0 H0 G H σ δ) (r : Rep K G v d) : StOk K (shM M) G0 H0 G H (some v :: σ) (some (.val d) :: δ) := by
  refine ⟨S.gh, ⟨by simp [S.env.len], fun i s e => ?_, fun i j p a b z1 z2 oa ob z3 z4 => ?_⟩, S.h0, S.g0, S.fr, fun p z => S.own0 p (ow_cons z), fun i d e => ?_⟩
  · cases i with
    | zero => cases e; exact ⟨v, rfl, r⟩
    | succ i => exact S.env.at' i s e
  · cases i with
    | zero => cases z1; cases oa
    | succ i =>
      cases j with
      | zero => cases z2; cases ob
      | succ j => exact congrArg (· + 1) (S.env.sep i j p a b z1 z2 oa ob z3 z4)
  · cases i with
    | zero => cases e
    | succ i => exact S.mt i d e
theorem StOk.tail (S : StOk K (shM M) G0 H0 G H (ov :: σ) δ') : StOk K M G0 H0 G H σ δ'.tail := by
  cases δ' with
  | nil => have := S.env.len; simp at this
  | cons o r =>
    refine ⟨S.gh, ⟨by have := S.env.len; simpa using this, fun i s e => S.env.at' (i + 1) s e, fun i j p a b z1 z2 oa ob z3 z4 => ?_⟩, S.h0, S.g0, S.fr, fun p z => S.own0 p (ow_tail z), fun i d e => S.mt (i + 1) d e⟩
    have := S.env.sep (i + 1) (j + 1) p a b z1 z2 oa ob z3 z4
    omega
theorem Gr.tail {d : D} (g : Gr G H (ov :: σ) (some (.val d) :: δ) G' H' δ') : Gr G H σ δ G' H' δ'.tail :=
  ⟨fun b o h n => g.hs b o h fun z => n (ow_cons z), g.hd, g.gg, fun b h n o => g.fr b h n fun z => o (ow_cons z), fun p z => ow_cons (g.shr p (ow_tail z))⟩
/-- a list that is nobody's own is written -/
theorem StOk.poke {l : Addr} {o : HO} (S : StOk K M G0 H0 G H σ δ) (hg : G l = none) (hn : ¬ Ow σ δ l) (h0 : H0 l = none) : StOk K M G0 H0 G (upd H l o) σ δ := by
  have same' : ∀ (H1 : Hp), H1 l = none → Same H1 H → Same H1 (upd H l o) := fun H1 n h b u q => by rw [upd_ne (ne_of_none q n)]; exact h b u q
  refine ⟨same' G hg S.gh, ⟨S.env.len, fun i s e => ?_, S.env.sep⟩, same' H0 h0 S.h0, S.g0, S.fr, S.own0, S.mt⟩
  obtain ⟨v, e1, r⟩ := S.env.at' i s e
  refine ⟨v, e1, ?_⟩
  have key : ∀ d, s.isO = true → (∃ q, v = .ref q ∧ G q = none ∧ OwnAt K G H q d) → ∃ q, v = .ref q ∧ G q = none ∧ OwnAt K G (upd H l o) q d := fun d os ⟨q, e2, e4, rr⟩ => by
    subst e2
    have ne : q ≠ l := fun z => hn (by rw [← z]; exact ⟨i, s, e, os, e1⟩)
    exact ⟨q, rfl, e4, rr.keep (upd_ne ne) (Same.refl _)⟩
  cases s with
  | val d => exact r
  | own d => exact key d rfl r
  | lnt d => exact key d rfl r
end
/-- the tests of a clause: none, or one -/
def TestsOk (X : Cx) (M : List Str) (scope : Scope) (x : Str) (ifs : List Expr) (fc : Option FT) : Prop :=
  (ifs = [] ∧ fc = none) ∨ ∃ c f, ifs = [c] ∧ fc = some f ∧ ∀ s H fp pn, DT (compCx X M scope x s H fp pn) c f
section
variable {X : Cx} {M : List Str} {scope : Scope} {x : Str} {elt iter : Expr} {ifs : List Expr} {pos px : Pos} {fs : FL} {fc : Option FT} {fe : FE}
/-- the block: the new list, the names' dict, the loop -/
theorem comp_block (c : CompOk X M scope x) (hc : X.calm = true) (ht : TestsOk X M scope x ifs fc) (he : ∀ s H fp pn, DE (compCx X M scope x s H fp pn) elt fe)
    {pins : List (Addr × Obj)} {s2 : Shared} {σ : L2.St} {ML : Nat → Option Addr} {G0 H0 G1 H1 : Hp} {δ1 : DEnv} {it : Addr} {fp : List Addr} {tn : Nat → Heap → Prop} {J : It} {ds res : List D} {δE : DEnv}
    (I : Inv X pins σ H1 s2) (T : Turn X.prog X.w X.K (.Name x px) J fp it tn) (st : tn 0 s2.heap) (hf : ∀ b ∈ fp, FpOk X pins H1 b) (S : StOk X.K ML G0 H0 G1 H1 σ δ1) (io : IterOk X.K J ds G1) (ec : compD fc fe ds [] δ1 = some (res, δE))
    {RR : Value → Addr → Result → Shared → Prop} {E : Value → Shared → Prop}
    (hR : ∀ (l C : Addr) (s' : Shared) (G' H' : Hp) (vs : List V), H1 l = none → s2.heap.objs.size ≤ C → H' C = none → (∃ m, s'.heap.Ns C m) → StOk X.K ML G0 H0 G' H' σ δE → Gr G1 H1 σ δ1 G' H' δE → H' l = some (.lst vs) → G' l = none → RepL X.K G' vs res →
      (∀ h', Heap.SameBut C s'.heap h' → Inv X pins σ H' { s' with heap := h' }) → RR (.ref l) C (.ok .next) s') :
    wpAny (model X.prog X.w) X.A (newList []) (fun acc s₃ => wpAny (model X.prog X.w) X.A (newFunctionEnv scope X.env.globals (clOf X.env.cells scope.names []) [] X.env.qual none .none (some X.env)) (fun cenv s₄ =>
      codeAny (model X.prog X.w) X.A (.compStart (.ListComp elt [⟨.Name x px, iter, ifs, 0⟩] scope pos) 0 (.ref it) acc { cenv with scope := relabel scope X.env }) (RR acc cenv.locals) s₄) E s₃) E s2 := by
  refine wpAny_newObj_type (wpAny_newFunctionEnv c.nocell (by intro y hy; simp at hy) (fun h₁ hns hsb => ?_) c.kind)
  have hl : H1 s2.heap.objs.size = none := I.fresh
  have I3 : Inv X pins σ (upd H1 s2.heap.objs.size (.lst [])) { s2 with heap := s2.heap.push { cls := .type "list", data := .seq ([] : List Value).toArray } } := I.lnew (t' := s2.toks) (ys := []) .nil (Nat.zero_le _)
  generalize hs3 : ({ s2 with heap := s2.heap.push { cls := .type "list", data := .seq ([] : List Value).toArray } } : Shared) = s3 at I3
  have e3 : s3.heap = s2.heap.push { cls := .type "list", data := .seq ([] : List Value).toArray } := by rw [← hs3]
  have hns' : h₁.Ns s3.heap.objs.size (fun _ => none) := by rw [e3]; exact hns
  have keep : ∀ b o, s3.heap.get? b = some o → h₁.get? b = some o := fun b o e => by
    have lt := Heap.lt_size e
    rw [e3] at e lt
    exact hsb.extBut b o (Nat.ne_of_lt lt) (Heap.get?_push_of_some _ e)
  have keep2 : ∀ b o, s2.heap.get? b = some o → s3.heap.get? b = some o := fun b o e => by rw [e3]; exact Heap.get?_push_of_some _ e
  have fo : ∀ b ∈ fp, ∃ o, s2.heap.get? b = some o := fun b hb => let ⟨o, e, _⟩ := T.obj 0 s2.heap st b hb; ⟨o, e⟩
  have nel : ∀ b ∈ fp, b ≠ s2.heap.objs.size := fun b hb => let ⟨o, e⟩ := fo b hb; Nat.ne_of_lt (Heap.lt_size e)
  have hf3 : ∀ b ∈ fp, FpOk X pins (upd H1 s2.heap.objs.size (.lst [])) b := fun b hb => ⟨by rw [upd_ne (nel b hb)]; exact (hf b hb).1, (hf b hb).2⟩
  have I4 := inv_comp (tk := s2.toks + ([] : List (Str × Value)).length) c I3 hf3 (fun b hb => let ⟨o, e⟩ := fo b hb; ⟨o, keep2 b o e⟩) hns' keep
  have st4 : tn 0 h₁ := T.keep 0 _ _ st fun b hb o e => keep b o (keep2 b o e)
  -- what stays of the iterator's objects
  have stat : ∀ {H' : Hp}, (∀ b ∈ fp, H' b = none) → ∀ b ∈ fp, FpOk (compCx X M scope x s3 (upd H1 s2.heap.objs.size (.lst [])) fp (X.pn ++ pins)) [] H' b := fun {H'} hn b hb => by
    refine ⟨hn b hb, (I4.ok.exf b hb).1, I4.ok.exfs b hb, .inl hb, (I4.ok.exf b hb).2, fun p hp => ?_⟩
    have hp' : p ∈ X.pn ++ pins := by simpa [compCx] using hp
    exact (hf b hb).2.2.2.2.2 p hp'
  obtain ⟨S3, g3, hg3⟩ := S.new (o := .lst []) hl
  have hl0 : H0 s2.heap.objs.size = none := Same.free S.h0 hl
  have noOw1 : ¬ Ow σ δ1 s2.heap.objs.size := S.noOw hl
  have loop : ∀ s4 : Shared, s4 = { s2 with heap := h₁, toks := s2.toks + ([] : List (Str × Value)).length } →
      codeAny (model X.prog X.w) X.A (.compLoop (.ListComp elt [⟨.Name x px, iter, ifs, 0⟩] scope pos) 0 (.ref it) (.ref s2.heap.objs.size) (compEnvC scope (clOf X.env.cells scope.names []) s3.heap.objs.size X.env)) (RR (.ref s2.heap.objs.size) s3.heap.objs.size) s4 := by
    rintro s4 rfl
    refine compLoop_own (fun n s' => ∃ (i : Nat) (ov : Option V) (G' H' : Hp) (δ' : DEnv) (vs : List V) (acc : List D), Inv (compCx X M scope x s3 (upd H1 s2.heap.objs.size (.lst [])) fp (X.pn ++ pins)) [] (ov :: σ) H' s' ∧ tn i s'.heap ∧ (∀ b ∈ fp, H' b = none) ∧ i ≤ ds.length ∧ n = ds.length - i ∧
      StOk X.K ML G1 H0 G' H' σ δ' ∧ Gr G1 H1 σ δ1 G' H' δ' ∧ H' s2.heap.objs.size = some (.lst vs) ∧ G' s2.heap.objs.size = none ∧ RepL X.K G' vs acc ∧ compD fc fe (ds.drop i) acc δ' = some (res, δE)) ?_ ds.length
      ⟨0, none, G1, _, δ1, [], [], by rw [← hs3] at I4; rw [← hs3]; exact I4, st4, fun b hb => by rw [upd_ne (nel b hb)]; exact (hf b hb).1, Nat.zero_le _, by simp, S3.rebase, g3, upd_same, hg3, .nil, by simpa using ec⟩
    rintro n s' ⟨i, ov, G', H', δ', vs, acc, I', st', fr', hi, rfl, S', g', hv, hgl, ra, ed⟩
    have noOw : ¬ Ow σ δ' s2.heap.objs.size := fun z => noOw1 (g'.shr _ z)
    by_cases hlt : i < ds.length
    · -- one more
      have hd : ds.drop i = ds[i] :: ds.drop (i + 1) := List.drop_eq_getElem_cons hlt
      rw [hd] at ed
      have go := io.go H' i (S'.g0.trans S'.gh) hlt
      refine thn (T.item (compCx X M scope x s3 (upd H1 s2.heap.objs.size (.lst [])) fp (X.pn ++ pins)) rfl rfl rfl hc i [] s' (ov :: σ) H' _ I' (stat fr') st' go) fun r s5 ⟨u, hr, h5⟩ => ?_
      subst hr
      refine thn h5 fun _ s6 ⟨y, H6, I6, r6, y6, st6, fr6⟩ => ?_
      obtain ⟨rfl, d, ed', rd⟩ := io.yld H' i y H6 (S'.g0.trans S'.gh) hlt y6
      have hde : ds[i] = d := by rw [List.getElem?_eq_getElem hlt] at ed'; exact Option.some.inj ed'
      rw [hde] at ed
      have I6' := I6.pinned (stat fr6) (T.obj _ _ st6)
      -- the name
      refine thn (pg_name (i := 0) (x := x) (pos := px) c.nd rfl (.inl (lookup_relabel_local c.xl)) (.inr (lookup_relabel_local c.xl)) ([] ++ pinsAt fp s6.heap) s6 (ov :: σ) H6 y u (fun σ2 H2 => σ2 = some y :: σ ∧ H2 = H6) I6' r6 ⟨rfl, rfl⟩) fun _ s7 ⟨σ7, H7, I7, q7⟩ => ?_
      obtain ⟨rfl, rfl⟩ := q7
      have back : ∀ {s8 : Shared} {H8 : Hp} {σ8 : L2.St}, Inv (compCx X M scope x s3 (upd H1 s2.heap.objs.size (.lst [])) fp (X.pn ++ pins)) ([] ++ pinsAt fp s6.heap) σ8 H8 s8 → tn (i + 1) s8.heap ∧ ∀ b ∈ fp, H8 b = none := fun {s8 H8 σ8} I8 => by
        refine ⟨T.keep _ _ _ st6 fun b hb o e => (I8.pin (b, o) (List.mem_append_right _ (List.mem_append_right _ (mem_pinsAt hb e)))).1, fun b hb => ?_⟩
        obtain ⟨o, e, d⟩ := T.obj _ _ st6 b hb
        exact (I8.pin (b, o) (List.mem_append_right _ (List.mem_append_right _ (mem_pinsAt hb e)))).2.1
      have S7 : StOk X.K (shM ML) G1 H0 G' H7 (some y :: σ) (some (.val d) :: δ') := S'.cons (Rep.mono S'.g0 rd)
      obtain ⟨b, δt, e1, e2⟩ : ∃ (b : Bool) (δt : DEnv), testD fc d δ' = some (Except.ok b, δt) ∧ (if b = true then (match fe δt with
          | some (.ok q, δ2) => if acc.length < sizeLine then compD fc fe (ds.drop (i + 1)) (acc ++ [q.fz]) δ2.tail else none
          | _ => none) else compD fc fe (ds.drop (i + 1)) acc δt.tail) = some (res, δE) := by
        unfold compD at ed
        split at ed
        · rename_i δ9 e9; exact ⟨true, δ9, e9, by simpa using ed⟩
        · rename_i δ9 e9; exact ⟨false, δ9, e9, by simpa using ed⟩
        · cases ed
      -- the test
      have test : wpAny (model X.prog X.w) X.A (forIn ifs true fun c r => if r = true then do let ok ← isTrue c (compEnvC scope (clOf X.env.cells scope.names []) s3.heap.objs.size X.env) (eval c (compEnvC scope (clOf X.env.cells scope.names []) s3.heap.objs.size X.env)); pure (ForInStep.yield ok) else pure (ForInStep.yield r))
          (fun ok s8 => ok = b ∧ ∃ G8 H8, Inv (compCx X M scope x s3 (upd H1 s2.heap.objs.size (.lst [])) fp (X.pn ++ pins)) ([] ++ pinsAt fp s6.heap) (some y :: σ) H8 s8 ∧ StOk X.K (shM ML) G1 H0 G8 H8 (some y :: σ) δt ∧ Gr G' H7 (some y :: σ) (some (.val d) :: δ') G8 H8 δt) (fun _ _ => False) s7 := by
        rcases ht with ⟨rfl, rfl⟩ | ⟨cn, f, rfl, rfl, hdt⟩
        · cases e1
          exact wpAny_tests_nil ⟨rfl, G', H7, I7, S7, Gr.refl ..⟩
        · obtain ⟨tt, p1, p2⟩ := hdt s3 (upd H1 s2.heap.objs.size (.lst [])) fp (X.pn ++ pins)
          refine wpAny_tests_one (thn (p1 _ s7 _ H7 (fun k H8 => k = b ∧ ∃ G8, StOk X.K (shM ML) G1 H0 G8 H8 (some y :: σ) δt ∧ Gr G' H7 (some y :: σ) (some (.val d) :: δ') G8 H8 δt) I7 (p2 (shM ML) G1 H0 G' H7 _ _ (.ok b) δt _ S7 e1 fun G8 H8 S8 g8 => ⟨rfl, G8, S8, g8⟩)) fun k s8 ⟨H8, I8, hk, G8, S8, g8⟩ => ?_)
          exact ⟨hk, G8, H8, I8, S8, g8⟩
      refine thn test fun ok s8 ⟨hok, G8, H8, I8, S8, g8⟩ => ?_
      subst hok
      have gt8 := g8.tail
      cases ok with
      | false =>
        simp only [Bool.false_eq_true, if_false] at e2 ⊢
        obtain ⟨st8, fr8⟩ := back I8
        refine ⟨ds.length - (i + 1), by omega, i + 1, some y, G8, H8, δt.tail, vs, acc, I8.unpinned, st8, fr8, hlt, rfl, S8.tail, g'.trans gt8, gt8.hs _ _ hv noOw, gt8.fr _ (by rw [hv]; simp) hgl noOw, RepL.mono g8.gg ra, e2⟩
      | true =>
        simp only [if_true] at e2 ⊢
        obtain ⟨sq, δq, e4, e5⟩ : ∃ (sq : Sl) (δq : DEnv), fe δt = some (.ok sq, δq) ∧ (if acc.length < sizeLine then compD fc fe (ds.drop (i + 1)) (acc ++ [sq.fz]) δq.tail else none) = some (res, δE) := by
          split at e2
          · rename_i q9 δ9 e9; exact ⟨q9, δ9, e9, e2⟩
          · cases e2
        split at e5
        · rename_i hsz
          obtain ⟨te, p1, p2⟩ := he s3 (upd H1 s2.heap.objs.size (.lst [])) fp (X.pn ++ pins)
          refine thn (p1 _ s8 _ H8 (fun v H9 => ∃ G9, StOk X.K (shM ML) G1 H0 G9 H9 (some y :: σ) δq ∧ Gr G8 H8 (some y :: σ) δt G9 H9 δq ∧ Rep X.K G9 v sq.fz) I8 (p2.toV (shM ML) G1 H0 G8 H8 _ _ sq δq _ S8 e4 fun v G9 H9 S9 g9 r9 => ⟨G9, S9, g9, r9⟩)) fun xv s9 ⟨v, H9, I9, r9, G9, S9, g9, rd9⟩ => ?_
          have g79 := (g8.trans g9).tail
          have hv9 : H9 s2.heap.objs.size = some (.lst vs) := g79.hs _ _ hv noOw
          have hgl9 : G9 s2.heap.objs.size = none := g79.fr _ (by rw [hv]; simp) hgl noOw
          have lenA : vs.length = acc.length := ra.len
          refine thn (mt_append _ s9 _ H9 (.ref s2.heap.objs.size) [v] (.ref s2.heap.objs.size) [xv] (fun _ H10 => H10 = upd H9 s2.heap.objs.size (.lst (vs ++ [v]))) I9 rfl (.cons r9 .nil) ⟨_, vs, v, rfl, rfl, hv9, by rw [lenA]; exact hsz, rfl⟩) fun _ s10 ⟨_, H10, I10, _, q10⟩ => ?_
          subst q10
          obtain ⟨st10, fr10⟩ := back I10
          have gA : Gr G1 H1 σ δ1 G9 (upd H9 s2.heap.objs.size (.lst (vs ++ [v]))) δq.tail := by
            have g := g'.trans g79
            refine ⟨fun b o q n => ?_, fun b n => ?_, g.gg, g.fr, g.shr⟩
            · rw [upd_ne (ne_of_none q hl)]
              exact g.hs b o q n
            · by_cases hb : b = s2.heap.objs.size
              · subst hb; exact absurd hl n
              · rw [upd_ne hb]; exact g.hd b n
          refine ⟨ds.length - (i + 1), by omega, i + 1, some y, G9, _, δq.tail, vs ++ [v], acc ++ [sq.fz], I10.unpinned, st10, fr10, hlt, rfl,
            S9.tail.poke hgl9 (fun z => noOw1 (gA.shr _ z)) hl0, gA, upd_same, hgl9, (RepL.mono (g8.gg.trans g9.gg) ra).app (.cons rd9 .nil), e5⟩
        · cases e5
    · -- the end
      have he' : i = ds.length := by omega
      subst he'
      rw [List.drop_length] at ed
      cases ed
      refine thn (T.done (compCx X M scope x s3 (upd H1 s2.heap.objs.size (.lst [])) fp (X.pn ++ pins)) rfl rfl rfl hc ds.length [] s' (ov :: σ) H' _ I' (stat fr') st' (io.stop H' (S'.g0.trans S'.gh))) fun r s5 ⟨hr, I5⟩ => ?_
      subst hr
      have up : StOk X.K ML G0 H0 G' H' σ δE := S.unbase S'
      refine hR _ _ s5 G' H' vs hl (by rw [e3, Heap.size_push]; exact Nat.le_succ _) I5.free ?_ up g' hv hgl ra fun h' hsb' => inv_back I3 hf3 I5 hsb'
      obtain ⟨m, hn, _⟩ := I5.loc
      exact ⟨m, hn⟩
  show codeAny (model X.prog X.w) X.A (.compStart (.ListComp elt [⟨.Name x px, iter, ifs, 0⟩] scope pos) 0 (.ref it) (.ref s2.heap.objs.size) (compEnvC scope (clOf X.env.cells scope.names []) s3.heap.objs.size X.env)) (RR (.ref s2.heap.objs.size) s3.heap.objs.size) _
  exact codeAny_compStart_list (loop _ (by rw [← hs3])) (T.self _ 0 _ _ _ st4 (loop _ (by rw [← hs3])))
end
end L4

namespace L4
open PySem PySem.Spec PyProof.Rows L2
section
variable {X : Cx} {M : List Str} {scope : Scope} {x : Str} {elt iter : Expr} {ifs : List Expr} {pos px : Pos} {fs : FL} {fc : Option FT} {fe : FE}
theorem de_comp (c : CompOk X M scope x) (hc : X.calm = true) (src : DI X (.Name x px) iter fs) (ht : TestsOk X M scope x ifs fc) (he : ∀ s H fp pn, DE (compCx X M scope x s H fp pn) elt fe) (hs : ∀ y, foldedSetIterable iter X.env y = pure y := by intro _; rfl) :
    DE X (.ListComp elt [⟨.Name x px, iter, ifs, 0⟩] scope pos) (fComp fs fc fe) := by
  refine ⟨fun σ H Q => ∀ pins s, Inv X pins σ H s → wpAny (model X.prog X.w) X.A (eval (.ListComp elt [⟨.Name x px, iter, ifs, 0⟩] scope pos) X.env) (EP X pins σ Q) X.xe s, fun pins s σ H Q I h => h pins s I, ?_⟩
  intro ML G0 H0 G H σ δ sl δ' Q S e k pins s I
  obtain ⟨wi, hi, si⟩ := src
  rcases Rs.inv e with ⟨ds, δ1, e1, e⟩ | ⟨x', e1, rfl⟩
  rotate_left
  · rw [eval_ListComp]
    exact wpAny_comprehension_free (use := none) rfl hs (closure_eq (c.cells I.ok)) c.kind c.names
      (thn (hi pins s σ H (fun _ _ => False) I (si ML G0 H0 G H σ δ (.error x') _ _ S e1 k)) fun v s1 h1 => thn h1 fun itv s2 h2 => by
        obtain ⟨_, _, _, _, _, _, _, _, _, _, z⟩ := h2; exact z.elim)
  obtain ⟨res, δ2, e2, e⟩ : ∃ (res : List D) (δ2 : DEnv), compD fc fe ds [] δ1 = some (res, δ2) ∧ some (Except.ok (Sl.own (.lst res)), δ2) = some (sl, δ') := by
    split at e
    · rename_i r9 δ9 e9; exact ⟨r9, δ9, e9, e⟩
    · cases e
  cases e
  rw [eval_ListComp]
  refine wpAny_comprehension_free (use := none) rfl hs (closure_eq (c.cells I.ok)) c.kind c.names
    (thn (hi pins s σ H (fun J H1 => ∃ G1, StOk X.K ML G0 H0 G1 H1 σ δ1 ∧ Gr G H σ δ G1 H1 δ1 ∧ IterOk X.K J ds G1) I (si ML G0 H0 G H σ δ (.ok ds) δ1 _ S e1 fun J G1 H1 S1 g1 io => ⟨G1, S1, g1, io⟩)) fun v s1 h1 => thn h1 fun itv s2 h2 => ?_)
  obtain ⟨it, fp, tn, J, H1, rfl, I2, T, st2, f2, G1, S1, g1, io⟩ := h2
  refine comp_block (RR := fun acc C => compPost (model X.prog X.w) X.A X.xe none (EP X pins σ Q) acc C) c hc ht he I2 T st2 f2 S1 io e2 ?_
  intro l C s' G' H' vs hl _ _ hm S' g' hv hgl ra back
  obtain ⟨m, hn⟩ := hm
  refine ⟨m, hn, fun h' hsb => ⟨.ref l, H', back h' hsb, rfl, k _ G' H' S' (g1.trans g') ⟨⟨l, rfl, hgl, vs, hv, ra⟩, fun _ => ⟨⟨_, rfl⟩, l, rfl, g1.free hl⟩⟩⟩⟩
/-- name = [ .. for .. ] -/
theorem ds_setcomp {i : Nat} {y : Str} {py spos : Pos} (hN : X.N.Nodup) (hi : X.N[i]? = some y) (hy : Loc X.env.scope y) (c : CompOk X M scope x) (hc : X.calm = true) (src : DI X (.Name x px) iter fs) (ht : TestsOk X M scope x ifs fc) (he : ∀ s H fp pn, DE (compCx X M scope x s H fp pn) elt fe)
    (hsw : swapsWith (.ListComp elt [⟨.Name x px, iter, ifs, 0⟩] scope pos) (some (.Name y py)) spos.line X.env = pure true := by rfl) (hs : ∀ y, foldedSetIterable iter X.env y = pure y := by intro _; rfl)
    (hf : X.fn y = true ∨ X.env.scope.names.lookup y = some .local := by first | exact .inl rfl | exact .inr rfl | assumption) :
    DS X (.Assign [.Name y py] (.ListComp elt [⟨.Name x px, iter, ifs, 0⟩] scope pos) spos) (fAsg i (fComp fs fc fe)) := by
  refine ⟨fun E σ H => ∀ pins s, Inv X pins σ H s → wpAny (model X.prog X.w) X.A (exec (.Assign [.Name y py] (.ListComp elt [⟨.Name x px, iter, ifs, 0⟩] scope pos) spos) X.env) (SP X pins E) X.xe s, fun pins s σ H E I h => h pins s I, ?_⟩
  intro ML G0 H0 G H σ δ o E S e k pins s I
  obtain ⟨wi, hw, si⟩ := src
  rw [exec_Assign_Name_used _ _ _ _ hsw]
  rcases thenS_inv e with ⟨sl, δ', ez, e⟩ | ⟨x', δ', ez, rfl⟩
  rotate_left
  · rcases Rs.inv ez with ⟨ds, δ1, e1, ey⟩ | ⟨x'', e1, ex⟩
    · split at ey <;> cases ey
    · cases ex
      refine wpAny_bind (wpAny_standAt (wpAny_bind ?_))
      show wpAny _ X.A (do let _ ← comprehension (.ListComp elt [⟨.Name x px, iter, ifs, 0⟩] scope pos) scope X.env _ (newList []) false (eval iter X.env) (some (assign (.Name y py) X.env))) _ _ s
      exact wpAny_bind (wpAny_mono (wpAny_comprehension_free (use := some (assign (.Name y py) X.env)) (Q := fun _ s' => SP X pins E .next s') rfl hs (closure_eq (c.cells I.ok)) c.kind c.names
        (thn (hw pins s σ H (fun _ _ => False) I (si ML G0 H0 G H σ δ (.error x') _ _ S e1 k.toX)) fun v s1 h1 => thn h1 fun itv s2 h2 => by
          obtain ⟨_, _, _, _, _, _, _, _, _, _, z⟩ := h2; exact z.elim)) (fun _ s' hq => wpAny_pure (wpAny_pure hq)) fun _ _ e => e)
  cases e
  rcases Rs.inv ez with ⟨ds, δ1, e1, ey⟩ | ⟨x'', e1, ex⟩
  rotate_left
  · cases ex
  obtain ⟨res, δ2, e2, ex⟩ : ∃ (res : List D) (δ2 : DEnv), compD fc fe ds [] δ1 = some (res, δ2) ∧ some (Except.ok (ε := XD) (Sl.own (.lst res)), δ2) = some (Except.ok sl, δ') := by
    split at ey
    · rename_i r9 δ9 e9; exact ⟨r9, δ9, e9, ey⟩
    · cases ey
  cases ex
  refine wpAny_bind (wpAny_standAt (wpAny_bind ?_))
  show wpAny _ X.A (do let _ ← comprehension (.ListComp elt [⟨.Name x px, iter, ifs, 0⟩] scope pos) scope X.env _ (newList []) false (eval iter X.env) (some (assign (.Name y py) X.env))) _ _ s
  refine wpAny_bind (wpAny_mono (wpAny_comprehension_free (use := some (assign (.Name y py) X.env)) (Q := fun _ s' => SP X pins E .next s') rfl hs (closure_eq (c.cells I.ok)) c.kind c.names
    (thn (hw pins s σ H (fun J H1 => ∃ G1, StOk X.K ML G0 H0 G1 H1 σ δ1 ∧ Gr G H σ δ G1 H1 δ1 ∧ IterOk X.K J ds G1) I (si ML G0 H0 G H σ δ (.ok ds) δ1 _ S e1 fun J G1 H1 S1 g1 io => ⟨G1, S1, g1, io⟩)) fun v s1 h1 => thn h1 fun itv s2 h2 => ?_)) (fun _ s' hq => wpAny_pure (wpAny_pure hq)) fun _ _ e => e)
  obtain ⟨it, fp, tn, J, H1, rfl, I2, T, st2, f2, G1, S1, g1, io⟩ := h2
  refine comp_block (RR := fun acc C => compPost (model X.prog X.w) X.A X.xe (some (assign (.Name y py) X.env)) (fun _ s' => SP X pins E .next s') acc C) c hc ht he I2 T st2 f2 S1 io e2 ?_
  intro l C s' G' H' vs hl hC hHC hm S' g' hv hgl ra back
  obtain ⟨m, hn⟩ := hm
  have I' : Inv X pins σ H' s' := by
    have := back s'.heap ⟨rfl, fun _ _ => rfl⟩
    exact this
  show wpAny _ X.A (assign (.Name y py) X.env (.ref l)) _ _ _
  have neL : C ≠ X.env.locals := Nat.ne_of_gt (Nat.lt_of_lt_of_le I2.lt hC)
  have neC : ∀ z a, X.env.cells.lookup z = some a → a ≠ C := fun z a e w => by
    obtain ⟨v, q⟩ := I2.cell z a e
    exact absurd (Nat.lt_of_lt_of_le q.lt (by rw [w]; exact hC)) (Nat.lt_irrefl _)
  refine wpAny_assign_Name (store_ok2 I' hN hi hy (v := .ref l) rfl (fun s'' I'' hsame => ?_) hf)
  obtain ⟨a, hsa, ha⟩ := hsame
  have neA : C ≠ a := by
    rcases ha with rfl | ha
    · exact neL
    · exact fun z => neC _ _ ha z.symm
  refine ⟨m, hn.sameBut hsa neA, fun h' hsb => ?_⟩
  have I3 : Inv X pins (σ.set i (some (.ref l))) H' { s'' with heap := h', toks := s''.toks } := I''.turned (t' := s''.toks) (it := C) (fun b o hb e => (hsb.2 b hb).trans e) hHC neL (.inr (Nat.le_trans I2.sz hC)) neC fun p hp => by
    have := (I2.pin p hp).1
    exact Nat.ne_of_lt (Nat.lt_of_lt_of_le (Heap.lt_size this) hC)
  have gA := g1.trans g'
  have hl' : H l = none := g1.free hl
  exact ⟨_, H', I3, k _ G' H' (S'.set i (s := .own (.lst res)) ⟨l, rfl, hgl, vs, hv, ra⟩ fun _ => ⟨⟨_, rfl⟩, l, rfl, Same.free S.h0 hl', fun z => S.noOw hl' (gA.shr _ z)⟩)⟩
theorem tests_no : TestsOk X M scope x [] none := .inl ⟨rfl, rfl⟩
theorem tests_one {cn : Expr} {f : FT} (h : ∀ s H fp pn, DT (compCx X M scope x s H fp pn) cn f) : TestsOk X M scope x [cn] (some f) := .inr ⟨cn, f, rfl, rfl, h⟩
end
end L4

namespace L4
open PySem PySem.Spec PyProof.Rows L2
/-! ### a text walked sign by sign -/
def Its (z : Str) : It := ⟨fun i _ => i < z.cps.size, fun i H x H' => H' = H ∧ ∃ c, z.cps[i]? = some c ∧ x = .str ⟨#[c]⟩, fun i _ => z.cps.size ≤ i⟩
theorem str_walks {prog : Program} {w : World} {A : Around} {ty : String} (hty : ty = "str_ascii_iterator" ∨ ty = "str_iterator") (hh : A.handled = none) (I : Addr) (x : Str) (t : Tok) :
    Walks prog w A I [I] [I] x.cps.size (SignAt x) (fun i h => h.IsStrIter I ty x t i) := by
  rcases hty with rfl | rfl
  · exact Walks.strAscii hh I x t
  · exact Walks.strWide hh I x t
theorem turn_str {P : Program} {w : World} {K : PySem.W.Frag} {tg : Expr} {ty : String} (hty : ty = "str_ascii_iterator" ∨ ty = "str_iterator") (z : Str) (t : Tok) (it : Addr) : Turn P w K tg (Its z) [it] it (fun i h => h.IsStrIter it ty z t i) where
  mem := by simp
  obj := fun i h st b hb => by
    have e : b = it := by simpa using hb
    subst e
    obtain ⟨o, e, c, d⟩ := st
    exact ⟨o, e, fun v z => by rw [d] at z; cases z⟩
  keep := fun i h h' st k => let ⟨o, ho, r⟩ := st; ⟨o, k it (by simp) o ho, r⟩
  item := by
    intro X hP hw hK hc i pins s σ H E I hf st hg
    subst hP hw hK
    obtain ⟨f0, f1, f2, f3, f4, f5⟩ := hf it (by simp)
    refine (str_walks hty (I.ok.hd hc) it z t).item i s _ E hg st fun v h' tk hP st' hk => ?_
    obtain ⟨c, u, hc', rfl⟩ := hP
    have I1 : Inv X pins σ H { s with heap := h', toks := tk } := I.turned (t' := tk) (fun b o hb e => hk b o (by simpa using hb) e) f0 f1 f3 f4 f5
    obtain ⟨o, e, c2, d⟩ := id st'
    refine ⟨_, rfl, go_of (s := { s with heap := h', toks := tk }) e c2 d (by rcases hty with rfl | rfl <;> decide) ⟨.str ⟨#[c]⟩, H, I1, ⟨u, rfl⟩, ⟨rfl, c, hc', rfl⟩, st', fun b hb => (hf b hb).1⟩⟩
  done := by
    intro X hP hw hK hc i pins s σ H E I hf st hg
    subst hP hw hK
    obtain ⟨f0, f1, f2, f3, f4, f5⟩ := hf it (by simp)
    have hg' : z.cps.size ≤ i := hg
    rcases hty with rfl | rfl
    · exact wpAny_pyNext_ascii_end (I.ok.hd hc) st (by simp; exact hg') fun h' he' => ⟨rfl, I.turned (t' := s.toks) (fun b o hb e => he' b o hb e) f0 f1 f3 f4 f5⟩
    · exact wpAny_pyNext_wide_end (I.ok.hd hc) st (by simp; exact hg') fun h' he' => ⟨rfl, I.turned (t' := s.toks) (fun b o hb e => he' b o hb e) f0 f1 f3 f4 f5⟩
  self := fun A i s Q E st h => by
    rcases hty with rfl | rfl
    · exact wpAny_pyIter_striter_ascii st h
    · exact wpAny_pyIter_striter_wide st h
/-- a list, a tuple or a text -/
def iAny (K : PySem.W.Frag) (tl : TE) : TI := fun σ H R => tl σ H fun x H1 => (∃ a, x = .ref a ∧ (∃ xs, SqL K H1 a xs) ∧ R (Itl K a) H1) ∨ (∃ a, x = .ref a ∧ (∃ xs, SqT K H1 a xs) ∧ R (Itt K a) H1) ∨ ∃ z, x = .str z ∧ R (Its z) H1
section
variable {X : Cx} {tg : Expr}
theorem pi_any {l : Expr} {tl : TE} (hl : PE X l tl) : PI X tg l (iAny X.K tl) := by
  intro pins s σ H R I h
  refine thn (hl pins s σ H _ I h) fun v s1 ⟨x, H1, I1, r1, q1⟩ => ?_
  have fin : ∀ b ∈ [s1.heap.objs.size], FpOk X pins H1 b := fun b hb => by
    have e : b = s1.heap.objs.size := by simpa using hb
    subst e
    exact I1.fpOk (Nat.le_refl _) (I1.hok.fresh (Nat.le_refl _))
  rcases q1 with ⟨a, e, ⟨xs, hq⟩, q⟩ | ⟨a, e, ⟨xs, hq⟩, q⟩ | ⟨z, e, q⟩
  · subst e
    cases r1
    obtain ⟨its, rv, p, hz⟩ := I1.list hq
    refine wpAny_pyIter_list p.isList ?_
    exact ⟨s1.heap.objs.size, [s1.heap.objs.size], _, _, H1, rfl, I1.kept (t' := s1.toks) fun b o e => Heap.get?_push_of_some _ e, turn_list a _, ⟨_, Heap.get?_push_size _ rfl, rfl, rfl⟩, fin, q⟩
  · subst e
    cases r1
    obtain ⟨its, rv, p, hz⟩ := I1.tuple hq
    refine wpAny_pyIter_tuple (show s1.heap.IsTuple a its.toArray from p) ?_
    exact ⟨s1.heap.objs.size, [s1.heap.objs.size], _, _, H1, rfl, I1.kept (t' := s1.toks) fun b o e => Heap.get?_push_of_some _ e, turn_tuple a _, ⟨_, Heap.get?_push_size _ rfl, rfl, rfl⟩, fin, q⟩
  · subst e
    obtain ⟨t, rfl⟩ := r1
    cases ha : z.cps.all (· < 128)
    · exact wpAny_pyIter_wide ha ⟨s1.heap.objs.size, [s1.heap.objs.size], _, _, H1, rfl, I1.kept (t' := s1.toks) fun b o e => Heap.get?_push_of_some _ e, turn_str (.inr rfl) z t _, ⟨_, Heap.get?_push_size _ rfl, rfl, rfl⟩, fin, q⟩
    · exact wpAny_pyIter_ascii ha ⟨s1.heap.objs.size, [s1.heap.objs.size], _, _, H1, rfl, I1.kept (t' := s1.toks) fun b o e => Heap.get?_push_of_some _ e, turn_str (.inl rfl) z t _, ⟨_, Heap.get?_push_size _ rfl, rfl, rfl⟩, fin, q⟩
end
def signsD (z : Str) : List D := z.cps.toList.map fun c => D.str ⟨#[c]⟩
def itemsD : D → Option (List D)
  | .lst ds => some ds
  | .tup ds => some ds
  | .str z => some (signsD z)
  | _ => none
def fItA (f : FE) : FL := fun δ => (f δ).bind fun p δ => lift (itemsD p.fz) δ
theorem snd_iAny {X : Cx} {te : TE} {fe : FE} (he : SndE X te fe) : SndI X (iAny X.K te) (fItA fe) := by
  intro M G0 H0 G H σ δ q δ' R S e k
  rcases Rs.inv e with ⟨s, δ1, e1, e⟩ | ⟨x, e1, rfl⟩
  rotate_left
  · exact he M G0 H0 G H σ δ _ _ _ S e1 k
  obtain ⟨ds, e2, rfl, rfl⟩ := lift_inv e
  refine he.toV M G0 H0 G H σ δ s _ _ S e1 fun x G1 H1 S1 g1 r1 => ?_
  cases hd : s.fz with
  | lst es =>
    rw [hd] at e2 r1; cases e2
    obtain ⟨a, vs, rfl, hq, r⟩ := rep_lst r1
    refine .inl ⟨a, rfl, ⟨vs, (same_ls S1.gh hq).sq⟩, k _ G1 H1 S1 g1 ⟨fun H' i hh hi => ?_, fun H' i x H'' hh hi y => ?_, fun H' hh => ⟨vs, (same_ls hh hq).sq, by rw [r.len]; exact Nat.le_refl _⟩⟩⟩
    · have hv : i < vs.length := by rw [r.len]; exact hi
      exact ⟨vs, vs[i], (same_ls hh hq).sq, List.getElem?_eq_getElem hv⟩
    · obtain ⟨e, y⟩ := y
      obtain ⟨d, e1, e2⟩ := r.atV (y vs (same_ls hh hq).sq)
      exact ⟨e, d, e1, e2⟩
  | tup es =>
    rw [hd] at e2 r1; cases e2
    obtain ⟨a, vs, rfl, hq, r⟩ := rep_tup r1
    refine .inr (.inl ⟨a, rfl, ⟨vs, same_sqT S1.gh hq⟩, k _ G1 H1 S1 g1 ⟨fun H' i hh hi => ?_, fun H' i x H'' hh hi y => ?_, fun H' hh => ⟨vs, same_sqT hh hq, by rw [r.len]; exact Nat.le_refl _⟩⟩⟩)
    · have hv : i < vs.length := by rw [r.len]; exact hi
      exact ⟨vs, vs[i], same_sqT hh hq, List.getElem?_eq_getElem hv⟩
    · obtain ⟨e, y⟩ := y
      obtain ⟨d, e1, e2⟩ := r.atV (y vs (same_sqT hh hq))
      exact ⟨e, d, e1, e2⟩
  | str z =>
    rw [hd] at e2 r1; cases e2
    cases rep_str r1
    have hl : (signsD z).length = z.cps.size := by simp [signsD]
    refine .inr (.inr ⟨z, rfl, k _ G1 H1 S1 g1 ⟨fun H' i hh hi => by rw [hl] at hi; exact hi, fun H' i x H'' hh hi y => ?_, fun H' hh => by rw [hl]; exact Nat.le_refl _⟩⟩)
    obtain ⟨e, c, hc, rfl⟩ := y
    refine ⟨e, D.str ⟨#[c]⟩, ?_, .str _⟩
    unfold signsD
    rw [List.getElem?_map]
    have : z.cps.toList[i]? = some c := by simpa using hc
    rw [this]; rfl
  | non => rw [hd] at e2; cases e2
  | bl _ => rw [hd] at e2; cases e2
  | int _ => rw [hd] at e2; cases e2
  | ty _ => rw [hd] at e2; cases e2
  | dct _ _ => rw [hd] at e2; cases e2
theorem di_any {X : Cx} {tg iter : Expr} {fe : FE} (h : DE X iter fe) : DI X tg iter (fItA fe) := let ⟨_, a1, a2⟩ := h; ⟨_, pi_any a1, snd_iAny a2⟩
/-! ### texts: slices, int(text), index -/
theorem part_of {v : Value} {o : Option Int} (h : IsPart v o) : ∃ l : Option (Int × Tok), v = partValue l ∧ l.map (·.1) = o := by
  cases h with
  | none => exact ⟨none, rfl, rfl⟩
  | int i t => exact ⟨some (i, t), rfl, rfl⟩
/-- the signs of z[lo:hi], as the model picks them -/
def cutS (z : Str) (lo hi : Option Int) : Str := if (Builtin.Str.strSliceIndices lo hi 1 z.length).length = z.length then z else ⟨((Builtin.Str.strSliceIndices lo hi 1 z.length).filterMap (z.cps[·]?)).toArray⟩
theorem sl_str {X : Cx} : SlR X (fun x lo hi H Q => ∃ z, x = .str z ∧ (cutS z lo hi).length ≤ sizeLine ∧ Q (.str (cutS z lo hi)) H) := by
  intro pins s σ H x v vl vu lo hi sl Q I rx hs pl pu h
  obtain ⟨z, rfl, hz, q⟩ := h
  obtain ⟨t, rfl⟩ := rx
  obtain ⟨l, rfl, rfl⟩ := part_of pl
  obtain ⟨u, rfl, rfl⟩ := part_of pu
  refine ⟨"str", _, F.slot_str_getitem.lookup, typeIs_str _ z t, wpAny_getItem_str_slice (l := l) (u := u) (st := none) ?_ rfl ?_⟩
  · obtain ⟨o, h1, h2, h3⟩ := hs
    exact ⟨o, h1, h2, h3⟩
  · unfold sliceMade slicePicked
    have e1 : ((Option.map (fun x => x.1) (none : Option (Int × Tok))).getD 1) = 1 := rfl
    rw [e1]
    by_cases hw : (Builtin.Str.strSliceIndices (l.map (·.1)) (u.map (·.1)) 1 z.length).length = z.length
    · rw [if_pos (by simp [hw])]
      refine ⟨.str z, H, I, ⟨t, rfl⟩, ?_⟩
      unfold cutS at q
      rw [if_pos hw] at q
      exact q
    · rw [if_neg (by simp [hw])]
      unfold cutS at q hz
      rw [if_neg hw] at q hz
      exact ⟨hz, .str _, H, I.tok _, ⟨_, rfl⟩, q⟩
def slSD (d : D) (lo hi : Option Int) : Option Sl := match d with
  | .lst ds => some (.own (.lst (cutD ds lo hi)))
  | .str z => if (cutS z lo hi).length ≤ sizeLine then some (.val (.str (cutS z lo hi))) else none
  | .tup ds => if ¬ (HT.sIx ds.length 0 lo = 0 ∧ HT.sIx ds.length ds.length hi = ds.length) then some (.val (.tup (cutD ds lo hi))) else none
  | _ => none
theorem s_any {K : PySem.W.Frag} : SndSl K (fun x lo hi H Q => rSlL K x lo hi H Q ∨ rSlT K x lo hi H Q ∨ ∃ z, x = .str z ∧ (cutS z lo hi).length ≤ sizeLine ∧ Q (.str (cutS z lo hi)) H) slSD := by
  intro M G0 H0 G H σ δ x d lo hi s Q S r e k
  unfold slSD at e
  split at e
  · cases e
    obtain ⟨l, xs, rfl, q1, l1⟩ := rep_lst r
    refine .inl ⟨l, xs, rfl, (same_ls S.gh q1).sq, fun p hp => ?_⟩
    obtain ⟨S2, g2, r⟩ := S.newLst hp (l1.cut lo hi)
    exact k _ _ _ S2 g2 r
  · split at e
    · rename_i hz
      cases e
      cases rep_str r
      exact .inr (.inr ⟨_, rfl, hz, k _ G H S (Gr.refl ..) (.val (.str _))⟩)
    · cases e
  · split at e
    · rename_i hw
      cases e
      obtain ⟨l, xs, rfl, q1, l1⟩ := rep_tup r
      refine .inr (.inl ⟨l, xs, rfl, same_sqT S.gh q1, by rw [l1.len]; exact hw, fun p hp => ?_⟩)
      obtain ⟨S2, g2, r⟩ := S.newTup hp (l1.cut lo hi)
      exact k _ _ _ S2 g2 r
    · cases e
  · cases e
section
variable {X : Cx} {e : Expr} {es : List Expr} {f1 : FE} {fl : FL} {pos p : Pos}
theorem de_slS {lo hi : Option Expr} {fl fh : FO} {p2 : Pos} (ha : DE X e f1) (hl : DP X lo fl) (hh : DP X hi fh) : DE X (.Subscript e (.Slice lo hi none p2) pos) (fSl slSD f1 fl fh) :=
  let ⟨_, a1, a2⟩ := ha; let ⟨_, b1, b2⟩ := hl; let ⟨_, y1, y2⟩ := hh; ⟨_, pe_slice (sl_list.or (sl_tup.or sl_str)) a1 b1 y1, snd_sl s_any a2 b2 y2⟩
theorem call_intS : CallR X (.type "int") (fun xs H Q => ∃ z n, xs = [.str z] ∧ intText? z = some n ∧ z.length ≤ 640 ∧ Q (.int n) H) := by
  intro pins s σ H xs us Q I r h
  obtain ⟨z, n, rfl, hn, hl, q⟩ := h
  obtain ⟨u, rfl, t, rfl⟩ := vals1 r
  exact PySem.W.KIN.call_text hn hl ⟨.int n, H, I.tok _, ⟨_, rfl⟩, q⟩
end
end L4

namespace L4
open PySem PySem.Spec PyProof.Rows L2
/-! ### methods of a text -/
def fMethS (g : Str → List D → Option Sl) (f : FE) (fl : FL) : FE := fun δ => (f δ).bind fun p δ => match p.fz with
  | .str z => (fl δ).bind fun q δ => lift (g z q) δ
  | _ => none
def SndMS (K : PySem.W.Frag) (r : V → List V → Hp → VK → Prop) (g : Str → List D → Option Sl) : Prop := ∀ (M : Nat → Option Addr) (G0 H0 G H : Hp) (σ : L2.St) (δ : DEnv) (z : Str) (xs : List V) (ds : List D) (s : Sl) (Q : VK), StOk K M G0 H0 G H σ δ → RepL K G xs ds → g z ds = some s →
  (∀ v G' H', StOk K M G0 H0 G' H' σ δ → Gr G H σ δ G' H' δ → RepR K H G' H' v s → Q v H') → r (.str z) xs H Q
theorem snd_methS {X : Cx} {to : TE} {t : TA} {fo : FE} {fl : FL} {r : V → List V → Hp → VK → Prop} {g : Str → List D → Option Sl} (hr : SndMS X.K r g) (ho : SndE X to fo) (ha : SndL X t fl) : SndE X (tBM X.K "str" r to t) (fMethS g fo fl) := by
  intro M G0 H0 G H σ δ q δ' Q S e k
  rcases Rs.inv e with ⟨s1, δ1, e1, e⟩ | ⟨x, e1, rfl⟩
  · refine ho.toV M G0 H0 G H σ δ s1 δ1 _ S e1 fun x G1 H1 S1 g1 r1 => ?_
    split at e
    · rename_i z hz
      rw [hz] at r1
      cases rep_str r1
      refine ⟨rfl, ?_⟩
      rcases Rs.inv e with ⟨ds, δ2, e2, e⟩ | ⟨x, e2, rfl⟩
      · obtain ⟨s3, e3, rfl, rfl⟩ := lift_inv e
        refine ha M G0 H0 G1 H1 σ δ1 (.ok ds) _ _ S1 e2 fun xs G2 H2 S2 g2 r2 => ?_
        exact hr M G0 H0 G2 H2 σ _ z xs ds s3 Q S2 r2 e3 fun v G3 H3 S3 g3 r3 => k v G3 H3 S3 (g1.trans (g2.trans g3)) (r3.back (g1.trans g2))
      · exact ha M G0 H0 G1 H1 σ δ1 _ _ _ S1 e2 (PostX.after g1 k)
    · cases e
  · exact ho M G0 H0 G H σ δ _ _ _ S e1 k
def indexD (z : Str) (ds : List D) : Option Sl := match ds with
  | [.str y] => match Builtin.Str.occurrences z y 0 z.length 1 with | i :: _ => some (.val (.int (i : Nat))) | [] => none
  | _ => none
def rIndexS : V → List V → Hp → VK → Prop := fun x vs H Q => ∃ z y i rest, x = .str z ∧ vs = [.str y] ∧ Builtin.Str.occurrences z y 0 z.length 1 = i :: rest ∧ Q (.int (i : Nat)) H
theorem mt_indexS {X : Cx} : MtR X "str.index" rIndexS := by
  intro pins s σ H x xs v us Q I rx rv h
  obtain ⟨z, y, i, rest, rfl, rfl, ho, q⟩ := h
  obtain ⟨t, rfl⟩ := rx
  obtain ⟨u, rfl, t', rfl⟩ := vals1 rv
  refine call_meets F.slot_str_index (typeIs_str _ z t) F.entry_str_index (F.args_str_index_2 _ _) (gives_str_index z y t t' i rest ho).meets ?_
  exact ⟨.int (i : Nat), H, I.tok _, ⟨_, rfl⟩, q⟩
theorem m_indexS {K : PySem.W.Frag} : SndMS K rIndexS indexD := by
  intro M G0 H0 G H σ δ z xs ds s Q S r e k
  unfold indexD at e
  split at e
  · rename_i y
    split at e
    · rename_i i rest ho
      cases e
      obtain ⟨x, rfl, rx⟩ := repL1 r
      cases rep_str rx
      exact ⟨z, y, i, rest, rfl, rfl, ho, k _ G H S (Gr.refl ..) (.val (.int _))⟩
    · cases e
  · cases e
/-! ### all, any of a list of bools -/
def blsOf : List D → Option (List Bool)
  | [] => some []
  | .bl b :: r => (blsOf r).map (b :: ·)
  | _ => none
theorem rep_bls {K : PySem.W.Frag} {G : Hp} : ∀ {vs : List V} {ds : List D} {bs : List Bool}, RepL K G vs ds → blsOf ds = some bs → vs = bs.map V.bl
  | _, _, _, .nil, e => by cases e; rfl
  | _, _, _, .cons h r, e => by
    rename_i v vs d ds
    cases d with
    | bl b =>
      obtain ⟨bs, e1, e2⟩ := Option.map_eq_some_iff.mp (show (blsOf ds).map (b :: ·) = some _ from e)
      subst e2
      rw [rep_bl h, rep_bls r e1]
      rfl
    | _ => cases e
theorem truth_bools {prog : Program} {w : World} {A : Around} {bs : List Bool} {items : Array Value} (h : Vals (bs.map V.bl) items.toList) : TruthOf prog w A (fun i v => items[i]? = some v) (fun i => bs.getD i false) := by
  intro i v s Q E hv hQ
  have hv' : items.toList[i]? = some v := by simpa using hv
  have hi : i < bs.length := by
    have h1 := h.length
    have h2 := (List.getElem?_eq_some_iff.mp hv').1
    rw [List.length_map] at h1
    omega
  obtain ⟨u, e1, e2⟩ := h.get (i := i) (x := V.bl bs[i]) (by simp [hi])
  rw [hv'] at e1
  cases e1
  cases e2
  refine wpAny_truthy_bool ?_
  have hQ' : Q (bs.getD i false) s := hQ
  rw [show bs.getD i false = bs[i] from by simp [List.getD, hi]] at hQ'
  exact hQ'
theorem all_range (bs : List Bool) : ((List.range bs.length).all fun i => bs.getD i false) = bs.all id := by
  induction bs with
  | nil => rfl
  | cons b r ih =>
    rw [List.length_cons, List.range_succ_eq_map, List.all_cons, List.all_map, List.all_cons]
    have : ((fun i => (b :: r).getD i false) ∘ Nat.succ) = fun i => r.getD i false := by funext i; simp [List.getD]
    rw [this, ih]
    rfl
theorem any_range (bs : List Bool) : ((List.range bs.length).any fun i => bs.getD i false) = bs.any id := by
  induction bs with
  | nil => rfl
  | cons b r ih =>
    rw [List.length_cons, List.range_succ_eq_map, List.any_cons, List.any_map, List.any_cons]
    have : ((fun i => (b :: r).getD i false) ∘ Nat.succ) = fun i => r.getD i false := by funext i; simp [List.getD]
    rw [this, ih]
    rfl
def rAll (K : PySem.W.Frag) (f : List Bool → Bool) : List V → Hp → VK → Prop := fun xs H Q => ∃ a bs, xs = [.ref a] ∧ LsK K H a (bs.map V.bl) ∧ Q (.bl (f bs)) H
theorem call_all {X : Cx} (hc : X.calm = true) : CallR X (.builtin "all") (rAll X.K fun bs => bs.all id) := by
  intro pins s σ H xs us Q I r h
  obtain ⟨a, bs, rfl, hl, q⟩ := h
  obtain ⟨u, rfl, ru⟩ := vals1 r
  cases ru
  obtain ⟨hz, its, n, rv, hlen, ho⟩ := Inv.lstR I hl
  have hL : s.heap.IsList a its.toArray := ⟨_, ho, rfl, n, rfl⟩
  refine call_all_walk (wpAny_pyIter_list hL ?_)
  have hne : a ≠ s.heap.objs.size := Nat.ne_of_lt (Heap.lt_size ho)
  have hh : X.A.in1.handled = none := I.ok.hd hc
  refine ⟨s.heap.objs.size, _, _, _, _, _, _, rfl, Walks.list hh s.heap.objs.size a hne its.toArray, ⟨⟨_, Heap.get?_push_size _ rfl, rfl, rfl⟩, hL.at fun o e => Heap.get?_push_of_some _ e⟩, truth_bools (bs := bs) (by simpa using rv), fun h' tk hk => ?_⟩
  have e1 : its.toArray.size = bs.length := by rw [List.size_toArray, ← hlen, List.length_map]
  rw [e1, all_range]
  exact ⟨.bl _, H, I.kept (t' := tk) fun b o e => hk b o (by simpa using Nat.ne_of_lt (Heap.lt_size e)) (Heap.get?_push_of_some _ e), rfl, q⟩
theorem call_any {X : Cx} (hc : X.calm = true) : CallR X (.builtin "any") (rAll X.K fun bs => bs.any id) := by
  intro pins s σ H xs us Q I r h
  obtain ⟨a, bs, rfl, hl, q⟩ := h
  obtain ⟨u, rfl, ru⟩ := vals1 r
  cases ru
  obtain ⟨hz, its, n, rv, hlen, ho⟩ := Inv.lstR I hl
  have hL : s.heap.IsList a its.toArray := ⟨_, ho, rfl, n, rfl⟩
  refine call_any_walk (wpAny_pyIter_list hL ?_)
  have hne : a ≠ s.heap.objs.size := Nat.ne_of_lt (Heap.lt_size ho)
  have hh : X.A.in1.handled = none := I.ok.hd hc
  refine ⟨s.heap.objs.size, _, _, _, _, _, _, rfl, Walks.list hh s.heap.objs.size a hne its.toArray, ⟨⟨_, Heap.get?_push_size _ rfl, rfl, rfl⟩, hL.at fun o e => Heap.get?_push_of_some _ e⟩, truth_bools (bs := bs) (by simpa using rv), fun h' tk hk => ?_⟩
  have e1 : its.toArray.size = bs.length := by rw [List.size_toArray, ← hlen, List.length_map]
  rw [e1, any_range]
  exact ⟨.bl _, H, I.kept (t' := tk) fun b o e => hk b o (by simpa using Nat.ne_of_lt (Heap.lt_size e)) (Heap.get?_push_of_some _ e), rfl, q⟩
def allD (d : D) : Option Sl := match d with | .lst ds => (blsOf ds).map fun bs => .val (.bl (bs.all id)) | _ => none
def anyD (d : D) : Option Sl := match d with | .lst ds => (blsOf ds).map fun bs => .val (.bl (bs.any id)) | _ => none
theorem c_all {K : PySem.W.Frag} : SndN K (rAll K fun bs => bs.all id) (g1 allD) := by
  intro M G0 H0 G H σ δ xs ds s Q S r e k
  unfold g1 at e
  split at e
  · obtain ⟨x, rfl, rr⟩ := repL1 r
    unfold allD at e
    split at e
    · obtain ⟨bs, e1, e2⟩ := Option.map_eq_some_iff.mp e
      subst e2
      obtain ⟨a, vs, rfl, hq, l⟩ := rep_lst rr
      cases rep_bls l e1
      exact ⟨a, bs, rfl, same_ls S.gh hq, k _ G H S (Gr.refl ..) (.val (.bl _))⟩
    · cases e
  · cases e
theorem c_any {K : PySem.W.Frag} : SndN K (rAll K fun bs => bs.any id) (g1 anyD) := by
  intro M G0 H0 G H σ δ xs ds s Q S r e k
  unfold g1 at e
  split at e
  · obtain ⟨x, rfl, rr⟩ := repL1 r
    unfold anyD at e
    split at e
    · obtain ⟨bs, e1, e2⟩ := Option.map_eq_some_iff.mp e
      subst e2
      obtain ⟨a, vs, rfl, hq, l⟩ := rep_lst rr
      cases rep_bls l e1
      exact ⟨a, bs, rfl, same_ls S.gh hq, k _ G H S (Gr.refl ..) (.val (.bl _))⟩
    · cases e
  · cases e
/-! ### int of a text -/
def intSD (d : D) : Option Sl := match d with
  | .str z => if z.length ≤ 640 then (intText? z).map fun n => .val (.int n) else none
  | d => intD d
theorem c_intS {K : PySem.W.Frag} : SndN K (fun xs H Q => ((∃ i, xs = [.int i] ∧ Q (.int i) H) ∨ ∃ k, xs = [.bl k] ∧ Q (.int (if k then 1 else 0)) H) ∨ ∃ z n, xs = [.str z] ∧ intText? z = some n ∧ z.length ≤ 640 ∧ Q (.int n) H) (g1 intSD) := by
  intro M G0 H0 G H σ δ xs ds s Q S r e k
  unfold g1 at e
  split at e
  · rename_i d
    cases d with
    | str z =>
      change (if z.length ≤ 640 then (intText? z).map fun n => Sl.val (.int n) else none) = some s at e
      split at e
      · rename_i hl
        obtain ⟨n, e1, e2⟩ := Option.map_eq_some_iff.mp e
        subst e2
        obtain ⟨x, rfl, rr⟩ := repL1 r
        cases rep_str rr
        exact .inr ⟨z, n, rfl, e1, hl, k _ G H S (Gr.refl ..) (.val (.int _))⟩
      · cases e
    | int i => exact .inl (c_int M G0 H0 G H σ δ xs _ s Q S r e k)
    | bl i => exact .inl (c_int M G0 H0 G H σ δ xs _ s Q S r e k)
    | non => cases e
    | ty _ => cases e
    | tup _ => cases e
    | lst _ => cases e
    | dct _ _ => cases e
  · cases e
section
variable {X : Cx} {e o : Expr} {es : List Expr} {f1 fo : FE} {fl : FL} {pos p : Pos}
theorem bo_all : bootBuiltins "all" = some (.builtin "all") := by decide +kernel
theorem bo_any : bootBuiltins "any" = some (.builtin "any") := by decide +kernel
theorem de_all (hc : X.calm = true) (hg : Gl X "all") (hm : X.mg "all" = none) (ha : DA X (e :: es) fl) (he : starEach (e :: es) X.env = (false, eval e X.env) :: starEach es X.env := by rfl) (hpl : (backTo pos (starEach es X.env)).any (·.1) = false := by rfl) :
    DE X (.Call (.Name "all" p) (e :: es) [] pos) (fArgs (g1 allD) fl) := de_blt (call_all hc) c_all hg hm bo_all ha (by decide) (by decide) he hpl
theorem de_any (hc : X.calm = true) (hg : Gl X "any") (hm : X.mg "any" = none) (ha : DA X (e :: es) fl) (he : starEach (e :: es) X.env = (false, eval e X.env) :: starEach es X.env := by rfl) (hpl : (backTo pos (starEach es X.env)).any (·.1) = false := by rfl) :
    DE X (.Call (.Name "any" p) (e :: es) [] pos) (fArgs (g1 anyD) fl) := de_blt (call_any hc) c_any hg hm bo_any ha (by decide) (by decide) he hpl
theorem de_intS (hg : Gl X "int") (hm : X.mg "int" = none) (ha : DA X (e :: es) fl) (he : starEach (e :: es) X.env = (false, eval e X.env) :: starEach es X.env := by rfl) (hpl : (backTo pos (starEach es X.env)).any (·.1) = false := by rfl) :
    DE X (.Call (.Name "int" p) (e :: es) [] pos) (fArgs (g1 intSD) fl) := de_tyc (call_int1.or call_intS) c_intS hg hm bo_int ha (by decide) (by decide) he hpl
theorem de_methS {name : Str} {id : String} {apos cpos : Pos} {r : V → List V → Hp → VK → Prop} {g : Str → List D → Option Sl} (slot : Slot "str" name id) (hty : typeOf (.builtin id) = pure (.type "method_descriptor")) (hm : MtR X id r) (hs : SndMS X.K r g) (ho : DE X o fo) (ha : DA X (e :: es) fl)
    (hbase : attributeBase o name X.env (eval o X.env) = eval o X.env := by rfl)
    (hfew : ((backTo cpos (starEach (e :: es) X.env)).all (fun x => !x.1) && (backToKw cpos (keywordEach [] X.env)).all (fun x => x.1.isSome)
      && decide ((e :: es).length + ([] : List Keyword).length + (if ([] : List Keyword).isEmpty then 0 else 1) < 30)) = true := by rfl)
    (hline : (apos.endLine == cpos.line) = true := by rfl) (hst : starEach (e :: es) X.env = (false, eval e X.env) :: starEach es X.env := by rfl) (hplain : (backTo cpos (starEach es X.env)).any (·.1) = false := by rfl) :
    DE X (.Call (.Attribute o name apos) (e :: es) [] cpos) (fMethS g fo fl) :=
  let ⟨_, a1, a2⟩ := ho; let ⟨_, b1, b2⟩ := ha; ⟨_, pe_bm F.plainAttrs_str slot hty hm a1 b1 hbase hfew hline hst hplain, snd_methS hs a2 b2⟩
theorem de_index {apos cpos : Pos} (ho : DE X o fo) (ha : DA X (e :: es) fl)
    (hbase : attributeBase o "index" X.env (eval o X.env) = eval o X.env := by rfl)
    (hfew : ((backTo cpos (starEach (e :: es) X.env)).all (fun x => !x.1) && (backToKw cpos (keywordEach [] X.env)).all (fun x => x.1.isSome)
      && decide ((e :: es).length + ([] : List Keyword).length + (if ([] : List Keyword).isEmpty then 0 else 1) < 30)) = true := by rfl)
    (hline : (apos.endLine == cpos.line) = true := by rfl) (hst : starEach (e :: es) X.env = (false, eval e X.env) :: starEach es X.env := by rfl) (hplain : (backTo cpos (starEach es X.env)).any (·.1) = false := by rfl) :
    DE X (.Call (.Attribute o "index" apos) (e :: es) [] cpos) (fMethS indexD fo fl) := de_methS F.slot_str_index F.type_str_index mt_indexS m_indexS ho ha hbase hfew hline hst hplain
/-- for x in anything that is walked -/
theorem snd_forI {X : Cx} {wi : TI} {fs : FL} {i : Nat} {tb : TS} {F : FS} (hi : SndI X wi fs) (hb : SndS X tb F) : SndS X (tFor wi (gName i) tb) (fFor fs i F) := by
  intro M G0 H0 G H σ δ o E S e k
  rcases thenS_inv e with ⟨ds, δ1, e1, e⟩ | ⟨x, δ1, e1, rfl⟩
  rotate_left
  · exact hi M G0 H0 G H σ δ _ _ _ S e1 k.toX
  refine hi M G0 H0 G H σ δ (.ok ds) δ1 _ S e1 fun J G1 H1 S1 g1 io => ?_
  have k1 := PostS.rebase S1 k
  refine ⟨fun n m σ' H' => m = ds.length - n ∧ n ≤ ds.length ∧ ∃ G' δ', StOk X.K M G1 H0 G' H' σ' δ' ∧ forD i F (ds.drop n) δ' = some o, ⟨ds.length, by simp, Nat.zero_le _, G1, δ1, S1.rebase, by simpa using e⟩, ?_⟩
  rintro n m σ' H' ⟨rfl, hn, G', δ', S', ef⟩
  by_cases hlt : n < ds.length
  · refine .inr ⟨io.go H' n (S'.g0.trans S'.gh) hlt, fun σ2 H2 => ∃ G2 δ2, StOk X.K M G1 H0 G2 H2 σ2 δ2 ∧ forD i F (ds.drop (n + 1)) δ2 = some o, fun σ2 H2 h => ⟨ds.length - (n + 1), by omega, rfl, hlt, h⟩, fun x H2 y => ?_⟩
    obtain ⟨rfl, d, hd, rd⟩ := io.yld H' n x H2 (S'.g0.trans S'.gh) hlt y
    have hde : ds[n] = d := by rw [List.getElem?_eq_getElem hlt] at hd; exact Option.some.inj hd
    rw [List.drop_eq_getElem_cons hlt, hde] at ef
    exact forD_turn hb S' (Rep.mono S'.g0 rd) ef k1 fun σ2 G2 H2 δ2 S2 e2 => ⟨G2, δ2, S2, e2⟩
  · have he : n = ds.length := by omega
    subst he
    rw [List.drop_length] at ef
    cases ef
    exact .inl ⟨io.stop H' (S'.g0.trans S'.gh), k1 σ' G' H' S'⟩
theorem ds_for {i : Nat} {x : Str} {iter : Expr} {body : List Stmt} {tp : Pos} {fs : FL} {F1 : FS} (hN : X.N.Nodup) (hi : X.N[i]? = some x) (hx : Loc X.env.scope x) (hc : X.calm = true) (h : DI X (.Name x tp) iter fs) (hb : DB X body F1) (hp : PassesOwn (model X.prog X.w) X.A X.env X.xe := by exact PassesOwn.never) (hf : X.fn x = true ∨ X.env.scope.names.lookup x = some .local := by first | exact .inl rfl | exact .inr rfl | assumption)
    (hs : ∀ x, foldedSetIterable iter X.env x = pure x := by intro _; rfl) : DS X (.For (.Name x tp) iter body [] pos) (fFor fs i F1) :=
  let ⟨_, a1, a2⟩ := h; let ⟨_, b1, b2⟩ := hb; ⟨_, ps_for hp hc a1 (pg_name hN hi hx hf) b1 hs, snd_forI a2 b2⟩
/-- code that is never come to -/
def fNever : FS := fun _ => none
theorem ds_never {st : Stmt} : DS X st fNever := ⟨_, ps_never, fun _ _ _ _ _ _ _ _ _ _ e _ => nomatch e⟩
end
end L4

namespace L4
open PySem PySem.Spec PyProof.Rows L2
def compChk (scope sc : Scope) (M N : List Str) (x : Str) : Bool :=
  (scope.kind == .function) && scope.names.all (fun p => p.2 != .cell) && (scope.names.lookup x == some .local) && scope.names.all (fun p => p.2 != .local || (scope.names.lookup p.1 == some .local && !M.contains p.1)) &&
    scope.names.all (fun p => p.2 != .free || (sc.names.lookup p.1 == some .cell || sc.names.lookup p.1 == some .free)) && scope.names.all (fun p => p.1 != "") && (M.length == N.length) && (M.zip N).all (fun p => p.1 == "" || p.1 == p.2) && decide ((x :: M).Nodup)
theorem comp_ok {X : Cx} {M : List Str} {scope : Scope} {x : Str} {sc : Scope} {N : List Str} (hsc : X.env.scope = sc) (hN : X.N = N) (chk : compChk scope sc M N x = true) : CompOk X M scope x := by
  subst hsc hN
  unfold compChk at chk
  simp only [Bool.and_eq_true] at chk
  obtain ⟨⟨⟨⟨⟨⟨⟨⟨h1, h2⟩, h3⟩, h4⟩, h5⟩, h6⟩, h7⟩, h8⟩, h9⟩ := chk
  have a4 : ∀ p ∈ scope.names, p.2 = .local → scope.names.lookup p.1 = some .local ∧ p.1 ∉ M := fun p hp hl => by
    have := List.all_eq_true.mp h4 p hp
    rw [Bool.or_eq_true] at this
    rcases this with z | z
    · rw [hl] at z; simp at z
    · rw [Bool.and_eq_true] at z
      exact ⟨eq_of_beq z.1, fun hm => by simp [hm] at z⟩
  refine ⟨eq_of_beq h1, fun p hp e => ?_, eq_of_beq h3, fun p hp hl => (a4 p hp hl).1, fun p hp hl => (a4 p hp hl).2, fun p hp hf => ?_, fun p hp e => ?_, eq_of_beq h7, fun p hp => ?_, of_decide_eq_true h9⟩
  · have := List.all_eq_true.mp h2 p hp
    rw [e] at this; simp at this
  · have := List.all_eq_true.mp h5 p hp
    rw [Bool.or_eq_true] at this
    rcases this with z | z
    · rw [hf] at z; simp at z
    · rw [Bool.or_eq_true] at z
      exact z.imp eq_of_beq eq_of_beq
  · have := List.all_eq_true.mp h6 p hp
    rw [e] at this; simp at this
  · have := List.all_eq_true.mp h8 p hp
    rw [Bool.or_eq_true] at this
    exact this.imp eq_of_beq eq_of_beq
/-- a tuple of texts at the top -/
theorem GlD.texts {K : PySem.W.Frag} {mg : Str → Option Value} {x : Str} {a : Addr} {ys : List Str} {od : Option Addr} {its : Array Value} {n : Nat} {sl : Array (Option Value)} (h : mg x = some (.ref a)) (hk : K.lookup a = some ⟨.type "tuple", od, .seq its n, sl⟩)
    (hs : its.size ≤ sizeLine) (hv : Vals (ys.map V.str) its.toList) : GlD K mg x (.tup (ys.map D.str)) :=
  ⟨.ref a, _, h, rfl, fun G => .tup (.inr ⟨_, its, n, hk, rfl, rfl, hs, hv⟩) (RepL.map (fun y => .str y) ys)⟩
end L4

namespace L4
open PySem PySem.Spec PyProof.Rows L2
/-! ### sum, max, min of a list of ints; insert -/
def intsOf : List D → Option (List Int)
  | [] => some []
  | .int i :: r => (intsOf r).map (i :: ·)
  | _ => none
theorem intsOf_map (ns : List Int) : intsOf (ns.map D.int) = some ns := by
  induction ns with
  | nil => rfl
  | cons n r ih => rw [List.map_cons]; unfold intsOf; rw [ih]; rfl
theorem rep_ints {K : PySem.W.Frag} {G : Hp} : ∀ {vs : List V} {ds : List D} {ns : List Int}, RepL K G vs ds → intsOf ds = some ns → vs = ns.map V.int
  | _, _, _, .nil, e => by cases e; rfl
  | _, _, _, .cons h r, e => by
    rename_i v vs d ds
    cases d with
    | int b =>
      obtain ⟨bs, e1, e2⟩ := Option.map_eq_some_iff.mp (show (intsOf ds).map (b :: ·) = some _ from e)
      subst e2
      rw [rep_int h, rep_ints r e1]
      rfl
    | _ => cases e
def maxI : List Int → Int
  | [] => 0
  | [n] => n
  | n :: r => max n (maxI r)
def minI : List Int → Int
  | [] => 0
  | [n] => n
  | n :: r => min n (minI r)
theorem maxI_ge : ∀ (ns : List Int) (a : Int), a ∈ ns → a ≤ maxI ns
  | [n], a, h => by simp at h; subst h; exact Int.le_refl _
  | n :: m :: r, a, h => by
    show a ≤ max n (maxI (m :: r))
    rcases List.mem_cons.mp h with rfl | h
    · exact Int.le_max_left _ _
    · exact Int.le_trans (maxI_ge (m :: r) a h) (Int.le_max_right _ _)
theorem maxI_mem : ∀ (ns : List Int), ns ≠ [] → maxI ns ∈ ns
  | [n], _ => by simp [maxI]
  | n :: m :: r, _ => by
    show max n (maxI (m :: r)) ∈ _
    rcases Int.le_total n (maxI (m :: r)) with h | h
    · rw [Int.max_eq_right h]; exact List.mem_cons_of_mem _ (maxI_mem (m :: r) (by simp))
    · rw [Int.max_eq_left h]; exact List.mem_cons_self
theorem minI_le : ∀ (ns : List Int) (a : Int), a ∈ ns → minI ns ≤ a
  | [n], a, h => by simp at h; subst h; exact Int.le_refl _
  | n :: m :: r, a, h => by
    show min n (minI (m :: r)) ≤ a
    rcases List.mem_cons.mp h with rfl | h
    · exact Int.min_le_left _ _
    · exact Int.le_trans (Int.min_le_right _ _) (minI_le (m :: r) a h)
theorem minI_mem : ∀ (ns : List Int), ns ≠ [] → minI ns ∈ ns
  | [n], _ => by simp [minI]
  | n :: m :: r, _ => by
    show min n (minI (m :: r)) ∈ _
    rcases Int.le_total n (minI (m :: r)) with h | h
    · rw [Int.min_eq_left h]; exact List.mem_cons_self
    · rw [Int.min_eq_right h]; exact List.mem_cons_of_mem _ (minI_mem (m :: r) (by simp))
def rIntsL (K : PySem.W.Frag) (c : List Int → Bool) (f : List Int → Int) : List V → Hp → VK → Prop := fun xs H Q => ∃ a ns, xs = [.ref a] ∧ LsK K H a (ns.map V.int) ∧ c ns = true ∧ Q (.int (f ns)) H
theorem ints_at {X : Cx} {pins : List (Addr × Obj)} {s : Shared} {σ : L2.St} {H : Hp} {a : Addr} {ns : List Int} (I : Inv X pins σ H s) (hl : LsK X.K H a (ns.map V.int)) : ∃ xs : Array (Int × Tok), s.heap.IsList a (intItems xs) ∧ ns = xs.toList.map (·.1) := by
  obtain ⟨hz, its, n, rv, hlen, ho⟩ := Inv.lstR I hl
  have hi : IntsAre its ns := intsAre_of rv
  obtain ⟨xs, e⟩ := hi.allInts.items
  refine ⟨xs, ?_, ?_⟩
  · rw [← e]; exact ⟨_, ho, rfl, n, rfl⟩
  · rw [← hi.numsOf, ← nums_intItems, ← e]
theorem call_sumL {X : Cx} (hc : X.calm = true) : CallR X (.builtin "sum") (rIntsL X.K (fun _ => true) List.sum) := by
  intro pins s σ H xs us Q I r h
  obtain ⟨a, ns, rfl, hl, _, q⟩ := h
  obtain ⟨u, rfl, ru⟩ := vals1 r
  cases ru
  obtain ⟨zs, h1, h2⟩ := ints_at I hl
  refine sum_intListG (I.ok.hd hc) h1 fun h' tk t' hk => ⟨.int ns.sum, H, I.kept (t' := tk) hk, ⟨t', ?_⟩, q⟩
  rw [preSum_eq, List.take_of_length_le (by simp), h2]
theorem call_maxL {X : Cx} (hc : X.calm = true) : CallR X (.builtin "max") (rIntsL X.K (fun ns => !ns.isEmpty) maxI) := by
  intro pins s σ H xs us Q I r h
  obtain ⟨a, ns, rfl, hl, hne, q⟩ := h
  obtain ⟨u, rfl, ru⟩ := vals1 r
  cases ru
  obtain ⟨zs, h1, h2⟩ := ints_at I hl
  have hn : ns ≠ [] := by intro z; subst z; cases hne
  have hsz : 0 < zs.size := by
    have : 0 < ns.length := List.length_pos_iff.mpr hn
    rw [h2, List.length_map, Array.length_toList] at this
    exact this
  refine max_intList (I.ok.hd hc) h1 hsz fun v h' tk hv hk => ?_
  obtain ⟨t, rfl⟩ := intItems_at hv
  obtain ⟨b1, b2⟩ := argBest_gt (numAt zs) (zs.size - 1)
  have m1 : numAt zs (argBest (fun i j => decide (numAt zs i > numAt zs j)) (zs.size - 1)) ∈ ns := by
    rw [h2, numAt_eq]; exact getD_mem (by rw [List.length_map, Array.length_toList]; omega)
  have m2 : ∀ a, a ∈ ns → a ≤ numAt zs (argBest (fun i j => decide (numAt zs i > numAt zs j)) (zs.size - 1)) := fun a ha => by
    rw [h2] at ha
    obtain ⟨j, hj, rfl⟩ := mem_getD ha
    rw [List.length_map, Array.length_toList] at hj
    rw [← numAt_eq]; exact b2 j (by omega)
  refine ⟨.int (maxI ns), H, I.kept (t' := tk) hk, ⟨t, ?_⟩, q⟩
  rw [Int.le_antisymm (maxI_ge ns _ m1) (m2 _ (maxI_mem ns hn))]
theorem call_minL {X : Cx} (hc : X.calm = true) : CallR X (.builtin "min") (rIntsL X.K (fun ns => !ns.isEmpty) minI) := by
  intro pins s σ H xs us Q I r h
  obtain ⟨a, ns, rfl, hl, hne, q⟩ := h
  obtain ⟨u, rfl, ru⟩ := vals1 r
  cases ru
  obtain ⟨zs, h1, h2⟩ := ints_at I hl
  have hn : ns ≠ [] := by intro z; subst z; cases hne
  have hsz : 0 < zs.size := by
    have : 0 < ns.length := List.length_pos_iff.mpr hn
    rw [h2, List.length_map, Array.length_toList] at this
    exact this
  refine min_intList (I.ok.hd hc) h1 hsz fun v h' tk hv hk => ?_
  obtain ⟨t, rfl⟩ := intItems_at hv
  obtain ⟨b1, b2⟩ := argBest_lt (numAt zs) (zs.size - 1)
  have m1 : numAt zs (argBest (fun i j => decide (numAt zs i < numAt zs j)) (zs.size - 1)) ∈ ns := by
    rw [h2, numAt_eq]; exact getD_mem (by rw [List.length_map, Array.length_toList]; omega)
  have m2 : ∀ a, a ∈ ns → numAt zs (argBest (fun i j => decide (numAt zs i < numAt zs j)) (zs.size - 1)) ≤ a := fun a ha => by
    rw [h2] at ha
    obtain ⟨j, hj, rfl⟩ := mem_getD ha
    rw [List.length_map, Array.length_toList] at hj
    rw [← numAt_eq]; exact b2 j (by omega)
  refine ⟨.int (minI ns), H, I.kept (t' := tk) hk, ⟨t, ?_⟩, q⟩
  rw [Int.le_antisymm (m2 _ (minI_mem ns hn)) (minI_le ns _ m1)]
def intsD (c : List Int → Bool) (f : List Int → Int) (d : D) : Option Sl := match d with
  | .lst ds => (match intsOf ds with | some ns => if c ns = true then some (.val (.int (f ns))) else none | none => none)
  | _ => none
def sumLD : D → Option Sl := intsD (fun _ => true) List.sum
def maxLD : D → Option Sl := intsD (fun ns => !ns.isEmpty) maxI
def minLD : D → Option Sl := intsD (fun ns => !ns.isEmpty) minI
theorem c_intsL {K : PySem.W.Frag} {c : List Int → Bool} {f : List Int → Int} : SndN K (rIntsL K c f) (g1 (intsD c f)) := by
  intro M G0 H0 G H σ δ xs ds s Q S r e k
  unfold g1 at e
  split at e
  · obtain ⟨x, rfl, rr⟩ := repL1 r
    unfold intsD at e
    split at e
    · split at e
      · rename_i ns e1
        split at e
        · rename_i hc
          cases e
          obtain ⟨a, vs, rfl, hq, l⟩ := rep_lst rr
          cases rep_ints l e1
          exact ⟨a, ns, rfl, same_ls S.gh hq, hc, k _ G H S (Gr.refl ..) (.val (.int _))⟩
        · cases e
      · cases e
    · cases e
  · cases e
section
variable {X : Cx} {e : Expr} {es : List Expr} {fl : FL} {pos p : Pos}
theorem bo_sum : bootBuiltins "sum" = some (.builtin "sum") := by decide +kernel
theorem de_sumL (hc : X.calm = true) (hg : Gl X "sum") (hm : X.mg "sum" = none) (ha : DA X (e :: es) fl) (he : starEach (e :: es) X.env = (false, eval e X.env) :: starEach es X.env := by rfl) (hpl : (backTo pos (starEach es X.env)).any (·.1) = false := by rfl) :
    DE X (.Call (.Name "sum" p) (e :: es) [] pos) (fArgs (g1 sumLD) fl) := de_blt (call_sumL hc) c_intsL hg hm bo_sum ha (by decide) (by decide) he hpl
theorem de_maxL (hc : X.calm = true) (hg : Gl X "max") (hm : X.mg "max" = none) (ha : DA X (e :: es) fl) (he : starEach (e :: es) X.env = (false, eval e X.env) :: starEach es X.env := by rfl) (hpl : (backTo pos (starEach es X.env)).any (·.1) = false := by rfl) :
    DE X (.Call (.Name "max" p) (e :: es) [] pos) (fArgs (g1 maxLD) fl) := de_blt (call_maxL hc) c_intsL hg hm bo_max ha (by decide) (by decide) he hpl
theorem de_minL (hc : X.calm = true) (hg : Gl X "min") (hm : X.mg "min" = none) (ha : DA X (e :: es) fl) (he : starEach (e :: es) X.env = (false, eval e X.env) :: starEach es X.env := by rfl) (hpl : (backTo pos (starEach es X.env)).any (·.1) = false := by rfl) :
    DE X (.Call (.Name "min" p) (e :: es) [] pos) (fArgs (g1 minLD) fl) := de_blt (call_minL hc) c_intsL hg hm bo_min ha (by decide) (by decide) he hpl
end
/-! x.insert(k, v) -/
def insAt {α : Type} (xs : List α) (k : Nat) (x : α) : List α := xs.take k ++ x :: xs.drop k
def rInsert : V → List V → Hp → VK → Prop := fun x vs H Q => ∃ l xs i y, x = .ref l ∧ vs = [.int i, y] ∧ H l = some (.lst xs) ∧ 0 ≤ i ∧ i ≤ xs.length ∧ xs.length < sizeLine ∧ Q .non (upd H l (.lst (insAt xs i.toNat y)))
theorem Vals.ins {x : V} {u : Value} (r : RelV x u) {xs : List V} {us : List Value} (k : Nat) (h : Vals xs us) : Vals (insAt xs k x) (insAt us k u) := (h.take k).append (.cons r (h.drop k))
theorem insAt_length {α : Type} (xs : List α) (k : Nat) (x : α) : (insAt xs k x).length = xs.length + 1 := by
  unfold insAt
  rw [List.length_append, List.length_cons, List.length_take, List.length_drop]
  omega
theorem mt_insert {X : Cx} : MtM X "list.insert" rInsert := by
  intro pins s σ H x vs v us Q I rx rv h
  obtain ⟨l, xs, i, y, rfl, rfl, hH, h0, hi, hz, q⟩ := h
  cases rx
  obtain ⟨u1, u2, rfl, ⟨t, rfl⟩, r2⟩ := rv.two
  obtain ⟨z, its, n, r, hl, e⟩ := I.lstM hH
  have hf : Builtin.List.listFitsIndex i = true := by
    unfold Builtin.List.listFitsIndex
    have : sizeLine = 16777216 := by decide
    simp
    omega
  refine call_meets F.slot_list_insert ⟨_, e, rfl⟩ F.entry_list_insert (F.args_list_insert_3 _ _ _) (AutoSeq1.list_insert_list_int_val_1 l its.toArray n i t u2 (by simp [hf]) (by rw [List.size_toArray]; omega)) ⟨e, ?_⟩
  refine ⟨.non, _, I.lset (its' := insAt its i.toNat u2) hH e ?_ (L4.Vals.ins r2 _ r) ?_, rfl, q⟩
  · show (its.toArray.extract 0 (if i < 0 then (i + (its.toArray.size : Int)).toNat else min i.toNat its.toArray.size)).push u2 ++ its.toArray.extract (if i < 0 then (i + (its.toArray.size : Int)).toNat else min i.toNat its.toArray.size) = (insAt its i.toNat u2).toArray
    rw [if_neg (by omega), List.size_toArray, Nat.min_eq_left (by omega)]
    unfold insAt
    apply Array.ext'
    simp
    exact List.take_of_length_le (by rw [List.length_drop]; exact Nat.le_refl _)
  · rw [insAt_length]; omega
def gInsert (ds es : List D) : Option (List D × D) := match es with
  | [.int i, d] => if 0 ≤ i ∧ i ≤ ds.length ∧ ds.length < sizeLine then some (insAt ds i.toNat d, .non) else none
  | _ => none
theorem RepL.ins {K : PySem.W.Frag} {G : Hp} {v : V} {d : D} (h : Rep K G v d) {vs : List V} {ds : List D} (k : Nat) (r : RepL K G vs ds) : RepL K G (insAt vs k v) (insAt ds k d) := (RepL.take k r).app (.cons h (RepL.drop k r))
theorem m_insert {K : PySem.W.Frag} : SndM K rInsert gInsert := by
  intro G H p vs xs ds es ds' d Q S hp r1 r2 e k
  unfold gInsert at e
  split at e
  · split at e
    · rename_i i d' hl
      cases e
      obtain ⟨x, y, rfl, q1, q2⟩ := repL2 r2
      cases rep_int q1
      exact ⟨p, vs, i, y, rfl, rfl, hp, hl.1, by rw [r1.len]; exact hl.2.1, by rw [r1.len]; exact hl.2.2, k _ _ (RepL.ins q2 _ r1) .non⟩
    · cases e
  · cases e
section
variable {X : Cx} {e o : Expr} {es : List Expr} {fe : FE} {fl : FL} {pos p : Pos}
theorem de_insert (i : Nat) {x : Str} {apos cpos np : Pos} (h : DA X (e :: es) fl) (hN : X.N[i]? = some x := by rfl) (hv : Vis X.env.scope x := by first | exact Or.inl rfl | exact Or.inr (Or.inl rfl) | exact Or.inr (Or.inr rfl)) (hd : (x == ("__debug__" : Str)) = false := by decide) (hcd : (x == ("__classdict__" : Str)) = false := by decide)
    (hbase : attributeBase (.Name x np) "insert" X.env (eval (.Name x np) X.env) = eval (.Name x np) X.env := by rfl)
    (hfew : ((backTo cpos (starEach (e :: es) X.env)).all (fun x => !x.1) && (backToKw cpos (keywordEach [] X.env)).all (fun x => x.1.isSome)
      && decide ((e :: es).length + ([] : List Keyword).length + (if ([] : List Keyword).isEmpty then 0 else 1) < 30)) = true := by rfl)
    (hline : (apos.endLine == cpos.line) = true := by rfl) (hs : starEach (e :: es) X.env = (false, eval e X.env) :: starEach es X.env := by rfl) (hplain : (backTo cpos (starEach es X.env)).any (·.1) = false := by rfl) :
    DE X (.Call (.Attribute (.Name x np) "insert" apos) (e :: es) [] cpos) (fMut i gInsert fl) :=
  let ⟨_, a1, a2⟩ := h; ⟨_, pe_bm PySem.F.plainAttrs_list PySem.F.slot_list_insert PySem.F.type_list_insert mt_insert (pv i hN hv hd hcd) a1 hbase hfew hline hs hplain, snd_mut m_insert a2⟩
end
end L4

namespace L4
open PySem L2
/-! ### more values, for rewriting -/
theorem eqOp_str (n : Bool) (x y : Str) (hx : strOkD x = true) (hy : strOkD y = true) : eqOp n (.str x) (.str y) = some (.val (.bl (if n then !(x == y) else (x == y)))) := by
  unfold eqOp
  rw [if_pos (by rw [show depD (D.str x) = 0 by unfold depD; rfl, show plainD (.str x) = true by unfold plainD; exact hx, show plainD (.str y) = true by unfold plainD; exact hy]; decide)]
  rw [show eqD (.str x) (.str y) = (x == y) from by unfold eqD; rfl]
theorem eqOp_pl (n : Bool) (a b c d : Int) : eqOp n (.tup [.int a, .int b]) (.tup [.int c, .int d]) = some (.val (.bl (if n then !decide (a = c ∧ b = d) else decide (a = c ∧ b = d)))) := by
  have hp : ∀ a b : Int, plainD (.tup [.int a, .int b]) = true := fun a b => by simp [plainD, plainDs]
  have hd : depD (.tup [.int a, .int b]) = 1 := by simp [depD, depDs]
  have he : eqD (.tup [.int a, .int b]) (.tup [.int c, .int d]) = decide (a = c ∧ b = d) := by
    simp only [eqD, eqDs, Bool.and_true]
    by_cases h1 : a = c <;> by_cases h2 : b = d <;> simp [h1, h2]
  unfold eqOp
  rw [if_pos (by rw [hd, hp, hp]; decide), he]
theorem isi_str (x : Str) : isiD (.str x) (.ty "str") = some (.val (.bl true)) := rfl
end L4

namespace L4
open PySem L2
/-! ### the values, for rewriting -/
theorem fz_val (d : D) : (Sl.val d).fz = d := rfl
theorem fz_own (d : D) : (Sl.own d).fz = d := rfl
theorem fz_lnt (d : D) : (Sl.lnt d).fz = d := rfl
theorem runD_ret {n m : Nat} {f : FS} {ds : List D} {s : Sl} {δ : DEnv} (h : ds.length = m) (e : f (startD n [] ds) = some (.ret s δ)) : runD n m [] f ds = some (.ok s, []) := by
  unfold runD; rw [if_pos h, e]; rfl
theorem fSeq_next {a b : FS} {δ δ' : DEnv} (e : a δ = some (.next δ')) : fSeq a b δ = b δ' := by unfold fSeq; rw [e, Option.bind_some]
theorem fSeq_ret {a b : FS} {δ δ' : DEnv} {s : Sl} (e : a δ = some (.ret s δ')) : fSeq a b δ = some (.ret s δ') := by unfold fSeq; rw [e, Option.bind_some]
theorem fFor_of {src : FL} {i : Nat} {F : FS} {δ δ' : DEnv} {ds : List D} (e : src δ = some (.ok ds, δ')) : fFor src i F δ = forD i F ds δ' := by unfold fFor; rw [e]; rfl
theorem fIf_true {c : FT} {a b : FS} {δ δ' : DEnv} (e : c δ = some (.ok true, δ')) : fIf c a b δ = a δ' := by unfold fIf; rw [e]; rfl
theorem fIf_false {c : FT} {a b : FS} {δ δ' : DEnv} (e : c δ = some (.ok false, δ')) : fIf c a b δ = b δ' := by unfold fIf; rw [e]; rfl
theorem fAsg_of {i : Nat} {f : FE} {δ δ' : DEnv} {s : Sl} (e : f δ = some (.ok s, δ')) : fAsg i f δ = some (.next (δ'.set i (some s))) := by unfold fAsg; rw [e]; rfl
theorem fRet_of {f : FE} {δ δ' : DEnv} {s : Sl} (e : f δ = some (.ok s, δ')) : fRet f δ = some (.ret s δ') := by unfold fRet; rw [e]; rfl
theorem forD_next {i : Nat} {F : FS} {d : D} {ds : List D} {δ δ' : DEnv} (e : F (δ.set i (some (.val d))) = some (.next δ')) : forD i F (d :: ds) δ = forD i F ds δ' := by rw [forD, e, Option.bind_some]
theorem forD_ret {i : Nat} {F : FS} {d : D} {ds : List D} {δ δ' : DEnv} {s : Sl} (e : F (δ.set i (some (.val d))) = some (.ret s δ')) : forD i F (d :: ds) δ = some (.ret s δ') := by rw [forD, e, Option.bind_some]
theorem addD_int (i j : Int) : addD (.int i) (.int j) = some (.val (.int (i + j))) := rfl
theorem subD_int (i j : Int) : subD (.int i) (.int j) = some (.val (.int (i - j))) := rfl
theorem modD_int (i j : Int) (h : 0 < j) : modD (.int i) (.int j) = some (.val (.int (i % j))) := by
  show (if decide (0 < j) = true then some (Sl.val (D.int (i % j))) else none) = _
  rw [if_pos (decide_eq_true h)]
theorem fdivD_int (i j : Int) (h : 0 < j) (h2 : j < 1073741824) : fdivD (.int i) (.int j) = some (.val (.int (i / j))) := by
  show (if (decide (0 < j) && decide (j < 1073741824)) = true then some (Sl.val (D.int (i / j))) else none) = _
  rw [if_pos (by rw [decide_eq_true h, decide_eq_true h2]; rfl)]
theorem mulD_int (i j : Int) (h : (-(2 ^ 64) < i ∧ i < 2 ^ 64) ∨ (-(2 ^ 64) < j ∧ j < 2 ^ 64)) : mulD (.int i) (.int j) = some (.val (.int (i * j))) := by
  show (if cMul i j = true then some (Sl.val (D.int (i * j))) else none) = _
  rw [if_pos]
  unfold cMul
  rw [Bool.or_eq_true, Bool.and_eq_true, Bool.and_eq_true]
  exact h.imp (fun z => ⟨decide_eq_true z.1, decide_eq_true z.2⟩) fun z => ⟨decide_eq_true z.1, decide_eq_true z.2⟩
theorem powD_10 (j : Nat) (h : j ≤ 1000000) : powD (.int 10) (.int (j : Int)) = some (.val (.int (10 ^ j))) := by
  show (if cPow 10 j = true then some (Sl.val (D.int ((10 : Int) ^ (j : Int).toNat))) else none) = _
  rw [if_pos, Int.toNat_natCast]
  unfold cPow
  rw [Bool.and_eq_true, Bool.and_eq_true]
  exact ⟨⟨decide_eq_true (by omega), decide_eq_true (by omega)⟩, by decide⟩
theorem ltD_int (i j : Int) : ltD (.int i) (.int j) = some (.val (.bl (decide (i < j)))) := rfl
theorem leD_int (i j : Int) : leD (.int i) (.int j) = some (.val (.bl (decide (i ≤ j)))) := rfl
theorem gtD_int (i j : Int) : gtD (.int i) (.int j) = some (.val (.bl (decide (j < i)))) := rfl
theorem geD_int (i j : Int) : geD (.int i) (.int j) = some (.val (.bl (decide (j ≤ i)))) := rfl
theorem negD_int (i : Int) : negD (.int i) = some (.val (.int (-i))) := rfl
theorem maxD_int (i j : Int) : maxD (.int i) (.int j) = some (.val (.int (if j > i then j else i))) := rfl
theorem minD_int (i j : Int) : minD (.int i) (.int j) = some (.val (.int (if j < i then j else i))) := rfl
theorem eqOp_int (n : Bool) (i j : Int) : eqOp n (.int i) (.int j) = some (.val (.bl (if n then !decide (i = j) else decide (i = j)))) := by
  unfold eqOp
  rw [if_pos (by rw [show depD (D.int i) = 0 by unfold depD; rfl, show plainD (.int i) = true by unfold plainD; rfl, show plainD (.int j) = true by unfold plainD; rfl]; decide)]
  rw [show eqD (.int i) (.int j) = decide (i = j) from by unfold eqD; by_cases h : i = j <;> simp [h]]
theorem eqOp_bl (n : Bool) (i j : Bool) : eqOp n (.bl i) (.bl j) = some (.val (.bl (if n then !(i == j) else (i == j)))) := by
  unfold eqOp
  rw [if_pos (by rw [show depD (D.bl i) = 0 by unfold depD; rfl, show plainD (.bl i) = true by unfold plainD; rfl, show plainD (.bl j) = true by unfold plainD; rfl]; decide)]
  rw [show eqD (.bl i) (.bl j) = (i == j) from by unfold eqD; rfl]
theorem atI_of {α : Type} {xs : List α} {k : Int} (h0 : 0 ≤ k) (h : k < xs.length) : atI xs k = xs[k.toNat]? := by
  unfold atI ixN
  rw [if_pos h0, if_pos h]
  rfl
theorem ix0_tup (a : D) (r : List D) : ixD (.tup (a :: r)) (.int 0) = some (.val a) := by
  show (atI (a :: r) 0).map Sl.val = _
  rw [show (atI (a :: r) (0 : Int)) = some a from by rw [atI_of (by decide) (by rw [List.length_cons]; omega)]; rfl]
  rfl
theorem ix1_tup (a b : D) (r : List D) : ixD (.tup (a :: b :: r)) (.int 1) = some (.val b) := by
  show (atI (a :: b :: r) 1).map Sl.val = _
  rw [show (atI (a :: b :: r) (1 : Int)) = some b from by rw [atI_of (by decide) (by rw [List.length_cons, List.length_cons]; omega)]; rfl]
  rfl
theorem isi_tup (ds : List D) : isiD (.tup ds) (.ty "tuple") = some (.val (.bl true)) := rfl
theorem isi_lst (ds : List D) : isiD (.lst ds) (.ty "list") = some (.val (.bl true)) := rfl
theorem isi_int (i : Int) : isiD (.int i) (.ty "int") = some (.val (.bl true)) := rfl
theorem isi_int_bool (i : Int) : isiD (.int i) (.ty "bool") = some (.val (.bl false)) := rfl
theorem isi_bl (i : Bool) : isiD (.bl i) (.ty "bool") = some (.val (.bl true)) := rfl
theorem len_tup (ds : List D) : lenD (.tup ds) = some (.val (.int ds.length)) := rfl
theorem len_lst (ds : List D) : lenD (.lst ds) = some (.val (.int ds.length)) := rfl
theorem gTup2 (a b : D) : gTupD [a, b] = some (.val (.tup [a, b])) := by
  unfold gTupD; rw [if_pos (by show 2 ≤ sizeLine; decide)]
theorem sizeLine_is : sizeLine = 16777216 := by decide
mutual
theorem eqD_refl : ∀ d : D, plainD d = true → eqD d d = true
  | .non, _ => rfl
  | .bl _, _ => by unfold eqD; exact beq_self_eq_true _
  | .int _, _ => by unfold eqD; exact beq_self_eq_true _
  | .str _, _ => by unfold eqD; exact beq_self_eq_true _
  | .tup ds, h => by unfold eqD; exact eqDs_refl ds (by unfold plainD at h; exact h)
  | .lst ds, h => by unfold eqD; exact eqDs_refl ds (by unfold plainD at h; exact h)
  | .ty e, h => by unfold plainD at h; cases h
  | .dct _ _, h => by unfold plainD at h; cases h
theorem eqDs_refl : ∀ ds : List D, plainDs ds = true → eqDs ds ds = true
  | [], _ => by unfold eqDs; rfl
  | d :: ds, h => by
    unfold plainDs at h
    rw [Bool.and_eq_true] at h
    unfold eqDs
    rw [eqD_refl d h.1, eqDs_refl ds h.2]
    rfl
end
/-- the script's cell -/
theorem cell_ix (ns : List Int) (k : Int) (h : 0 ≤ k) (hk : k < (ns.length : Int)) : ixD (.lst (ns.map D.int)) (.int k) = some (.val (.int (ns.getD k.toNat 0))) := by
  have hk' : k.toNat < ns.length := by omega
  show (atI (ns.map D.int) k).map Sl.val = _
  rw [atI_of h (by rw [List.length_map]; exact hk), List.getElem?_map, List.getElem?_eq_getElem hk']
  simp [List.getD, hk']
end L4

namespace Toy
open PySem L4
def c_MOST_ROWS : D := (.int 99)
def c_MOST_COLUMNS : D := (.int 26)
def c_LETTERS : D := (.str "ABCDEFGHIJKLMNOPQRSTUVWXYZ")
def c_FIGURES : D := (.str "0123456789")
/-- _law_cell_at(_law_script, _law_k): slots 0 _law_script, 1 _law_k -/
def f_q_cell_at : FS := (fSeq (fIf (fTb (fOp ltD (fVar 1) (fArgs (g1 lenD) (fCons (fVar 0) fNil)))) (fRet (fOp ixD (fVar 0) (fVar 1))) fNext)
    (fRet (fC (.int 0))))
def r_q_cell_at : Fn := runD 2 2 [] f_q_cell_at
/-- inside(size, place): slots 0 size, 1 place -/
def f_inside : FS := (fRet (fAndV (fChain leD ltD (fC (.int 0)) (fOp ixD (fVar 1) (fC (.int 0))) (fOp ixD (fVar 0) (fC (.int 0)))) (fChain leD ltD (fC (.int 0)) (fOp ixD (fVar 1) (fC (.int 1))) (fOp ixD (fVar 0) (fC (.int 1))))))
def r_inside : Fn := runD 2 2 [] f_inside
/-- place_name(place): slots 0 place -/
def f_place_name : FS := (fSeq (fIf (fNotT (fTr (fCall r_inside (fCons (fArgs gTupD (fCons (fC c_MOST_ROWS) (fCons (fC c_MOST_COLUMNS) fNil))) (fCons (fVar 0) fNil))))) fNever fNext)
    (fRet (fOp addD (fOp ixD (fC c_LETTERS) (fOp ixD (fVar 0) (fC (.int 1)))) (fArgs (g1 strD) (fCons (fOp addD (fOp ixD (fVar 0) (fC (.int 0))) (fC (.int 1))) fNil)))))
def r_place_name : Fn := runD 1 1 [] f_place_name
/-- is_name(text): slots 0 text -/
def f_is_name : FS := (fSeq (fIf (fTb (fOp (inOp true) (fArgs (g1 lenD) (fCons (fVar 0) fNil)) (fArgs gTupD (fCons (fC (.int 2)) (fCons (fC (.int 3)) fNil))))) (fRet (fC (.bl false))) fNext)
    (fSeq (fIf (fOrT (fTb (fOp (inOp true) (fOp ixD (fVar 0) (fC (.int 0))) (fC c_LETTERS))) (fTb (fOp (eqOp false) (fOp ixD (fVar 0) (fC (.int 1))) (fC (.str "0"))))) (fRet (fC (.bl false))) fNext)
    (fRet (fArgs (g1 allD) (fCons (fComp (fItA (fSl slSD (fVar 0) (fPart (fC (.int 1))) fNoP)) none (fOp (inOp false) (fVar 0) (fC c_FIGURES))) fNil)))))
def r_is_name : Fn := runD 1 1 [] f_is_name
/-- place_of(name): slots 0 name -/
def f_place_of : FS := (fSeq (fIf (fNotT (fTr (fCall r_is_name (fCons (fVar 0) fNil)))) fNever fNext)
    (fRet (fArgs gTupD (fCons (fOp subD (fArgs (g1 intSD) (fCons (fSl slSD (fVar 0) (fPart (fC (.int 1))) fNoP) fNil)) (fC (.int 1))) (fCons (fMethS indexD (fC c_LETTERS) (fCons (fOp ixD (fVar 0) (fC (.int 0))) fNil)) fNil)))))
def r_place_of : Fn := runD 1 1 [] f_place_of
/-- law(_law_script): slots 0 _law_script, 1 _law_one, 2 _law_other, 3 _law_name -/
def f_law : FS := (fSeq (fAsg 1 (fArgs gTupD (fCons (fOp modD (fCall r_q_cell_at (fCons (fVar 0) (fCons (fC (.int 0)) fNil))) (fC (.int 99))) (fCons (fOp modD (fCall r_q_cell_at (fCons (fVar 0) (fCons (fC (.int 1)) fNil))) (fC (.int 26))) fNil))))
    (fSeq (fAsg 2 (fArgs gTupD (fCons (fOp modD (fCall r_q_cell_at (fCons (fVar 0) (fCons (fC (.int 2)) fNil))) (fC (.int 99))) (fCons (fOp modD (fCall r_q_cell_at (fCons (fVar 0) (fCons (fC (.int 3)) fNil))) (fC (.int 26))) fNil))))
    (fSeq (fIf (fTb (fOp (eqOp false) (fOp modD (fCall r_q_cell_at (fCons (fVar 0) (fCons (fC (.int 4)) fNil))) (fC (.int 3))) (fC (.int 0)))) (fAsg 2 (fArgs gTupD (fCons (fOp ixD (fVar 1) (fC (.int 0))) (fCons (fOp ixD (fVar 2) (fC (.int 1))) fNil)))) fNext)
    (fSeq (fAsg 3 (fCall r_place_name (fCons (fVar 1) fNil)))
    (fSeq (fIf (fOrT (fNotT (fTr (fArgs (g2 isiD) (fCons (fVar 3) (fCons (fC (.ty "str")) fNil))))) (fOrT (fTb (fOp (eqOp true) (fCall r_place_of (fCons (fVar 3) fNil)) (fVar 1))) (fTb (fOp (eqOp true) (fCall r_place_of (fCons (fCall r_place_name (fCons (fVar 2) fNil)) fNil)) (fVar 2))))) (fRet (fC (.bl false))) fNext)
    (fRet (fAndV (fOp (eqOp false) (fOp (eqOp false) (fVar 3) (fCall r_place_name (fCons (fVar 2) fNil))) (fOp (eqOp false) (fVar 1) (fVar 2))) (fOp (eqOp false) (fCall r_place_name (fCons (fCall r_place_of (fCons (fVar 3) fNil)) fNil)) (fVar 3)))))))))
def r_law : Fn := runD 4 1 [] f_law
end Toy

set_option maxHeartbeats 4000000

namespace Toy
open PySem L2 L4
def pl (r c : Int) : D := .tup [.int r, .int c]
abbrev sv (d : D) : Option Sl := some (.val d)
def good (r c : Nat) : Bool := match r_place_name [pl r c] with
  | some (.ok (.val (.str s)), []) => (match r_place_of [.str s] with | some (.ok (.val (.tup [.int a, .int b])), []) => a == r && b == c && strOkD s | _ => false)
  | _ => false
def goodB (k : Nat) : Bool := (List.range 3).all fun r => (List.range 26).all fun c => good (3 * k + r) c
theorem goodB_0 : goodB 0 = true := by kernel_rfl
theorem goodB_1 : goodB 1 = true := by kernel_rfl
theorem goodB_2 : goodB 2 = true := by kernel_rfl
theorem goodB_3 : goodB 3 = true := by kernel_rfl
theorem goodB_4 : goodB 4 = true := by kernel_rfl
theorem goodB_5 : goodB 5 = true := by kernel_rfl
theorem goodB_6 : goodB 6 = true := by kernel_rfl
theorem goodB_7 : goodB 7 = true := by kernel_rfl
theorem goodB_8 : goodB 8 = true := by kernel_rfl
theorem goodB_9 : goodB 9 = true := by kernel_rfl
theorem goodB_10 : goodB 10 = true := by kernel_rfl
theorem goodB_11 : goodB 11 = true := by kernel_rfl
theorem goodB_12 : goodB 12 = true := by kernel_rfl
theorem goodB_13 : goodB 13 = true := by kernel_rfl
theorem goodB_14 : goodB 14 = true := by kernel_rfl
theorem goodB_15 : goodB 15 = true := by kernel_rfl
theorem goodB_16 : goodB 16 = true := by kernel_rfl
theorem goodB_17 : goodB 17 = true := by kernel_rfl
theorem goodB_18 : goodB 18 = true := by kernel_rfl
theorem goodB_19 : goodB 19 = true := by kernel_rfl
theorem goodB_20 : goodB 20 = true := by kernel_rfl
theorem goodB_21 : goodB 21 = true := by kernel_rfl
theorem goodB_22 : goodB 22 = true := by kernel_rfl
theorem goodB_23 : goodB 23 = true := by kernel_rfl
theorem goodB_24 : goodB 24 = true := by kernel_rfl
theorem goodB_25 : goodB 25 = true := by kernel_rfl
theorem goodB_26 : goodB 26 = true := by kernel_rfl
theorem goodB_27 : goodB 27 = true := by kernel_rfl
theorem goodB_28 : goodB 28 = true := by kernel_rfl
theorem goodB_29 : goodB 29 = true := by kernel_rfl
theorem goodB_30 : goodB 30 = true := by kernel_rfl
theorem goodB_31 : goodB 31 = true := by kernel_rfl
theorem goodB_32 : goodB 32 = true := by kernel_rfl
theorem goodB_all (k : Nat) (h : k < 33) : goodB k = true := by
  match k, h with
  | 0, _ => exact goodB_0
  | 1, _ => exact goodB_1
  | 2, _ => exact goodB_2
  | 3, _ => exact goodB_3
  | 4, _ => exact goodB_4
  | 5, _ => exact goodB_5
  | 6, _ => exact goodB_6
  | 7, _ => exact goodB_7
  | 8, _ => exact goodB_8
  | 9, _ => exact goodB_9
  | 10, _ => exact goodB_10
  | 11, _ => exact goodB_11
  | 12, _ => exact goodB_12
  | 13, _ => exact goodB_13
  | 14, _ => exact goodB_14
  | 15, _ => exact goodB_15
  | 16, _ => exact goodB_16
  | 17, _ => exact goodB_17
  | 18, _ => exact goodB_18
  | 19, _ => exact goodB_19
  | 20, _ => exact goodB_20
  | 21, _ => exact goodB_21
  | 22, _ => exact goodB_22
  | 23, _ => exact goodB_23
  | 24, _ => exact goodB_24
  | 25, _ => exact goodB_25
  | 26, _ => exact goodB_26
  | 27, _ => exact goodB_27
  | 28, _ => exact goodB_28
  | 29, _ => exact goodB_29
  | 30, _ => exact goodB_30
  | 31, _ => exact goodB_31
  | 32, _ => exact goodB_32
  | n + 33, h => exact absurd h (by omega)
theorem good_at (r c : Nat) (h1 : r < 99) (h2 : c < 26) : good r c = true := by
  have g := goodB_all (r / 3) (by omega)
  unfold goodB at g
  have g := List.all_eq_true.mp (List.all_eq_true.mp g (r % 3) (List.mem_range.mpr (by omega))) c (List.mem_range.mpr (by omega))
  rwa [show 3 * (r / 3) + r % 3 = r by omega] at g
theorem names (r c : Int) (h1 : 0 ≤ r) (h2 : r < 99) (h3 : 0 ≤ c) (h4 : c < 26) : ∃ s, r_place_name [pl r c] = some (.ok (.val (.str s)), []) ∧ r_place_of [.str s] = some (.ok (.val (pl r c)), []) ∧ strOkD s = true := by
  obtain ⟨r, rfl⟩ := Int.eq_ofNat_of_zero_le h1
  obtain ⟨c, rfl⟩ := Int.eq_ofNat_of_zero_le h3
  have g := good_at r c (by omega) (by omega)
  unfold good at g
  split at g
  · rename_i s hs
    split at g
    · rename_i a b hab
      rw [Bool.and_eq_true, Bool.and_eq_true] at g
      have ea := eq_of_beq g.1.1
      have eb := eq_of_beq g.1.2
      subst ea eb
      exact ⟨s, hs, hab, g.2⟩
    · cases g
  · cases g
theorem run_cell (ns : List Int) (k : Int) (h : 0 ≤ k) : r_q_cell_at [.lst (ns.map D.int), .int k] = some (.ok (.val (.int (ns.getD k.toNat 0))), []) := by
  by_cases hk : k < (ns.length : Int)
  · have e := cell_ix ns k h hk
    refine runD_ret rfl (δ := [sv (.lst (ns.map D.int)), sv (.int k)]) ?_
    have e0 : startD 2 [] [.lst (ns.map D.int), .int k] = [sv (.lst (ns.map D.int)), sv (.int k)] := rfl
    rw [e0]
    unfold f_q_cell_at
    refine fSeq_ret ?_
    rw [fIf_true (δ' := [sv (.lst (ns.map D.int)), sv (.int k)])]
    · refine fRet_of ?_
      show lift (ixD (.lst (ns.map D.int)) (.int k)) _ = _
      rw [e]; rfl
    · show lift (blOf (.bl (decide (k < ((ns.map D.int).length : Int))))) _ = _
      rw [List.length_map, decide_eq_true hk]; rfl
  · refine runD_ret rfl (δ := [sv (.lst (ns.map D.int)), sv (.int k)]) ?_
    have e0 : startD 2 [] [.lst (ns.map D.int), .int k] = [sv (.lst (ns.map D.int)), sv (.int k)] := rfl
    rw [e0]
    unfold f_q_cell_at
    rw [fSeq_next (δ' := [sv (.lst (ns.map D.int)), sv (.int k)])]
    · refine fRet_of ?_
      rw [show ns.getD k.toNat 0 = 0 by simp [List.getD, show ns.length ≤ k.toNat by omega]]; rfl
    · rw [fIf_false (δ' := [sv (.lst (ns.map D.int)), sv (.int k)])]
      · rfl
      · show lift (blOf (.bl (decide (k < ((ns.map D.int).length : Int))))) _ = _
        rw [List.length_map, decide_eq_false hk]; rfl
theorem law_true (ns : List Int) (_ : ns.length ≤ 63) : r_law [.lst (ns.map D.int)] = some (.ok (.val (.bl true)), []) := by
  obtain ⟨n0, c0⟩ : ∃ n, r_q_cell_at [.lst (ns.map D.int), .int 0] = some (.ok (.val (.int n)), []) := ⟨_, run_cell ns 0 (by decide)⟩
  obtain ⟨n1, c1⟩ : ∃ n, r_q_cell_at [.lst (ns.map D.int), .int 1] = some (.ok (.val (.int n)), []) := ⟨_, run_cell ns 1 (by decide)⟩
  obtain ⟨n2, c2⟩ : ∃ n, r_q_cell_at [.lst (ns.map D.int), .int 2] = some (.ok (.val (.int n)), []) := ⟨_, run_cell ns 2 (by decide)⟩
  obtain ⟨n3, c3⟩ : ∃ n, r_q_cell_at [.lst (ns.map D.int), .int 3] = some (.ok (.val (.int n)), []) := ⟨_, run_cell ns 3 (by decide)⟩
  obtain ⟨n4, c4⟩ : ∃ n, r_q_cell_at [.lst (ns.map D.int), .int 4] = some (.ok (.val (.int n)), []) := ⟨_, run_cell ns 4 (by decide)⟩
  unfold r_law
  have e0 : startD 4 [] [.lst (ns.map D.int)] = [sv (.lst (ns.map D.int)), none, none, none] := rfl
  generalize D.lst (ns.map D.int) = S at *
  obtain ⟨a, b, ha, e1⟩ : ∃ a b : Int, (0 ≤ a ∧ a < 99 ∧ 0 ≤ b ∧ b < 26) ∧ (a = n0 % 99 ∧ b = n1 % 26) := ⟨_, _, by omega, rfl, rfl⟩
  obtain ⟨c, d, hc, e2⟩ : ∃ c d : Int, (0 ≤ c ∧ c < 99 ∧ 0 ≤ d ∧ d < 26) ∧ (c = n2 % 99 ∧ d = n3 % 26) := ⟨_, _, by omega, rfl, rfl⟩
  obtain ⟨c', hc', e3⟩ : ∃ c' : Int, (0 ≤ c' ∧ c' < 99) ∧ (if n4 % 3 = 0 then c' = a else c' = c) := by
    by_cases h : n4 % 3 = 0
    · exact ⟨a, by omega, by rw [if_pos h]⟩
    · exact ⟨c, by omega, by rw [if_neg h]⟩
  obtain ⟨s1, p1, p2, p3⟩ := names a b ha.1 ha.2.1 ha.2.2.1 ha.2.2.2
  obtain ⟨s2, q1, q2, q3⟩ := names c' d hc'.1 hc'.2 hc.2.2.1 hc.2.2.2
  have same : (s1 == s2) = decide (a = c' ∧ b = d) := by
    by_cases h : a = c' ∧ b = d
    · obtain ⟨h1, h2⟩ := h
      subst h1 h2
      rw [p1] at q1
      cases q1
      simp
    · rw [decide_eq_false h]
      refine beq_eq_false_iff_ne.mpr fun e => h ?_
      subst e
      rw [p2] at q2
      cases q2
      exact ⟨rfl, rfl⟩
  refine runD_ret rfl (δ := [sv S, sv (pl a b), sv (pl c' d), sv (.str s1)]) ?_
  rw [e0]
  unfold f_law
  rw [fSeq_next (δ' := [sv S, sv (pl a b), none, none])]
  rotate_left
  · simp [fAsg, fArgs, fCons, fOp, fVar, fC, fNil, fCall, Rs.bind_ok, lift_some, thenS_ok, c0, c1, modD_int, gTup2, fz_val, e1.1, e1.2, pl]
  rw [fSeq_next (δ' := [sv S, sv (pl a b), sv (pl c d), none])]
  rotate_left
  · simp [fAsg, fArgs, fCons, fOp, fVar, fC, fNil, fCall, Rs.bind_ok, lift_some, thenS_ok, c2, c3, modD_int, gTup2, fz_val, e2.1, e2.2, pl]
  rw [fSeq_next (δ' := [sv S, sv (pl a b), sv (pl c' d), none])]
  rotate_left
  · by_cases h : n4 % 3 = 0
    · rw [if_pos h] at e3
      rw [fIf_true (δ' := [sv S, sv (pl a b), sv (pl c d), none])]
      · simp [fAsg, fArgs, fCons, fOp, fVar, fC, fNil, Rs.bind_ok, lift_some, thenS_ok, gTup2, fz_val, e3, pl, ix0_tup, ix1_tup]
      · simp [fTb, fOp, fArgs, fCons, fVar, fC, fNil, fCall, Rs.bind_ok, lift_some, blOf, c4, modD_int, eqOp_int, fz_val, h]
    · rw [if_neg h] at e3
      rw [fIf_false (δ' := [sv S, sv (pl a b), sv (pl c d), none])]
      · rw [e3]; rfl
      · simp [fTb, fOp, fArgs, fCons, fVar, fC, fNil, fCall, Rs.bind_ok, lift_some, blOf, c4, modD_int, eqOp_int, fz_val, h]
  unfold pl at p1 p2 q1 q2
  rw [fSeq_next (δ' := [sv S, sv (pl a b), sv (pl c' d), sv (.str s1)])]
  rotate_left
  · simp [fAsg, fCall, fCons, fVar, fNil, fz_val, pl, p1, Rs.bind_ok, thenS_ok]
  rw [fSeq_next (δ' := [sv S, sv (pl a b), sv (pl c' d), sv (.str s1)])]
  rotate_left
  · rw [fIf_false (δ' := [sv S, sv (pl a b), sv (pl c' d), sv (.str s1)])]
    · rfl
    · simp [fOrT, fNotT, fTr, fTb, fOp, fArgs, fCons, fNil, fVar, fC, fCall, Rs.bind_ok, lift_some, blOf, truD, g2, isi_str, fz_val, pl, p2, q1, q2, eqOp_pl]
  have er := eqOp_str false s1 s1 p3 p3
  have es := eqOp_str false s1 s2 p3 q3
  simp [fRet, fAndV, fOp, fArgs, fCons, fNil, fVar, fCall, Rs.bind_ok, lift_some, thenS_ok, blOf, fz_val, pl, p1, p2, q1, es, er, same, eqOp_pl, eqOp_bl]
end Toy

namespace Toy
open PySem L2 L4
def top (i : Nat) : Stmt := PySem.Challenge.pw_slate_k14_whole_names_and_places.main.body.getD i (.Pass ⟨0, 0, 0, 0⟩)
structure Blt (mg : Str → Option Value) : Prop where
  all_ : mg "all" = none
  int_ : mg "int" = none
  isinstance_ : mg "isinstance" = none
  len_ : mg "len" = none
  str_ : mg "str" = none
structure Cst (K : PySem.W.Frag) (mg : Str → Option Value) : Prop where
  MOST_ROWS : GlD K mg "MOST_ROWS" c_MOST_ROWS
  MOST_COLUMNS : GlD K mg "MOST_COLUMNS" c_MOST_COLUMNS
  LETTERS : GlD K mg "LETTERS" c_LETTERS
  FIGURES : GlD K mg "FIGURES" c_FIGURES
section
variable {P : Program} {w : World} {K : PySem.W.Frag} {mg : Str → Option Value} {base : Heap}
theorem sc_q_cell_at : FnScope ["_law_script", "_law_k"] ["_law_script", "_law_k"] (defScope (top 13)) := ⟨rfl, rfl, rfl, by decide +kernel, rfl, by decide +kernel, by decide +kernel⟩
theorem ok_q_cell_at (B : Blt mg) (C : Cst K mg) {f : Addr} {fd : FuncData} (F : Fun K "_law_cell_at" "_law_cell_at" (top 13) f fd) (b : Binds K fd ["_law_script", "_law_k"] []) (hm : mg "_law_cell_at" = some (.ref f)) : FnD P w K mg base "_law_cell_at" 1 ["_law_script", "_law_k"] [] r_q_cell_at := by
  have SC := sc_q_cell_at
  refine fnD_mk (n := 2) (m := 2) (k := 0) F SC rfl rfl b hm fun cdv A outer s H E hr => ?_
  exact (db_cons (ds_if (dt_cmp q_lt (de 1) (de_len rfl B.len_ (da_cons (de 0) da_nil)) (nomark _)) (db_one (ds_ret (de_ix (de 0) (de 1) (fun _ _ => rfl)))) db_nil)
    (db_one (ds_ret de_int)))
theorem sc_inside : FnScope ["size", "place"] ["size", "place"] (defScope (top 11)) := ⟨rfl, rfl, rfl, by decide +kernel, rfl, by decide +kernel, by decide +kernel⟩
theorem ok_inside (B : Blt mg) (C : Cst K mg) {f : Addr} {fd : FuncData} (F : Fun K "inside" "inside" (top 11) f fd) (b : Binds K fd ["size", "place"] []) (hm : mg "inside" = some (.ref f)) : FnD P w K mg base "inside" 1 ["size", "place"] [] r_inside := by
  have SC := sc_inside
  refine fnD_mk (n := 2) (m := 2) (k := 0) F SC rfl rfl b hm fun cdv A outer s H E hr => ?_
  exact (db_one (ds_ret (de_and (de_chain q_le q_lt de_int (de_ix (de 1) de_int (fun _ _ => rfl)) (de_ix (de 0) de_int (fun _ _ => rfl))) (de_one (de_chain q_le q_lt de_int (de_ix (de 1) de_int (fun _ _ => rfl)) (de_ix (de 0) de_int (fun _ _ => rfl)))))))
theorem sc_place_name : FnScope ["place"] ["place"] (defScope (top 8)) := ⟨rfl, rfl, rfl, by decide +kernel, rfl, by decide +kernel, by decide +kernel⟩
theorem ok_place_name (B : Blt mg) (C : Cst K mg) (G_inside : FnD P w K mg base "inside" 1 ["size", "place"] [] r_inside) {f : Addr} {fd : FuncData} (F : Fun K "place_name" "place_name" (top 8) f fd) (b : Binds K fd ["place"] []) (hm : mg "place_name" = some (.ref f)) : FnD P w K mg base "place_name" 2 ["place"] [] r_place_name := by
  have SC := sc_place_name
  refine fnD_mk (n := 1) (m := 1) (k := 1) F SC rfl rfl b hm fun cdv A outer s H E hr => ?_
  exact (db_cons (ds_if (dt_not (dt_truth (de_call G_inside (hr.mono (by omega)) rfl (da_cons (de_tup (da_cons (de_gl C.MOST_ROWS rfl) (da_cons (de_gl C.MOST_COLUMNS rfl) da_nil))) (da_cons (de 0) da_nil))) (fun _ => rfl))) (db_one ds_never) db_nil)
    (db_one (ds_ret (de_add (de_ix (de_gl C.LETTERS rfl) (de_ix (de 0) de_int (fun _ _ => rfl)) (fun _ _ => rfl)) (de_str_ rfl B.str_ (da_cons (de_add (de_ix (de 0) de_int (fun _ _ => rfl)) de_int) da_nil))))))
theorem sc_is_name : FnScope ["text"] ["text"] (defScope (top 10)) := ⟨rfl, rfl, rfl, by decide +kernel, rfl, by decide +kernel, by decide +kernel⟩
theorem ok_is_name (B : Blt mg) (C : Cst K mg) {f : Addr} {fd : FuncData} (F : Fun K "is_name" "is_name" (top 10) f fd) (b : Binds K fd ["text"] []) (hm : mg "is_name" = some (.ref f)) : FnD P w K mg base "is_name" 1 ["text"] [] r_is_name := by
  have SC := sc_is_name
  refine fnD_mk (n := 1) (m := 1) (k := 0) F SC rfl rfl b hm fun cdv A outer s H E hr => ?_
  exact (db_cons (ds_if (dt_cmp (q_notin (hu_of2 hr)) (de_len rfl B.len_ (da_cons (de 0) da_nil)) (de_tup (da_cons de_int (da_cons de_int da_nil))) (by with_unfolding_all rfl)) (db_one (ds_ret de_bl)) db_nil)
    (db_cons (ds_if (dw (dw_or (dt_cmp (q_notin (hu_of2 hr)) (de_ix (de 0) de_int (fun _ _ => rfl)) (de_gl C.LETTERS rfl) (by with_unfolding_all rfl)) (dw_or1 (dt_cmp (q_eq (hu_of2 hr)) (de_ix (de 0) de_int (fun _ _ => rfl)) de_str (nomark _))))) (db_one (ds_ret de_bl)) db_nil)
    (db_one (ds_ret (de_all rfl rfl B.all_ (da_cons (de_comp (comp_ok (M := ["text"]) (sc := defScope (top 10)) (N := ["text"]) rfl rfl (by decide +kernel)) rfl (di_any (de_slS (de 0) (dp_some de_int) dp_none)) tests_no (fun s H fp pn => (de_cmp (q_in (hu_of2 hr)) (de 0) (de_gl C.FIGURES rfl) (by with_unfolding_all rfl)))) da_nil))))))
theorem sc_place_of : FnScope ["name"] ["name"] (defScope (top 9)) := ⟨rfl, rfl, rfl, by decide +kernel, rfl, by decide +kernel, by decide +kernel⟩
theorem ok_place_of (B : Blt mg) (C : Cst K mg) (G_is_name : FnD P w K mg base "is_name" 1 ["text"] [] r_is_name) {f : Addr} {fd : FuncData} (F : Fun K "place_of" "place_of" (top 9) f fd) (b : Binds K fd ["name"] []) (hm : mg "place_of" = some (.ref f)) : FnD P w K mg base "place_of" 2 ["name"] [] r_place_of := by
  have SC := sc_place_of
  refine fnD_mk (n := 1) (m := 1) (k := 1) F SC rfl rfl b hm fun cdv A outer s H E hr => ?_
  exact (db_cons (ds_if (dt_not (dt_truth (de_call G_is_name (hr.mono (by omega)) rfl (da_cons (de 0) da_nil)) (fun _ => rfl))) (db_one ds_never) db_nil)
    (db_one (ds_ret (de_tup (da_cons (de_sub (de_intS rfl B.int_ (da_cons (de_slS (de 0) (dp_some de_int) dp_none) da_nil)) de_int) (da_cons (de_index (de_gl C.LETTERS rfl) (da_cons (de_ix (de 0) de_int (fun _ _ => rfl)) da_nil)) da_nil))))))
theorem sc_law : FnScope ["_law_script", "_law_one", "_law_other", "_law_name"] ["_law_script"] (defScope (top 14)) := ⟨rfl, rfl, rfl, by decide +kernel, rfl, by decide +kernel, by decide +kernel⟩
theorem ok_law (B : Blt mg) (C : Cst K mg) (G_q_cell_at : FnD P w K mg base "_law_cell_at" 1 ["_law_script", "_law_k"] [] r_q_cell_at) (G_place_name : FnD P w K mg base "place_name" 2 ["place"] [] r_place_name) (G_place_of : FnD P w K mg base "place_of" 2 ["name"] [] r_place_of) {f : Addr} {fd : FuncData} (F : Fun K "law" "law" (top 14) f fd) : FnOk P w K mg base CX0 3 f fd ["_law_script"] (spM K [] r_law) := by
  have SC := sc_law
  refine fnD_ok (n := 4) (m := 1) (k := 2) F SC rfl rfl fun cdv A outer s H E hr => ?_
  exact (db_cons (ds_set (i := 1) SC.nd rfl (by first | exact Or.inl rfl | exact Or.inr rfl) (de_tup (da_cons (de_mod (de_call G_q_cell_at (hr.mono (by omega)) rfl (da_cons (de 0) (da_cons de_int da_nil))) de_int) (da_cons (de_mod (de_call G_q_cell_at (hr.mono (by omega)) rfl (da_cons (de 0) (da_cons de_int da_nil))) de_int) da_nil))))
    (db_cons (ds_set (i := 2) SC.nd rfl (by first | exact Or.inl rfl | exact Or.inr rfl) (de_tup (da_cons (de_mod (de_call G_q_cell_at (hr.mono (by omega)) rfl (da_cons (de 0) (da_cons de_int da_nil))) de_int) (da_cons (de_mod (de_call G_q_cell_at (hr.mono (by omega)) rfl (da_cons (de 0) (da_cons de_int da_nil))) de_int) da_nil))))
    (db_cons (ds_if (dt_cmp (q_eq (hu_of2 hr)) (de_mod (de_call G_q_cell_at (hr.mono (by omega)) rfl (da_cons (de 0) (da_cons de_int da_nil))) de_int) de_int (nomark _)) (db_one (ds_set (i := 2) SC.nd rfl (by first | exact Or.inl rfl | exact Or.inr rfl) (de_tup (da_cons (de_ix (de 1) de_int (fun _ _ => rfl)) (da_cons (de_ix (de 2) de_int (fun _ _ => rfl)) da_nil))))) db_nil)
    (db_cons (ds_set (i := 3) SC.nd rfl (by first | exact Or.inl rfl | exact Or.inr rfl) (de_call G_place_name (hr.mono (by omega)) rfl (da_cons (de 1) da_nil)))
    (db_cons (ds_if (dw (dw_or (dt_not (dt_truth (de_isi rfl B.isinstance_ (da_cons (de 3) (da_cons (de_ty rfl B.str_ bo_str) da_nil))) (fun _ => rfl))) (dw_or (dt_cmp (q_ne (hu_of2 hr)) (de_call G_place_of (hr.mono (by omega)) rfl (da_cons (de 3) da_nil)) (de 1) (nomark _)) (dw_or1 (dt_cmp (q_ne (hu_of2 hr)) (de_call G_place_of (hr.mono (by omega)) rfl (da_cons (de_call G_place_name (hr.mono (by omega)) rfl (da_cons (de 2) da_nil)) da_nil)) (de 2) (nomark _)))))) (db_one (ds_ret de_bl)) db_nil)
    (db_one (ds_ret (de_and (de_cmp (q_eq (hu_of2 hr)) (de_cmp (q_eq (hu_of2 hr)) (de 3) (de_call G_place_name (hr.mono (by omega)) rfl (da_cons (de 2) da_nil)) (nomark _)) (de_cmp (q_eq (hu_of2 hr)) (de 1) (de 2) (nomark _)) (nomark _)) (de_one (de_cmp (q_eq (hu_of2 hr)) (de_call G_place_name (hr.mono (by omega)) rfl (da_cons (de_call G_place_of (hr.mono (by omega)) rfl (da_cons (de 3) da_nil)) da_nil)) (de 3) (nomark _)))))))))))
end
theorem all_mk {l : PySem.W.OpenLaw} {w : World} {K : PySem.W.Frag} {h : Heap} {mg : Str → Option Value} {fa : Addr} (X : K.In h) (G : h.Ns mainGlobals mg) (hfa : mg "law" = some (.ref fa))
    {od0 an0 : Option Addr} {sl0 : Array (Option Value)} {oc0 kV0 dc0 pm0 cd0 ct0 : Value} {f0 : Addr}
    {od1 an1 : Option Addr} {sl1 : Array (Option Value)} {oc1 kV1 dc1 pm1 cd1 ct1 : Value} {f1 : Addr}
    {od2 an2 : Option Addr} {sl2 : Array (Option Value)} {oc2 kV2 dc2 pm2 cd2 ct2 : Value} {f2 : Addr}
    {od3 an3 : Option Addr} {sl3 : Array (Option Value)} {oc3 kV3 dc3 pm3 cd3 ct3 : Value} {f3 : Addr}
    {od4 an4 : Option Addr} {sl4 : Array (Option Value)} {oc4 kV4 dc4 pm4 cd4 ct4 : Value} {f4 : Addr}
    {od5 an5 : Option Addr} {sl5 : Array (Option Value)} {oc5 kV5 dc5 pm5 cd5 ct5 : Value} {f5 : Addr}
    {u0 : Tok}
    {u1 : Tok}
    {u2 : Tok}
    {u3 : Tok}
    (a0 : PySem.W.nsIn K mainGlobals "_law_cell_at" = some (some (.ref f0))) (l0 : K.lookup f0 = some ⟨oc0, od0, .func (PySem.W.fnOf "_law_cell_at" "_law_cell_at" (defArgs (top 13)) (defBody (top 13)) (defScope (top 13)) .none kV0 dc0 pm0 an0 cd0 ct0), sl0⟩) (c0 : PySem.W.codeIn K cd0 "_law_cell_at" = true) (k0 : PySem.W.keepIn K (.ref f0) = true)
    (a1 : PySem.W.nsIn K mainGlobals "inside" = some (some (.ref f1))) (l1 : K.lookup f1 = some ⟨oc1, od1, .func (PySem.W.fnOf "inside" "inside" (defArgs (top 11)) (defBody (top 11)) (defScope (top 11)) .none kV1 dc1 pm1 an1 cd1 ct1), sl1⟩) (c1 : PySem.W.codeIn K cd1 "inside" = true) (k1 : PySem.W.keepIn K (.ref f1) = true)
    (a2 : PySem.W.nsIn K mainGlobals "place_name" = some (some (.ref f2))) (l2 : K.lookup f2 = some ⟨oc2, od2, .func (PySem.W.fnOf "place_name" "place_name" (defArgs (top 8)) (defBody (top 8)) (defScope (top 8)) .none kV2 dc2 pm2 an2 cd2 ct2), sl2⟩) (c2 : PySem.W.codeIn K cd2 "place_name" = true) (k2 : PySem.W.keepIn K (.ref f2) = true)
    (a3 : PySem.W.nsIn K mainGlobals "is_name" = some (some (.ref f3))) (l3 : K.lookup f3 = some ⟨oc3, od3, .func (PySem.W.fnOf "is_name" "is_name" (defArgs (top 10)) (defBody (top 10)) (defScope (top 10)) .none kV3 dc3 pm3 an3 cd3 ct3), sl3⟩) (c3 : PySem.W.codeIn K cd3 "is_name" = true) (k3 : PySem.W.keepIn K (.ref f3) = true)
    (a4 : PySem.W.nsIn K mainGlobals "place_of" = some (some (.ref f4))) (l4 : K.lookup f4 = some ⟨oc4, od4, .func (PySem.W.fnOf "place_of" "place_of" (defArgs (top 9)) (defBody (top 9)) (defScope (top 9)) .none kV4 dc4 pm4 an4 cd4 ct4), sl4⟩) (c4 : PySem.W.codeIn K cd4 "place_of" = true) (k4 : PySem.W.keepIn K (.ref f4) = true)
    (a5 : PySem.W.nsIn K mainGlobals "law" = some (some (.ref f5))) (l5 : K.lookup f5 = some ⟨oc5, od5, .func (PySem.W.fnOf "law" "law" (defArgs (top 14)) (defBody (top 14)) (defScope (top 14)) .none kV5 dc5 pm5 an5 cd5 ct5), sl5⟩) (c5 : PySem.W.codeIn K cd5 "law" = true) (k5 : PySem.W.keepIn K (.ref f5) = true)
    (z0 : PySem.W.nsIn K mainGlobals "all" = some none)
    (z1 : PySem.W.nsIn K mainGlobals "int" = some none)
    (z2 : PySem.W.nsIn K mainGlobals "isinstance" = some none)
    (z3 : PySem.W.nsIn K mainGlobals "len" = some none)
    (z4 : PySem.W.nsIn K mainGlobals "str" = some none)
    (xg0 : PySem.W.nsIn K mainGlobals "MOST_ROWS" = some (some (.int 99 u0)))
    (xg1 : PySem.W.nsIn K mainGlobals "MOST_COLUMNS" = some (some (.int 26 u1)))
    (xg2 : PySem.W.nsIn K mainGlobals "LETTERS" = some (some (.str "ABCDEFGHIJKLMNOPQRSTUVWXYZ" u2)))
    (xg3 : PySem.W.nsIn K mainGlobals "FIGURES" = some (some (.str "0123456789" u3))) :
    ∃ fd : FuncData, (∀ (s : Shared) (v : Value), BindsTo s fd ⟨[v], []⟩ [("_law_script", v)]) ∧ ∀ base : Heap, K.In base → base.Ns mainGlobals mg → FnOk l.prog w K mg base CX0 3 fa fd ["_law_script"] (spM K [] r_law) := by
  have e := hfa.symm.trans (PySem.W.mg_of X G a5)
  cases e
  have B : Blt mg := ⟨PySem.W.mg_none_of X G z0, PySem.W.mg_none_of X G z1, PySem.W.mg_none_of X G z2, PySem.W.mg_none_of X G z3, PySem.W.mg_none_of X G z4⟩
  have C : Cst K mg := ⟨GlD.int (PySem.W.mg_of X G xg0), GlD.int (PySem.W.mg_of X G xg1), GlD.str (PySem.W.mg_of X G xg2), GlD.str (PySem.W.mg_of X G xg3)⟩
  have F0 := fun_mk (st := top 13) l0 c0 k0
  have b0 := F0.binds (ps := ["_law_script", "_law_k"]) fun _ _ _ _ _ _ us hl => match us, hl with | [_, _], _ => rfl
  have F1 := fun_mk (st := top 11) l1 c1 k1
  have b1 := F1.binds (ps := ["size", "place"]) fun _ _ _ _ _ _ us hl => match us, hl with | [_, _], _ => rfl
  have F2 := fun_mk (st := top 8) l2 c2 k2
  have b2 := F2.binds (ps := ["place"]) fun _ _ _ _ _ _ us hl => match us, hl with | [_], _ => rfl
  have F3 := fun_mk (st := top 10) l3 c3 k3
  have b3 := F3.binds (ps := ["text"]) fun _ _ _ _ _ _ us hl => match us, hl with | [_], _ => rfl
  have F4 := fun_mk (st := top 9) l4 c4 k4
  have b4 := F4.binds (ps := ["name"]) fun _ _ _ _ _ _ us hl => match us, hl with | [_], _ => rfl
  have F5 := fun_mk (st := top 14) l5 c5 k5
  have b5 := F5.binds (ps := ["_law_script"]) fun _ _ _ _ _ _ us hl => match us, hl with | [_], _ => rfl
  refine ⟨PySem.W.fnOf "law" "law" (defArgs (top 14)) (defBody (top 14)) (defScope (top 14)) .none kV5 dc5 pm5 an5 cd5 ct5, fun s v => .of_eq rfl, fun base _ _ => ?_⟩
  have G_q_cell_at := ok_q_cell_at (P := l.prog) (w := w) (base := base) B C F0 b0 (PySem.W.mg_of X G a0)
  have G_inside := ok_inside (P := l.prog) (w := w) (base := base) B C F1 b1 (PySem.W.mg_of X G a1)
  have G_place_name := ok_place_name (P := l.prog) (w := w) (base := base) B C G_inside F2 b2 (PySem.W.mg_of X G a2)
  have G_is_name := ok_is_name (P := l.prog) (w := w) (base := base) B C F3 b3 (PySem.W.mg_of X G a3)
  have G_place_of := ok_place_of (P := l.prog) (w := w) (base := base) B C G_is_name F4 b4 (PySem.W.mg_of X G a4)
  have G_law := ok_law (P := l.prog) (w := w) (base := base) B C G_q_cell_at G_place_name G_place_of F5
  exact G_law
theorem walk {l : PySem.W.OpenLaw} {q : Program} {loose : List Str} {XP : (Str → Option Value) → Heap → Prop} {YP : World → Heap → Prop} {d : DefRec} {K : Params → PySem.W.Frag} (hn : l.most = some 63) (hdf : d.params.defaults = [])
    (hY : ∀ (w : World) (h : Heap), YP w h → (K w.params).In h)
    (F : ∀ (w : World) (mg : Str → Option Value) (fa : Addr) (h : Heap), (K w.params).In h → h.Ns mainGlobals mg → mg d.name = some (.ref fa) →
      ∃ fd : FuncData, (∀ (s : Shared) (u : Value), BindsTo s fd ⟨[u], []⟩ [("_law_script", u)]) ∧ ∀ base : Heap, (K w.params).In base → base.Ns mainGlobals mg → FnOk l.prog w (K w.params) mg base CX0 3 fa fd ["_law_script"] (spM (K w.params) [] r_law))
    (true_ : ∀ ns : List Int, ns.length ≤ 63 → r_law [.lst (ns.map D.int)] = some (.ok (.val (.bl true)), [])) :
    PySem.W.WalkO q loose XP YP l.row.toRowW d [] (fun f vs => PySem.call f vs) :=
  L4.walk_ofL (n := 63) (k := 3) (x := "_law_script") (CX := fun _ => CX0) (sp := fun w => spM (K w.params) [] r_law) hn (by decide) hdf ⟨rfl, by decide, by decide⟩ hY F
    (fun w H a ns hl _ hS => law_sp (true_ ns hl) hS) fun _ _ _ _ _ z => z
end Toy
open PySem PySem.W PyProof.Rows
set_option maxRecDepth 100000 in
set_option maxHeartbeats 0 in
theorem PySem.Challenge.cw_slate_k14_whole_names_and_places_holds : PySem.Challenge.rw_slate_k14_whole_names_and_places.Holds := by
  w_on; o_law; k_head; (case hw => w_witness2)
  k_fill
  refine Toy.walk (l := PySem.Challenge.rw_slate_k14_whole_names_and_places) rfl rfl (fun w h Y => PySem.W.kIn_of Y) ?F Toy.law_true
  case F =>
    intro w mg fa h KX G hmg
    refine' Toy.all_mk KX G hmg ?a0 ?l0 ?c0 ?k0 ?a1 ?l1 ?c1 ?k1 ?a2 ?l2 ?c2 ?k2 ?a3 ?l3 ?c3 ?k3 ?a4 ?l4 ?c4 ?k4 ?a5 ?l5 ?c5 ?k5 ?z0 ?z1 ?z2 ?z3 ?z4 ?xg0 ?xg1 ?xg2 ?xg3
    (case a0 => k_is)
    (case l0 => k_is)
    (case c0 => k_is)
    (case k0 => k_is)
    (case a1 => k_is)
    (case l1 => k_is)
    (case c1 => k_is)
    (case k1 => k_is)
    (case a2 => k_is)
    (case l2 => k_is)
    (case c2 => k_is)
    (case k2 => k_is)
    (case a3 => k_is)
    (case l3 => k_is)
    (case c3 => k_is)
    (case k3 => k_is)
    (case a4 => k_is)
    (case l4 => k_is)
    (case c4 => k_is)
    (case k4 => k_is)
    (case a5 => k_is)
    (case l5 => k_is)
    (case c5 => k_is)
    (case k5 => k_is)
    (case z0 => k_is)
    (case z1 => k_is)
    (case z2 => k_is)
    (case z3 => k_is)
    (case z4 => k_is)
    (case xg0 => k_is)
    (case xg1 => k_is)
    (case xg2 => k_is)
    (case xg3 => k_is)
