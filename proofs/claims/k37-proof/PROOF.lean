import PyProof.Rows.All
import Wide.All
import OpenK.AllK
import Wide.FinOn
import PyProof.EqAt
import PyProof.EqKinds
import PyProof.TupleCall
import KE.BitLaws
import KE.KUnpack
import PySem.Challenge.RW_windfleet_k37_rooms_grown_and_clashing
set_option Elab.async false
set_option linter.all false
set_option maxRecDepth 100000
/-! THE HAND LAYER, for ints, bools, texts, own classes, lists, tuples, dicts, comprehensions, walks over dicts, enumerate, zip, reversed, texts, calls, loops. Paste it whole ahead of your own text; what your proof does not reach may be deleted. -/
namespace L2
open PySem PySem.Spec PyProof.Rows

/-- a key: an int or a str -/
abbrev Key := Sum Int Str
def keyIs : Key → Value → Bool
  | .inl k, v => Value.isInt k v
  | .inr x, v => Value.isStrOf x v
def keyH (w : World) : Key → Int
  | .inl k => hashInt k
  | .inr x => hashStr w x
theorem keyIs_shape : ∀ {k : Key} {v : Value}, keyIs k v = true → (∃ i t, k = Sum.inl i ∧ v = Value.int i t) ∨ (∃ x t, k = Sum.inr x ∧ v = Value.str x t)
  | .inl i, v, h => by
    obtain ⟨t, e⟩ := Value.isInt_shape (k := i) (v := v) h
    exact .inl ⟨i, t, rfl, e⟩
  | .inr x, v, h => by
    obtain ⟨t, e⟩ := Value.isStrOf_shape (x := x) (v := v) h
    exact .inr ⟨x, t, rfl, e⟩
theorem keyIs_int (i : Int) (t : Tok) : keyIs (.inl i) (.int i t) = true := by simp [keyIs, Value.isInt]
theorem keyIs_str (x : Str) (t : Tok) : keyIs (.inr x) (.str x t) = true := by simp [keyIs, Value.isStrOf]
theorem key_ll (a b : Int) : decide ((Sum.inl a : Key) = Sum.inl b) = (a == b) := by
  by_cases e : a = b
  · subst e; simp
  · have h : ¬ (Sum.inl a : Key) = Sum.inl b := fun q => e (Sum.inl.inj q)
    rw [decide_eq_false h]
    exact (beq_eq_false_iff_ne.mpr e).symm
theorem key_rr (a b : Str) : decide ((Sum.inr a : Key) = Sum.inr b) = decide (a = b) := by
  by_cases e : a = b
  · subst e; simp
  · have h : ¬ (Sum.inr a : Key) = Sum.inr b := fun q => e (Sum.inr.inj q)
    rw [decide_eq_false h, decide_eq_false e]
theorem key_lr (a : Int) (b : Str) : decide ((Sum.inl a : Key) = Sum.inr b) = false := decide_eq_false (fun q => nomatch q)
theorem key_rl (a : Str) (b : Int) : decide ((Sum.inr a : Key) = Sum.inl b) = false := decide_eq_false (fun q => nomatch q)

def mixKind (prog : Program) (w : World) : PySem.KeyKind prog w Key where
  is := keyIs
  hash := keyH w
  inj := fun v a b ha hb => by
    rcases keyIs_shape ha with ⟨i, t, rfl, rfl⟩ | ⟨x, t, rfl, rfl⟩
    · rcases keyIs_shape hb with ⟨j, u, rfl, e⟩ | ⟨y, u, rfl, e⟩
      · injection e with e1 _; rw [e1]
      · exact nomatch e
    · rcases keyIs_shape hb with ⟨j, u, rfl, e⟩ | ⟨y, u, rfl, e⟩
      · exact nomatch e
      · injection e with e1 _; rw [e1]
  byValue := fun k v h => by
    rcases keyIs_shape h with ⟨i, t, rfl, rfl⟩ | ⟨x, t, rfl, rfl⟩ <;> rfl
  pyHash := fun hv h => by
    rcases keyIs_shape hv with ⟨i, t, rfl, rfl⟩ | ⟨x, t, rfl, rfl⟩
    · exact wpAny_pyHash_int h
    · exact wpAny_pyHash_str h
  eqBool := fun hu hv h => by
    rcases keyIs_shape hu with ⟨i, t, rfl, rfl⟩ | ⟨x, t, rfl, rfl⟩
    · rcases keyIs_shape hv with ⟨j, u, rfl, rfl⟩ | ⟨y, u, rfl, rfl⟩
      · rw [key_ll] at h; exact wpAny_eqBool_int h
      · rw [key_lr] at h; exact SeqAt.EqAt.int_str i t y u _ _ _ _ h
    · rcases keyIs_shape hv with ⟨j, u, rfl, rfl⟩ | ⟨y, u, rfl, rfl⟩
      · rw [key_rl] at h; exact SeqAt.EqAt.str_int x t j u _ _ _ _ h
      · rw [key_rr] at h; exact wpAny_eqBool_str h
  «strs» := fun k x t v h => by
    rcases keyIs_shape h with ⟨i, u, rfl, e⟩ | ⟨y, u, rfl, e⟩
    · exact nomatch e
    · injection e with e1 _
      subst e1
      cases v <;> rfl

theorem mixKind_int (prog : Program) (w : World) (i : Int) (t : Tok) : (mixKind prog w).is (.inl i) (.int i t) = true := keyIs_int i t
theorem mixKind_str (prog : Program) (w : World) (x : Str) (t : Tok) : (mixKind prog w).is (.inr x) (.str x t) = true := keyIs_str x t
end L2

namespace L2
open PySem PySem.Spec PyProof.Rows

/-- a value, without the heap -/
inductive V where
  | non | bl (b : Bool) | int (i : Int) | str (x : Str) | byt (b : Array UInt8) | flt (b : UInt64) | ref (a : Addr) | ty (n : String)
  deriving DecidableEq

def RelV : V → Value → Prop
  | .non, u => u = Value.none
  | .bl b, u => u = Value.bool b
  | .int i, u => ∃ t, u = Value.int i t
  | .str x, u => ∃ t, u = Value.str x t
  | .byt b, u => ∃ t, u = Value.bytes b t
  | .flt b, u => ∃ t, u = Value.float b t
  | .ref a, u => u = Value.ref a
  | .ty n, u => u = Value.type n

abbrev Vals : List V → List Value → Prop := Paired RelV
theorem Vals.length {xs : List V} {us : List Value} (r : Vals xs us) : xs.length = us.length := Paired.length r
theorem Vals.get : ∀ {xs : List V} {us : List Value} {i : Nat} {x : V}, Vals xs us → xs[i]? = some x → ∃ u, us[i]? = some u ∧ RelV x u
  | _, _, _, _, .nil, e => by simp at e
  | _, _, 0, _, .cons r _, e => by simp at e; subst e; exact ⟨_, rfl, r⟩
  | _, _, i + 1, x, .cons _ t, e => by
    obtain ⟨u, h1, h2⟩ := Vals.get (i := i) (x := x) t (by simpa using e)
    exact ⟨u, by simpa using h1, h2⟩
theorem Vals.set {x : V} {u : Value} (r : RelV x u) : ∀ {xs : List V} {us : List Value} (i : Nat), Vals xs us → Vals (xs.set i x) (us.set i u)
  | _, _, _, .nil => .nil
  | _, _, 0, .cons _ t => .cons r t
  | _, _, i + 1, .cons q t => .cons q (Vals.set r i t)
theorem Vals.append : ∀ {xs ys : List V} {us ws : List Value}, Vals xs us → Vals ys ws → Vals (xs ++ ys) (us ++ ws)
  | _, _, _, _, .nil, s => s
  | _, _, _, _, .cons r t, s => .cons r (Vals.append t s)
theorem Vals.take : ∀ {xs : List V} {us : List Value} (n : Nat), Vals xs us → Vals (xs.take n) (us.take n)
  | _, _, 0, _ => .nil
  | _, _, _ + 1, .nil => .nil
  | _, _, n + 1, .cons r t => .cons r (Vals.take n t)
theorem Vals.drop : ∀ {xs : List V} {us : List Value} (n : Nat), Vals xs us → Vals (xs.drop n) (us.drop n)
  | _, _, 0, r => r
  | _, _, _ + 1, .nil => .nil
  | _, _, n + 1, .cons _ t => Vals.drop n t

def RelO : Option V → Option Value → Prop
  | some v, some u => RelV v u
  | none, none => True
  | _, _ => False
def KV {κ : Type} : List (κ × V) → List (κ × Value) → Prop := Paired fun (p : κ × V) (q : κ × Value) => p.1 = q.1 ∧ RelV p.2 q.2

/-- a key of a dict (00_mix): an int or a text -/
def kV : Key → V
  | .inl i => .int i
  | .inr x => .str x

/-- what stands at a tracked address -/
inductive HO where
  /-- a list -/
  | lst (xs : List V)
  /-- a tuple (never changes) -/
  | tup (xs : List V)
  /-- a dict whose keys are ints and texts; one whose keys are tuples of ints and texts (the empty one is both) -/
  | dK (kvs : List (Key × V)) | dT (kvs : List (List Key × V))
  /-- a set of ints: its members, its size -/
  | set (S : Int → Bool) (n : Nat)
  /-- an instance of the class at C, its dict at dx, its attributes -/
  | ins (C dx : Addr) (fs : List (Str × V))
  /-- the dict of the instance at x -/
  | own (x : Addr)
  /-- the dict of an exception -/
  | xd (fs : List (Str × V))
  /-- a bound method, f of x -/
  | met (f x : Addr)
  /-- a range object lo, lo + 1, .. below hi -/
  | rng (lo hi : Int)
  /-- a thing that is known to the object (the script; a dict while a loop walks it): read, never written while it is so -/
  | frz (o : Obj) (u : HO)
  /-- a code object's table -/
  | tbl (ps : Array Value)
  /-- any other thing, by what is true of its one object (a def of one's own: SetO a S n := HO.ext fun h => ..) -/
  | ext (φ : Heap → Prop)

abbrev Hp := Addr → Option HO
def upd (H : Hp) (a : Addr) (o : HO) : Hp := fun b => if b = a then some o else H b
theorem upd_same {H : Hp} {a : Addr} {o : HO} : upd H a o a = some o := by unfold upd; rw [if_pos rfl]
theorem upd_ne {H : Hp} {a b : Addr} {o : HO} (h : b ≠ a) : upd H a o b = H b := by unfold upd; rw [if_neg h]
/-- two objects of different content stand apart -/
theorem ne_of {H : Hp} {a b : Addr} {o u : HO} (h : H a = some o) (h' : H b = some u) (d : o ≠ u) : a ≠ b := by
  intro e; subst e; rw [h] at h'; exact d (Option.some.inj h')
theorem ne_of_none {H : Hp} {a b : Addr} {o : HO} (h : H a = some o) (h' : H b = none) : a ≠ b := by
  intro e; subst e; rw [h] at h'; cases h'

section
variable (P : Program) (w : World)
def ObjOk (H : Hp) (h : Heap) (a : Addr) : HO → Prop
  | .lst xs => xs.length ≤ sizeLine ∧ ∃ (its : List Value) (n : Nat), Vals xs its ∧ h.get? a = some { cls := .type "list", data := .seq its.toArray n }
  | .tup xs => xs.length ≤ sizeLine ∧ ∃ its : List Value, Vals xs its ∧ IsTup h a its.toArray
  | .dK kvs => kvs.length ≤ sizeLine ∧ (a == sysModules) = false ∧ ∃ vs, KV kvs vs ∧ h.DictOf (mixKind P w) a vs
  | .dT kvs => kvs.length ≤ sizeLine ∧ (a == sysModules) = false ∧ ∃ xs : List (List Key × Addr × Value),
      Paired (fun (p : List Key × V) (q : List Key × Addr × Value) => p.1 = q.1 ∧ H q.2.1 = some (.tup (p.1.map kV)) ∧ RelV p.2 q.2.2) kvs xs ∧
      ∃ o es ep, h.get? a = some o ∧ o.ExactDict ∧ o.data = .dict es ep ∧ es.toList = xs.map (entryOfKey (tupleKind (mixKind P w))) ∧ (xs.map (·.1)).Nodup
  | .set S n => h.SetOf (intKind P w) a S n
  | .ins C dx fs => H dx = some (.own a) ∧ fs.length ≤ 1000 ∧ dx ≠ a ∧ h.get? a = some (PySem.W.instObj C dx) ∧
      ∃ mA, h.Ns1 dx mA ∧ (∀ f, RelO (fs.lookup f) (mA f)) ∧ PySem.Within mA (fs.map (·.1))
  | .own _ => ∃ o, h.get? a = some o
  | .xd fs => ∃ mA, h.Ns1 a mA ∧ ∀ f, RelO (fs.lookup f) (mA f)
  | .rng lo hi => ∃ t u v, h.get? a = some { cls := .type "range", data := .fields #[.int lo t, .int hi u, .int 1 v] }
  | .frz o u => h.get? a = some o ∧ ObjOk H h a u
  | .tbl ps => h.get? a = some { cls := .none, data := .fields ps }
  | .met f x => h.get? a = some (PySem.W.methodObj (.ref f) (.ref x))
  | .ext φ => φ h ∧ (∃ o, h.get? a = some o) ∧ ∀ h1 h2 : Heap, φ h1 → (∀ o, h1.get? a = some o → h2.get? a = some o) → φ h2
/-- the abstract heap is held -/
def HOk (H : Hp) (h : Heap) : Prop := ∀ a o, H a = some o → ObjOk P w H h a o
end

section
variable {P : Program} {w : World} {H H' : Hp} {h h' : Heap} {a : Addr} {o : HO}
theorem ObjOk.lt (x : ObjOk P w H h a o) : a < h.objs.size := by
  cases o with
  | lst xs => obtain ⟨_, _, _, _, e⟩ := x; exact Heap.lt_size e
  | tup xs => obtain ⟨_, _, _, p⟩ := x; exact p.lt
  | dK kvs => obtain ⟨_, _, _, _, o, _, _, e, _⟩ := x; exact Heap.lt_size e
  | dT kvs => obtain ⟨_, _, _, _, o, _, _, e, _⟩ := x; exact Heap.lt_size e
  | set S n => obtain ⟨o, _, _, _, e, _⟩ := x; exact Heap.lt_size e
  | ins C dx fs => obtain ⟨_, _, _, e, _⟩ := x; exact Heap.lt_size e
  | own y => obtain ⟨_, e⟩ := x; exact Heap.lt_size e
  | xd fs => obtain ⟨_, ⟨_, _, _, e, _⟩, _⟩ := x; exact Heap.lt_size e
  | rng lo hi => obtain ⟨_, _, _, e⟩ := x; exact Heap.lt_size e
  | frz ob u => obtain ⟨e, _⟩ := x; exact Heap.lt_size e
  | tbl ps => exact Heap.lt_size (show h.get? a = some _ from x)
  | met f y => exact Heap.lt_size (show h.get? a = some _ from x)
  | ext φ => obtain ⟨_, ⟨_, e⟩, _⟩ := x; exact Heap.lt_size e
theorem Paired.mapP {α β : Type} {F G : α → β → Prop} : ∀ {l₁ : List α} {l₂ : List β}, Paired F l₁ l₂ → (∀ a b, F a b → G a b) → Paired G l₁ l₂
  | _, _, .nil, _ => .nil
  | _, _, .cons r t, f => .cons (f _ _ r) (Paired.mapP t f)
/-- what an object's description leans on: its own object, its own dict, the tuples -/
theorem ObjOk.stay (x : ObjOk P w H h a o) (k : ∀ b u, (b = a ∨ H b = some (.own a)) → h.get? b = some u → h'.get? b = some u)
    (ho : ∀ b, H b = some (.own a) → H' b = some (.own a)) (ht : ∀ b xs, H b = some (.tup xs) → H' b = some (.tup xs)) : ObjOk P w H' h' a o := by
  induction o with
  | lst xs => obtain ⟨z, its, n, r, e⟩ := x; exact ⟨z, its, n, r, k _ _ (.inl rfl) e⟩
  | tup xs => obtain ⟨z, its, r, ob, e, c⟩ := x; exact ⟨z, its, r, ob, k _ _ (.inl rfl) e, c⟩
  | dK kvs => obtain ⟨z, y, vs, r, ob, es, ep, e, c⟩ := x; exact ⟨z, y, vs, r, ob, es, ep, k _ _ (.inl rfl) e, c⟩
  | dT kvs =>
    obtain ⟨z, y, xs, r, ob, es, ep, e, c⟩ := x
    exact ⟨z, y, xs, Paired.mapP r fun p q z => ⟨z.1, ht _ _ z.2.1, z.2.2⟩, ob, es, ep, k _ _ (.inl rfl) e, c⟩
  | set S n => obtain ⟨ob, es, ep, t, e, c⟩ := x; exact ⟨ob, es, ep, t, k _ _ (.inl rfl) e, c⟩
  | ins C dx fs =>
    obtain ⟨d, z, ne, e, mA, ⟨od, es, ep, e2, c⟩, r⟩ := x
    exact ⟨ho _ d, z, ne, k _ _ (.inl rfl) e, mA, ⟨od, es, ep, k _ _ (.inr d) e2, c⟩, r⟩
  | own y => obtain ⟨ob, e⟩ := x; exact ⟨ob, k _ _ (.inl rfl) e⟩
  | xd fs => obtain ⟨mA, ⟨od, es, ep, e, c⟩, r⟩ := x; exact ⟨mA, ⟨od, es, ep, k _ _ (.inl rfl) e, c⟩, r⟩
  | rng lo hi => obtain ⟨t, u, v, e⟩ := x; exact ⟨t, u, v, k _ _ (.inl rfl) e⟩
  | frz ob u ih => obtain ⟨e, q⟩ := x; exact ⟨k _ _ (.inl rfl) e, ih q⟩
  | tbl ps =>
    have e : h.get? a = some { cls := .none, data := .fields ps } := x
    show h'.get? a = some { cls := .none, data := .fields ps }
    exact k a _ (.inl rfl) e
  | met f y =>
    have e : h.get? a = some (PySem.W.methodObj (.ref f) (.ref y)) := x
    show h'.get? a = some (PySem.W.methodObj (.ref f) (.ref y))
    exact k a _ (.inl rfl) e
  | ext φ => obtain ⟨p, ⟨o, e⟩, st⟩ := x; exact ⟨st _ _ p fun o q => k _ _ (.inl rfl) q, ⟨o, k _ _ (.inl rfl) e⟩, st⟩
theorem HOk.lt (x : HOk P w H h) (e : H a = some o) : a < h.objs.size := (x a o e).lt
theorem HOk.fresh (x : HOk P w H h) (e : h.objs.size ≤ a) : H a = none := by
  cases q : H a with
  | none => rfl
  | some u => exact absurd (Nat.lt_of_lt_of_le (x.lt q) e) (Nat.lt_irrefl _)
/-- every object of the heap is kept -/
theorem HOk.kept (x : HOk P w H h) (k : ∀ b u, h.get? b = some u → h'.get? b = some u) : HOk P w H h' := fun a o e =>
  (x a o e).stay (fun b u _ q => k b u q) (fun _ q => q) fun _ _ q => q
/-- a new object is laid and tracked -/
theorem HOk.laid (x : HOk P w H h) (k : ∀ b u, h.get? b = some u → h'.get? b = some u) (hp : h.objs.size ≤ a) (new : ObjOk P w (upd H a o) h' a o) : HOk P w (upd H a o) h' := fun b u e => by
  have hn := x.fresh hp
  by_cases hb : b = a
  · subst hb; rw [upd_same] at e; cases e; exact new
  · rw [upd_ne hb] at e
    exact (x b u e).stay (fun c v _ q => k c v q) (fun c q => by rw [upd_ne (ne_of_none q hn)]; exact q) fun c xs q => by rw [upd_ne (ne_of_none q hn)]; exact q
end

/-- what may be read as u: it is u, or a known u -/
def Rd (H : Hp) (a : Addr) (u : HO) : Prop := H a = some u ∨ ∃ o, H a = some (.frz o u)
theorem Rd.of {H : Hp} {a : Addr} {u : HO} (h : H a = some u) : Rd H a u := .inl h
theorem Rd.ok {P : Program} {w : World} {H : Hp} {h : Heap} {a : Addr} {u : HO} (r : Rd H a u) (x : HOk P w H h) : ObjOk P w H h a u := by
  rcases r with r | ⟨o, r⟩
  · exact x a u r
  · obtain ⟨_, q⟩ := x a _ r
    exact q
/-- what may be written -/
def Mut : Option HO → Prop
  | some (.lst _) => True
  | some (.dK _) => True
  | some (.dT _) => True
  | some (.set _ _) => True
  | some (.ins _ _ _) => True
  | some (.ext _) => True
  | _ => False
section
variable {P : Program} {w : World} {H : Hp} {h h' : Heap} {x e : Addr} {o' : HO}
/-- the object at e is changed: x itself, or the dict of the instance x -/
theorem HOk.write (ok : HOk P w H h) (mu : Mut (H x)) (he : e = x ∨ H e = some (.own x)) (k : ∀ b u, b ≠ e → h.get? b = some u → h'.get? b = some u) (heo : ∃ u, h'.get? e = some u)
    (new : ObjOk P w (upd H x o') h' x o') : HOk P w (upd H x o') h' := fun b u q => by
  have nown : ∀ c y, H c = some (.own y) → c ≠ x := fun c y r z => by subst z; rw [r] at mu; exact mu
  have ntup : ∀ c xs, H c = some (.tup xs) → c ≠ x := fun c xs r z => by subst z; rw [r] at mu; exact mu
  by_cases hb : b = x
  · subst hb; rw [upd_same] at q; cases q; exact new
  · rw [upd_ne hb] at q
    by_cases hbe : b = e
    · have q' : H b = some (.own x) := by
        rcases he with z | z
        · exact absurd (hbe.trans z) hb
        · rw [hbe]; exact z
      rw [q] at q'; cases q'
      obtain ⟨v, hv⟩ := heo
      exact ⟨v, by rw [hbe]; exact hv⟩
    · refine (ok b u q).stay (fun c v hc r => k c v ?_ r) (fun c r => by rw [upd_ne (nown c b r)]; exact r) fun c xs r => by rw [upd_ne (ntup c xs r)]; exact r
      rcases hc with rfl | hc
      · exact hbe
      · rintro rfl
        rcases he with z | z
        · exact nown c b hc z
        · rw [hc] at z; cases z; exact hb rfl
end

/-! ### kept unless tracked; of the frames at fs (the callers') the slots may change (an exception that passes writes there); of the records at ex (iterators) nothing is said -/
structure Un (fs ex : List Addr) (H H' : Hp) (h h' : Heap) : Prop where
  keep : ∀ b o, h.get? b = some o → H b = none → b ∉ fs → b ∉ ex → h'.get? b = some o
  slot : ∀ b o, h.get? b = some o → H b = none → b ∈ fs → b ∉ ex → ∃ sl, h'.get? b = some { o with slots := sl }
  free : ∀ b o, h.get? b = some o → H b = none → b ∉ ex → H' b = none
  there : ∀ b o, h.get? b = some o → b ∉ ex → ∃ o', h'.get? b = some o'
  tups : ∀ b xs, H b = some (.tup xs) → H' b = some (.tup xs)
  frzs : ∀ b o u, H b = some (.frz o u) → H' b = some (.frz o u)
  tbls : ∀ b ps, H b = some (.tbl ps) → ∃ more, H' b = some (.tbl (ps ++ more))
section
variable {fs fs' ex ex' : List Addr} {H H1 H2 : Hp} {h h1 h2 h' : Heap} {a x e : Addr} {o : HO}
theorem Un.any (u : Un fs ex H H1 h h1) {b : Addr} {ob : Obj} (q : h.get? b = some ob) (n : H b = none) (hx : b ∉ ex) : ∃ sl, h1.get? b = some { ob with slots := sl } := by
  by_cases hb : b ∈ fs
  · exact u.slot b ob q n hb hx
  · exact ⟨ob.slots, u.keep b ob q n hb hx⟩
theorem Un.trans (a : Un fs ex H H1 h h1) (b : Un fs ex H1 H2 h1 h2) : Un fs ex H H2 h h2 where
  keep := fun c ob q n hc hx => b.keep c ob (a.keep c ob q n hc hx) (a.free c ob q n hx) hc hx
  slot := fun c ob q n hc hx => by
    obtain ⟨sl, e1⟩ := a.slot c ob q n hc hx
    obtain ⟨sl', e2⟩ := b.slot c _ e1 (a.free c ob q n hx) hc hx
    exact ⟨sl', e2⟩
  free := fun c ob q n hx => by
    obtain ⟨o', e1⟩ := a.there c ob q hx
    exact b.free c o' e1 (a.free c ob q n hx) hx
  there := fun c ob q hx => by
    obtain ⟨o', e1⟩ := a.there c ob q hx
    exact b.there c o' e1 hx
  tups := fun c xs q => b.tups c xs (a.tups c xs q)
  frzs := fun c ob xs q => b.frzs c ob xs (a.frzs c ob xs q)
  tbls := fun c ps q => by
    obtain ⟨m1, e1⟩ := a.tbls c ps q
    obtain ⟨m2, e2⟩ := b.tbls c _ e1
    exact ⟨m1 ++ m2, by rw [e2, Array.append_assoc]⟩
theorem Un.kept (k : ∀ b u, h.get? b = some u → h'.get? b = some u) : Un fs ex H H h h' :=
  ⟨fun b ob q _ _ _ => k b ob q, fun b ob q _ _ _ => ⟨ob.slots, k b ob q⟩, fun _ _ _ n _ => n, fun b ob q _ => ⟨ob, k b ob q⟩, fun _ _ q => q, fun _ _ _ q => q, fun _ ps q => ⟨#[], by rw [q]; simp⟩⟩
theorem Un.refl : Un fs ex H H h h := Un.kept fun _ _ q => q
theorem Un.laid (k : ∀ b u, h.get? b = some u → h'.get? b = some u) (hp : h.objs.size ≤ a) (hn : H a = none) : Un fs ex H (upd H a o) h h' where
  keep := fun b u q _ _ _ => k b u q
  slot := fun b u q _ _ _ => ⟨u.slots, k b u q⟩
  free := fun b u q n _ => by rw [upd_ne (Nat.ne_of_lt (Nat.lt_of_lt_of_le (Heap.lt_size q) hp))]; exact n
  there := fun b u q _ => ⟨u, k b u q⟩
  tups := fun b xs q => by rw [upd_ne (ne_of_none q hn)]; exact q
  frzs := fun b u xs q => by rw [upd_ne (ne_of_none q hn)]; exact q
  tbls := fun b ps q => ⟨#[], by rw [upd_ne (ne_of_none q hn), q]; simp⟩
theorem Un.write (mu : Mut (H x)) (he : e = x ∨ H e = some (.own x)) (k : ∀ b u, b ≠ e → h.get? b = some u → h'.get? b = some u) (heo : ∃ u, h'.get? e = some u) : Un fs ex H (upd H x o) h h' := by
  have hx : ∀ b, H b = none → b ≠ x := fun b n z => by subst z; rw [n] at mu; exact mu
  have hb : ∀ b, H b = none → b ≠ e := fun b n z => by
    subst z
    rcases he with r | r
    · exact hx b n r
    · rw [n] at r; cases r
  have hm : ∀ b u, H b = some u → ¬ Mut (some u) → b ≠ x := fun b u q nm z => by subst z; rw [q] at mu; exact nm mu
  refine ⟨fun b u q n _ _ => k b u (hb b n) q, fun b u q n _ _ => ⟨u.slots, k b u (hb b n) q⟩, fun b u q n _ => by rw [upd_ne (hx b n)]; exact n, fun b u q _ => ?_,
    fun b xs q => by rw [upd_ne (hm b _ q fun z => z)]; exact q, fun b u xs q => by rw [upd_ne (hm b _ q fun z => z)]; exact q, fun b ps q => ⟨#[], by rw [upd_ne (hm b _ q fun z => z), q]; simp⟩⟩
  by_cases hbe : b = e
  · subst hbe; exact heo
  · exact ⟨u, k b u hbe q⟩
theorem Un.mono (u : Un fs ex H H1 h h1) (hs : ∀ b ∈ fs, b ∈ fs') (hx : ∀ b ∈ ex, b ∈ ex') : Un fs' ex' H H1 h h1 :=
  ⟨fun b ob q n hb he => u.keep b ob q n (fun z => hb (hs b z)) fun z => he (hx b z), fun _ _ q n _ he => u.any q n fun z => he (hx _ z), fun b ob q n he => u.free b ob q n fun z => he (hx b z), fun b ob q he => u.there b ob q fun z => he (hx b z), u.tups, u.frzs, u.tbls⟩
end

/-! ### the heap without what is tracked -/
def trk (h : Heap) (H : Hp) : List Addr := (List.range h.objs.size).filter fun a => (H a).isSome
def hidT (h : Heap) (H : Hp) : Heap := PySem.W.hideAll h (trk h H)
theorem hidT_size (h : Heap) (H : Hp) : (hidT h H).objs.size = h.objs.size := PySem.W.hideAll_size _ _
theorem hidT_get {h : Heap} {H : Hp} {b : Addr} {o : Obj} (e : h.get? b = some o) (n : H b = none) : (hidT h H).get? b = some o :=
  PySem.W.hideAll_get _ e fun hm => by
    have q : (H b).isSome = true := (List.mem_filter.mp hm).2
    rw [n] at q; simp at q
theorem of_hidT {h : Heap} {H : Hp} {b : Addr} {o : Obj} (e : (hidT h H).get? b = some o) : h.get? b = some o ∧ H b = none := by
  have e' : h.get? b = some o := PySem.W.of_hideAll (trk h H) e
  refine ⟨e', ?_⟩
  cases q : H b with
  | none => rfl
  | some x =>
    have hm : b ∈ trk h H := List.mem_filter.mpr ⟨List.mem_range.mpr (Heap.lt_size e'), by simp [q]⟩
    have z : (hidT h H).get? b = none := PySem.W.hideAll_none (trk h H) hm
    rw [z] at e; cases e

/-! ### OpenK's ledger, filled with every new object but one -/
def allNews (g h : Heap) (L : Addr) : List (Addr × Obj) := (List.range h.objs.size).filterMap fun a => if a = L ∨ (g.get? a).isSome = true then none else (h.get? a).map fun o => (a, o)
def rest (g h : Heap) (L d : Addr) : List (Addr × Obj) := (allNews g h L).filter fun p => decide (p.1 ≠ d)
end L2

namespace L2
open PySem PySem.Spec PyProof.Rows

/-- the module's facts, over the base: the heap at the law's entry without what is tracked there -/
structure Mod (K : PySem.W.Frag) (mg : Str → Option Value) (base : Heap) : Prop where
  kin : K.In base
  glob : base.Ns mainGlobals mg
  blt : ∃ mb, base.Ns builtinsNs mb ∧ ∀ x : Str, x ≠ "__name__" → mb x = bootBuiltins x
  nolimit : base.NoLimit

/-- the context: a def's body (or a comprehension's block) running. base: fixed through the whole law; s₀, H₀: the entry; outer: the frames whose slots others may change (a def's callers); stack: all frames that run;
   ex: iterators that were made ahead of the entry and are walked here (a comprehension's); fn: the names whose cells were made at the entry (a def: all; a comprehension's block: its own); calm: not within an except suite; pn: pins that every state bears; xe: what is wanted of an exception that leaves the code -/
structure Cx where
  prog : Program
  w : World
  K : PySem.W.Frag
  mg : Str → Option Value
  base : Heap
  A : Around
  N : List Str
  s_0 : Shared
  H_0 : Hp
  env : Env
  outer : List Env
  stack : List Env
  ex : List Addr
  fn : Str → Bool
  calm : Bool
  pn : List (Addr × Obj)
  xe : Value → Shared → Prop
/-- the callers' frames -/
def frs (l : List Env) : List Addr := l.filterMap (·.frame)
abbrev Cx.fs (X : Cx) : List Addr := frs X.outer

def Vis (sc : Scope) (x : Str) : Prop := sc.names.lookup x = some .local ∨ sc.names.lookup x = some .cell ∨ sc.names.lookup x = some .free
def Loc (sc : Scope) (x : Str) : Prop := sc.names.lookup x = some .local ∨ sc.names.lookup x = some .cell
def Look (env : Env) (h : Heap) (m : Str → Option Value) (x : Str) (u : Value) : Prop :=
  (env.kindOf x = some .local ∧ m x = some u) ∨ ((env.kindOf x = some .cell ∨ env.kindOf x = some .free) ∧ ∃ c, env.cells.lookup x = some c ∧ h.IsCell c (some u))

structure Cx.Ok (X : Cx) : Prop where
  mod : Mod X.K X.mg X.base
  kind : X.env.scope.kind = .function
  glob : X.env.globals = mainGlobals
  blt : X.env.builtins = builtinsNs
  above : X.s_0.heap.objs.size ≤ X.env.locals
  inj : ∀ x y c, X.env.cells.lookup x = some c → X.env.cells.lookup y = some c → x = y
  has : ∀ x, (X.env.kindOf x = some .cell ∨ X.env.kindOf x = some .free) → ∃ c, X.env.cells.lookup x = some c
  cab : ∀ x c, X.fn x = true → X.env.cells.lookup x = some c → X.s_0.heap.objs.size ≤ c
  hd : X.calm = true → X.A.handled = none
  frames : X.A.frames = some X.stack
  stk : X.stack = X.outer ∨ (X.stack = X.env :: X.outer ∧ X.env.frame = some X.env.locals)
  exf : ∀ b ∈ X.ex, b ≠ X.env.locals ∧ ∀ x c, X.env.cells.lookup x = some c → c ≠ b
  bs : ∀ b o, X.base.get? b = some o → X.s_0.heap.get? b = some o ∧ X.H_0 b = none
  bsz : X.base.objs.size ≤ X.s_0.heap.objs.size
  noex : ∀ b o, X.base.get? b = some o → b ∉ X.ex
  exfs : ∀ b ∈ X.ex, b ∉ X.fs
  funs : X.s_0.heap.FunFrames X.base X.outer
  frf : ∀ b ∈ X.fs, X.H_0 b = none

structure Inv (X : Cx) (pins : List (Addr × Obj)) (σ : List (Option V)) (H : Hp) (s : Shared) : Prop where
  ok : X.Ok
  os : s.os = X.s_0.os
  bare : AllBare s.gens
  base : Un X.fs X.ex X.H_0 H X.s_0.heap s.heap
  loc : ∃ m, s.heap.Ns X.env.locals m ∧ ∀ (i : Nat) (x : Str) (v : V), X.N[i]? = some x → σ[i]? = some (some v) → Vis X.env.scope x → ∃ u, RelV v u ∧ Look X.env s.heap m x u
  cell : ∀ x c, X.env.cells.lookup x = some c → ∃ v, s.heap.IsCell c v
  free : H X.env.locals = none
  freeC : ∀ x c, X.env.cells.lookup x = some c → H c = none
  pin : ∀ p ∈ X.pn ++ pins, s.heap.get? p.1 = some p.2 ∧ H p.1 = none ∧ p.1 ≠ X.env.locals ∧ p.1 ∉ X.fs ∧ ∀ v, p.2.data ≠ .cell v
  hok : HOk X.prog X.w H s.heap
  len : σ.length = X.N.length

section
variable {X : Cx} {pins : List (Addr × Obj)} {σ : List (Option V)} {H H' : Hp} {s : Shared} {h' : Heap}

theorem Cx.Ok.nofr (ok : X.Ok) {b : Addr} {o : Obj} (e : X.base.get? b = some o) : b ∉ X.fs := fun hb => by
  have := (ok.funs.mem hb).1
  rw [e] at this; cases this
theorem Inv.bs (I : Inv X pins σ H s) : ∀ b o, X.base.get? b = some o → s.heap.get? b = some o ∧ H b = none := fun b o e =>
  ⟨I.base.keep b o (I.ok.bs b o e).1 (I.ok.bs b o e).2 (I.ok.nofr e) (I.ok.noex b o e), I.base.free b o (I.ok.bs b o e).1 (I.ok.bs b o e).2 (I.ok.noex b o e)⟩
theorem Inv.bk (I : Inv X pins σ H s) : ∀ b o, X.base.get? b = some o → s.heap.get? b = some o := fun b o e => (I.bs b o e).1
theorem Inv.mod (I : Inv X pins σ H s) : Mod X.K X.mg X.base := I.ok.mod
theorem Inv.kIn (I : Inv X pins σ H s) : X.K.In s.heap := I.ok.mod.kin.keeps I.bk
theorem Inv.nolimit (I : Inv X pins σ H s) : s.heap.NoLimit := I.ok.mod.nolimit.keeps I.bk
/-- the frame over the base: for OpenK's rules (K.In X.base is I.mod.kin) -/
theorem Inv.fr (I : Inv X pins σ H s) : ∃ m, Fr X.base X.env.locals s.heap m :=
  let ⟨m, hn, _⟩ := I.loc
  ⟨m, hn, I.bk, Nat.le_trans I.ok.bsz I.ok.above⟩
theorem Inv.lt (I : Inv X pins σ H s) : X.env.locals < s.heap.objs.size := let ⟨_, hn, _⟩ := I.loc; hn.lt
theorem Inv.sz (I : Inv X pins σ H s) : X.s_0.heap.objs.size ≤ s.heap.objs.size := Nat.le_trans I.ok.above (Nat.le_of_lt I.lt)
theorem Inv.nofs (I : Inv X pins σ H s) {a : Addr} (h : s.heap.objs.size ≤ a) : a ∉ X.fs := fun hb => by
  obtain ⟨_, o, ho, _⟩ := I.ok.funs.mem hb
  exact absurd (Nat.lt_of_lt_of_le (Heap.lt_size ho) (Nat.le_trans I.sz h)) (Nat.lt_irrefl _)
theorem Inv.cne (I : Inv X pins σ H s) : ∀ x c, X.env.cells.lookup x = some c → c ≠ X.env.locals := fun x c e z => by
  obtain ⟨v, o, ho, hd⟩ := I.cell x c e
  obtain ⟨m, ⟨o', es, ep, ho', hd', _⟩, _⟩ := I.loc
  rw [z, ho'] at ho; cases ho; rw [hd'] at hd; cases hd
theorem Inv.funs (I : Inv X pins σ H s) : s.heap.FunFrames X.base X.outer := by
  have all : ∀ (l : List Env), (∀ b ∈ frs l, b ∈ X.fs) → X.s_0.heap.FunFrames X.base l → s.heap.FunFrames X.base l := by
    intro l
    induction l with
    | nil => intro _ _; trivial
    | cons env r ih =>
      intro hs hl
      obtain ⟨hk, ⟨L, o, hf, hn, ho, hd⟩, hr⟩ := hl
      have hL : L ∈ X.fs := hs L (by unfold frs; rw [List.filterMap_cons, hf]; exact List.mem_cons_self)
      obtain ⟨sl, e⟩ := I.base.slot L o ho (I.ok.frf L hL) hL fun z => I.ok.exfs L z hL
      exact ⟨hk, ⟨L, _, hf, hn, e, hd⟩, ih (fun b hb => hs b (by unfold frs; rw [List.filterMap_cons, hf]; exact List.mem_cons_of_mem _ hb)) hr⟩
  exact all X.outer (fun _ hb => hb) I.ok.funs

/-- the frames that run, for a call -/
theorem Inv.stack (I : Inv X pins σ H s) : s.heap.FunFrames X.base X.stack := by
  rcases I.ok.stk with e | ⟨e, hf⟩
  · rw [e]; exact I.funs
  · rw [e]
    obtain ⟨m, hn, _⟩ := I.loc
    refine .cons (by rw [I.ok.kind]; decide) hf hn ?_ I.funs
    exact Heap.get?_none_of_le (Nat.le_trans I.ok.bsz I.ok.above)
theorem Inv.stkSub (I : Inv X pins σ H s) : ∀ b ∈ frs X.stack, b ∈ X.env.locals :: X.fs := fun b hb => by
  rcases I.ok.stk with e | ⟨e, hf⟩
  · rw [e] at hb; exact List.mem_cons_of_mem _ hb
  · rw [e] at hb
    unfold frs at hb
    rw [List.filterMap_cons, hf] at hb
    exact hb
theorem Inv.stkFree (I : Inv X pins σ H s) : ∀ b ∈ frs X.stack, H b = none := fun b hb => by
  rcases List.mem_cons.mp (I.stkSub b hb) with e | hb
  · rw [e]; exact I.free
  · obtain ⟨_, o, ho, _⟩ := I.ok.funs.mem hb
    exact I.base.free b o ho (I.ok.frf b hb) fun z => I.ok.exfs b z hb

/-- THE STEP: the untracked objects but the frame and the records at ch are kept (the callers' frames up to slots), the frame's map is kept, the new abstract heap is held -/
theorem Inv.step {g' : Array GenState} {t' : Nat} {d' : Drawn} {ch : List Addr} (I : Inv X pins σ H s)
    (hch : ∀ b ∈ ch, (b ∈ X.ex ∨ X.s_0.heap.objs.size ≤ b) ∧ b ≠ X.env.locals ∧ (∀ x c, X.env.cells.lookup x = some c → c ≠ b) ∧ ∀ p ∈ X.pn ++ pins, p.1 ≠ b)
    (keep : ∀ b o, b ≠ X.env.locals → b ∉ X.fs → b ∉ ch → s.heap.get? b = some o → H b = none → h'.get? b = some o)
    (slot : ∀ b o, b ≠ X.env.locals → b ∈ X.fs → b ∉ ch → s.heap.get? b = some o → H b = none → ∃ sl, h'.get? b = some { o with slots := sl }) (free : ∀ b o, b ∉ ch → s.heap.get? b = some o → H b = none → H' b = none)
    (there : ∀ b o, b ∉ ch → s.heap.get? b = some o → ∃ o', h'.get? b = some o')
    (tups : ∀ b xs, H b = some (.tup xs) → H' b = some (.tup xs)) (frzs : ∀ b o u, H b = some (.frz o u) → H' b = some (.frz o u)) (tbls : ∀ b ps, H b = some (.tbl ps) → ∃ more, H' b = some (.tbl (ps ++ more)))
    (ns : ∀ m, s.heap.Ns X.env.locals m → h'.Ns X.env.locals m) (hok : HOk X.prog X.w H' h') (hg : AllBare g') :
    Inv X pins σ H' { s with heap := h', gens := g', drawn := d', toks := t' } := by
  have neL : ∀ b o, X.s_0.heap.get? b = some o → b ≠ X.env.locals := fun b o e => Nat.ne_of_lt (Nat.lt_of_lt_of_le (Heap.lt_size e) I.ok.above)
  have neC : ∀ b o, X.s_0.heap.get? b = some o → b ∉ X.ex → b ∉ ch := fun b o e hx hb => by
    rcases (hch b hb).1 with z | z
    · exact hx z
    · exact absurd (Nat.lt_of_lt_of_le (Heap.lt_size e) z) (Nat.lt_irrefl _)
  have cellK : ∀ x c, X.env.cells.lookup x = some c → ∀ v, s.heap.IsCell c v → h'.IsCell c v := fun x c e v ⟨o, ho, hd⟩ => by
    have nch : c ∉ ch := fun z => (hch c z).2.2.1 x c e rfl
    by_cases hc : c ∈ X.fs
    · obtain ⟨sl, q⟩ := slot c o (I.cne x c e) hc nch ho (I.freeC x c e)
      exact ⟨_, q, hd⟩
    · exact ⟨o, keep c o (I.cne x c e) hc nch ho (I.freeC x c e), hd⟩
  refine ⟨I.ok, I.os, hg, ⟨fun b o e n hb hx => ?_, fun b o e n hb hx => ?_, fun b o e n hx => ?_, fun b o e hx => ?_, fun b xs e => tups b xs (I.base.tups b xs e), fun b o xs e => frzs b o xs (I.base.frzs b o xs e), fun b ps e => ?_⟩, ?_, fun x c e => ?_, ?_, fun x c e => ?_, fun p hp => ?_, hok, I.len⟩
  · exact keep b o (neL b o e) hb (neC b o e hx) (I.base.keep b o e n hb hx) (I.base.free b o e n hx)
  · obtain ⟨sl, e1⟩ := I.base.slot b o e n hb hx
    obtain ⟨sl', e2⟩ := slot b _ (neL b o e) hb (neC b o e hx) e1 (I.base.free b o e n hx)
    exact ⟨sl', e2⟩
  · obtain ⟨o', e1⟩ := I.base.there b o e hx
    exact free b o' (neC b o e hx) e1 (I.base.free b o e n hx)
  · obtain ⟨o', e1⟩ := I.base.there b o e hx
    exact there b o' (neC b o e hx) e1
  · obtain ⟨m1, e1⟩ := I.base.tbls b ps e
    obtain ⟨m2, e2⟩ := tbls b _ e1
    exact ⟨m1 ++ m2, by rw [e2, Array.append_assoc]⟩
  · obtain ⟨m, hn, hl⟩ := I.loc
    refine ⟨m, ns m hn, fun i x v e1 e2 e3 => ?_⟩
    obtain ⟨u, r, l⟩ := hl i x v e1 e2 e3
    refine ⟨u, r, ?_⟩
    rcases l with l | ⟨k, c, e, z⟩
    · exact .inl l
    · exact .inr ⟨k, c, e, cellK x c e _ z⟩
  · obtain ⟨v, z⟩ := I.cell x c e
    exact ⟨v, cellK x c e v z⟩
  · obtain ⟨m, ⟨o, _, _, ho, _⟩, _⟩ := I.loc
    exact free _ o (fun z => (hch _ z).2.1 rfl) ho I.free
  · obtain ⟨v, o, ho, hd⟩ := I.cell x c e
    exact free c o (fun z => (hch c z).2.2.1 x c e rfl) ho (I.freeC x c e)
  · obtain ⟨e, n, ne, nf, d⟩ := I.pin p hp
    have nch : p.1 ∉ ch := fun z => (hch p.1 z).2.2.2 p hp rfl
    exact ⟨keep p.1 p.2 ne nf nch e n, free p.1 p.2 nch e n, ne, nf, d⟩
/-- .. where the frame's own object is kept too -/
theorem Inv.un {t' : Nat} (I : Inv X pins σ H s) (u : Un X.fs [] H H' s.heap h') (hok : HOk X.prog X.w H' h') : Inv X pins σ H' { s with heap := h', toks := t' } := by
  obtain ⟨m, ⟨o, es, ep, ho, r⟩, _⟩ := id I.loc
  obtain ⟨sl, hL⟩ := u.any ho I.free (by simp)
  exact I.step (g' := s.gens) (d' := s.drawn) (ch := []) (fun _ z => nomatch z) (fun b o _ hb _ e n => u.keep b o e n hb (by simp)) (fun b o _ hb _ e n => u.slot b o e n hb (by simp)) (fun b o _ e n => u.free b o e n (by simp)) (fun b o _ e => u.there b o e (by simp)) u.tups u.frzs u.tbls (fun m' hm => by
    obtain ⟨o', es', ep', ho', r'⟩ := hm
    rw [ho] at ho'; cases ho'
    exact ⟨_, es', ep', hL, r'⟩) hok I.bare
/-- behind a call (or a comprehension's block): the slots of this frame may have changed too, the records at ch may have turned -/
theorem Inv.call {g' : Array GenState} {t' : Nat} {d' : Drawn} {ch : List Addr} (I : Inv X pins σ H s) (u : Un (frs X.stack) ch H H' s.heap h') (hok : HOk X.prog X.w H' h') (hg : AllBare g')
    (hch : ∀ b ∈ ch, (b ∈ X.ex ∨ X.s_0.heap.objs.size ≤ b) ∧ b ≠ X.env.locals ∧ (∀ x c, X.env.cells.lookup x = some c → c ≠ b) ∧ ∀ p ∈ X.pn ++ pins, p.1 ≠ b) :
    Inv X pins σ H' { s with heap := h', gens := g', drawn := d', toks := t' } := by
  obtain ⟨m, ⟨o, es, ep, ho, r⟩, _⟩ := id I.loc
  obtain ⟨sl, hL⟩ := u.any ho I.free fun z => (hch _ z).2.1 rfl
  exact I.step (ch := ch) hch (fun b o hL hb hc e n => u.keep b o e n (fun z => (List.mem_cons.mp (I.stkSub b z)).elim hL hb) hc) (fun b o _ _ hc e n => u.any e n hc) (fun b o hc e n => u.free b o e n hc) (fun b o hc e => u.there b o e hc) u.tups u.frzs u.tbls (fun m' hm => by
    obtain ⟨o', es', ep', ho', r'⟩ := hm
    rw [ho] at ho'; cases ho'
    exact ⟨_, es', ep', hL, r'⟩) hok hg
/-- an untracked record of ours (an iterator) has turned -/
theorem Inv.turned {t' : Nat} {it : Addr} (I : Inv X pins σ H s) (k : ∀ b o, b ≠ it → s.heap.get? b = some o → h'.get? b = some o) (hn : H it = none) (hL : it ≠ X.env.locals)
    (h1 : it ∈ X.ex ∨ X.s_0.heap.objs.size ≤ it) (h2 : ∀ x c, X.env.cells.lookup x = some c → c ≠ it) (h3 : ∀ p ∈ X.pn ++ pins, p.1 ≠ it) : Inv X pins σ H { s with heap := h', toks := t' } := by
  have nit : ∀ b u, H b = some u → b ≠ it := fun b u e z => by rw [z, hn] at e; cases e
  refine I.step (g' := s.gens) (d' := s.drawn) (ch := [it]) (fun b hb => ?_) (fun b o _ _ hc e _ => k b o (fun z => hc (by simp [z])) e) (fun b o _ _ hc e _ => ⟨o.slots, k b o (fun z => hc (by simp [z])) e⟩) (fun _ _ _ _ n => n)
    (fun b o hc e => ⟨o, k b o (fun z => hc (by simp [z])) e⟩) (fun _ _ e => e) (fun _ _ _ e => e) (fun b ps e => ⟨#[], by rw [e]; simp⟩) (fun m hm => ?_) (fun b u e => ?_) I.bare
  · have e : b = it := by simpa using hb
    subst e
    exact ⟨h1, hL, h2, h3⟩
  · obtain ⟨o, es, ep, ho, r⟩ := hm
    exact ⟨o, es, ep, k _ o (Ne.symm hL) ho, r⟩
  · refine (I.hok b u e).stay (fun c v hc q => k c v ?_ q) (fun _ q => q) fun _ _ q => q
    rcases hc with z | z
    · rw [z]; exact nit b u e
    · exact nit c _ z
theorem Inv.tok (I : Inv X pins σ H s) (t : Nat) : Inv X pins σ H { s with toks := t } := I.un (h' := s.heap) (t' := t) Un.refl I.hok
/-- all objects kept -/
theorem Inv.kept {t' : Nat} (I : Inv X pins σ H s) (k : ∀ b u, s.heap.get? b = some u → h'.get? b = some u) : Inv X pins σ H { s with heap := h', toks := t' } := I.un (Un.kept k) (I.hok.kept k)
/-- a new object laid and tracked -/
theorem Inv.laid {a : Addr} {o : HO} {t' : Nat} (I : Inv X pins σ H s) (k : ∀ b u, s.heap.get? b = some u → h'.get? b = some u) (hp : s.heap.objs.size ≤ a) (new : ObjOk X.prog X.w (upd H a o) h' a o) :
    Inv X pins σ (upd H a o) { s with heap := h', toks := t' } := I.un (Un.laid k hp (I.hok.fresh hp)) (I.hok.laid k hp new)
/-- an object written -/
theorem Inv.write {x e : Addr} {o : HO} {t' : Nat} (I : Inv X pins σ H s) (mu : Mut (H x)) (he : e = x ∨ H e = some (.own x)) (k : ∀ b u, b ≠ e → s.heap.get? b = some u → h'.get? b = some u) (heo : ∃ u, h'.get? e = some u)
    (new : ObjOk X.prog X.w (upd H x o) h' x o) : Inv X pins σ (upd H x o) { s with heap := h', toks := t' } := I.un (Un.write mu he k heo) (I.hok.write mu he k heo new)
/-- forgetting slots, pins -/
theorem Inv.weak {σ' : List (Option V)} (I : Inv X pins σ H s) (hl : σ'.length = σ.length) (w : ∀ (i : Nat) v, σ'[i]? = some (some v) → σ[i]? = some (some v)) : Inv X pins σ' H s :=
  ⟨I.ok, I.os, I.bare, I.base, let ⟨m, hn, hl'⟩ := I.loc; ⟨m, hn, fun i x v e1 e2 e3 => hl' i x v e1 (w i v e2) e3⟩, I.cell, I.free, I.freeC, I.pin, I.hok, hl.trans I.len⟩
theorem Inv.pins_of {pins' : List (Addr × Obj)} (I : Inv X pins σ H s) (h : ∀ p ∈ pins', s.heap.get? p.1 = some p.2 ∧ H p.1 = none ∧ p.1 ≠ X.env.locals ∧ p.1 ∉ X.fs ∧ ∀ v, p.2.data ≠ .cell v) : Inv X pins' σ H s :=
  ⟨I.ok, I.os, I.bare, I.base, I.loc, I.cell, I.free, I.freeC, fun p hp => (List.mem_append.mp hp).elim (fun z => I.pin p (List.mem_append_left _ z)) (h p), I.hok, I.len⟩

theorem nodup_ix {N : List Str} (hN : N.Nodup) {i j : Nat} {x : Str} (a : N[i]? = some x) (b : N[j]? = some x) : i = j := by
  obtain ⟨h1, e1⟩ := List.getElem?_eq_some_iff.mp a
  obtain ⟨h2, e2⟩ := List.getElem?_eq_some_iff.mp b
  exact (List.getElem_inj hN).mp (e1.trans e2.symm)

/-- a name is stored; what changed -/
theorem store_ok2 {M : Model} {A : Around} {E : Value → Shared → Prop} {i : Nat} {x : Str} {v : V} {u : Value} {Q : Unit → Shared → Prop} (I : Inv X pins σ H s) (hN : X.N.Nodup) (hi : X.N[i]? = some x) (hx : Loc X.env.scope x) (r : RelV v u)
    (h : ∀ s', Inv X pins (σ.set i (some v)) H s' → (∃ a, Heap.SameBut a s.heap s'.heap ∧ (a = X.env.locals ∨ X.env.cells.lookup x = some a)) → Q () s') (hf : X.fn x = true ∨ X.env.scope.names.lookup x = some .local := by first | exact .inl rfl | exact .inr rfl | assumption) : wpAny M A (storeName X.env x u) Q E s := by
  obtain ⟨m, hn, hl⟩ := id I.loc
  have hcls : (X.env.scope.kind == .class || (X.env.scope.kind == .module && X.env.locals != X.env.globals)) = false := by rw [I.ok.kind]; rfl
  have hiσ : i < σ.length := by rw [I.len]; exact (List.getElem?_eq_some_iff.mp hi).1
  have cne := I.cne
  have tracked : ∀ {a : Addr} {h' : Heap}, (∃ o, s.heap.get? a = some o ∧ H a = none) → Heap.SameBut a s.heap h' → HOk X.prog X.w H h' := fun {a h'} ha hs b ob e => by
    obtain ⟨_, _, hfree⟩ := ha
    refine (I.hok b ob e).stay (fun c w' hc q => (hs.2 c ?_).trans q) (fun _ q => q) fun _ _ q => q
    rintro rfl
    rcases hc with rfl | hc
    · rw [hfree] at e; cases e
    · rw [hfree] at hc; cases hc
  rcases hx with hk | hk
  · refine wpAny_storeName_local hk hn (fun h' hn' hs => ?_) hcls
    obtain ⟨oL, _, _, hoL, _⟩ := id hn
    refine h _ ⟨I.ok, I.os, I.bare, ⟨fun b o e n hb hx => ?_, fun b o e n hb hx => ?_, I.base.free, fun b o e hx => ?_, I.base.tups, I.base.frzs, I.base.tbls⟩, ⟨_, hn', fun j y v' e1 e2 e3 => ?_⟩, fun y c e => ?_, I.free, I.freeC, fun p hp => ?_, tracked ⟨oL, hoL, I.free⟩ hs, by simpa using I.len⟩ ⟨_, hs, .inl rfl⟩
    · exact (hs.2 b (Nat.ne_of_lt (Nat.lt_of_lt_of_le (Heap.lt_size e) I.ok.above))).trans (I.base.keep b o e n hb hx)
    · obtain ⟨sl, e1⟩ := I.base.slot b o e n hb hx
      exact ⟨sl, (hs.2 b (Nat.ne_of_lt (Nat.lt_of_lt_of_le (Heap.lt_size e) I.ok.above))).trans e1⟩
    · obtain ⟨o', e1⟩ := I.base.there b o e hx
      exact ⟨o', (hs.2 b (Nat.ne_of_lt (Nat.lt_of_lt_of_le (Heap.lt_size e) I.ok.above))).trans e1⟩
    · by_cases hj : j = i
      · subst hj
        rw [hi] at e1; cases e1
        rw [List.getElem?_set_self hiσ] at e2
        cases e2
        exact ⟨u, r, .inl ⟨hk, by simp⟩⟩
      · rw [List.getElem?_set_ne (Ne.symm hj)] at e2
        obtain ⟨u', r', q⟩ := hl j y v' e1 e2 e3
        refine ⟨u', r', ?_⟩
        rcases q with ⟨k, e⟩ | ⟨k, c, e, z⟩
        · refine .inl ⟨k, ?_⟩
          have : y ≠ x := fun e => hj (nodup_ix hN e1 (e ▸ hi))
          simp [this, e]
        · exact .inr ⟨k, c, e, z.sameBut hs (cne y c e)⟩
    · obtain ⟨w', z⟩ := I.cell y c e
      exact ⟨w', z.sameBut hs (cne y c e)⟩
    · obtain ⟨e, n, ne, nf, d⟩ := I.pin p hp
      exact ⟨(hs.2 p.1 ne).trans e, n, ne, nf, d⟩
  · have hfn : X.fn x = true := by
      rcases hf with z | z
      · exact z
      · rw [z] at hk; cases hk
    obtain ⟨c, hc⟩ := I.ok.has x (.inl hk)
    obtain ⟨w', z⟩ := I.cell x c hc
    refine wpAny_storeName_cell I.ok.kind hk hc z (fun h' hc' hs => ?_)
    obtain ⟨oc, hoc, hocd⟩ := id z
    refine h { s with heap := h' } ⟨I.ok, I.os, I.bare, ⟨fun b o e n hb hx => ?_, fun b o e n hb hx => ?_, I.base.free, fun b o e hx => ?_, I.base.tups, I.base.frzs, I.base.tbls⟩, ⟨m, hn.sameBut hs (Ne.symm (cne x c hc)), fun j y v' e1 e2 e3 => ?_⟩, fun y c' e => ?_, I.free, I.freeC, fun p hp => ?_, tracked ⟨oc, hoc, I.freeC x c hc⟩ hs, by simpa using I.len⟩ ⟨c, hs, .inr hc⟩
    · exact (hs.2 b (Nat.ne_of_lt (Nat.lt_of_lt_of_le (Heap.lt_size e) (I.ok.cab x c hfn hc)))).trans (I.base.keep b o e n hb hx)
    · obtain ⟨sl, e1⟩ := I.base.slot b o e n hb hx
      exact ⟨sl, (hs.2 b (Nat.ne_of_lt (Nat.lt_of_lt_of_le (Heap.lt_size e) (I.ok.cab x c hfn hc)))).trans e1⟩
    · obtain ⟨o', e1⟩ := I.base.there b o e hx
      exact ⟨o', (hs.2 b (Nat.ne_of_lt (Nat.lt_of_lt_of_le (Heap.lt_size e) (I.ok.cab x c hfn hc)))).trans e1⟩
    · by_cases hj : j = i
      · subst hj
        rw [hi] at e1; cases e1
        rw [List.getElem?_set_self hiσ] at e2
        cases e2
        exact ⟨u, r, .inr ⟨.inl hk, c, hc, hc'⟩⟩
      · rw [List.getElem?_set_ne (Ne.symm hj)] at e2
        obtain ⟨u', r', q⟩ := hl j y v' e1 e2 e3
        refine ⟨u', r', ?_⟩
        rcases q with q | ⟨k, c', e, z'⟩
        · exact .inl q
        · refine .inr ⟨k, c', e, z'.sameBut hs ?_⟩
          rintro rfl
          exact hj (nodup_ix hN e1 (I.ok.inj _ _ _ e hc ▸ hi))
    · by_cases hcc : c' = c
      · subst hcc; exact ⟨_, hc'⟩
      · obtain ⟨w2, z2⟩ := I.cell y c' e
        exact ⟨w2, z2.sameBut hs hcc⟩
    · obtain ⟨e, n, ne, nf, d⟩ := I.pin p hp
      refine ⟨(hs.2 p.1 ?_).trans e, n, ne, nf, d⟩
      intro q
      rw [q, hoc] at e
      have q' : oc = p.2 := Option.some.inj e
      exact d w' (by rw [← q']; exact hocd)
theorem store_ok {M : Model} {A : Around} {E : Value → Shared → Prop} {i : Nat} {x : Str} {v : V} {u : Value} {Q : Unit → Shared → Prop} (I : Inv X pins σ H s) (hN : X.N.Nodup) (hi : X.N[i]? = some x) (hx : Loc X.env.scope x) (r : RelV v u)
    (h : ∀ s', Inv X pins (σ.set i (some v)) H s' → Q () s') (hf : X.fn x = true ∨ X.env.scope.names.lookup x = some .local := by first | exact .inl rfl | exact .inr rfl | assumption) : wpAny M A (storeName X.env x u) Q E s :=
  store_ok2 I hN hi hx r (fun s' I' _ => h s' I') hf
/-- behind a call or a block, the state as it is -/
theorem Inv.call' {s' : Shared} {ch : List Addr} (I : Inv X pins σ H s) (ho : s'.os = s.os) (u : Un (frs X.stack) ch H H' s.heap s'.heap) (hok : HOk X.prog X.w H' s'.heap) (hg : AllBare s'.gens)
    (hch : ∀ b ∈ ch, (b ∈ X.ex ∨ X.s_0.heap.objs.size ≤ b) ∧ b ≠ X.env.locals ∧ (∀ x c, X.env.cells.lookup x = some c → c ≠ b) ∧ ∀ p ∈ X.pn ++ pins, p.1 ≠ b) : Inv X pins σ H' s' := by
  obtain ⟨h', g', d', t', o'⟩ := s'
  have e : o' = s.os := ho
  subst e
  exact I.call (g' := g') (t' := t') (d' := d') u hok hg hch
end

/-! ### the judgements -/
/-- an exception: its class, its own dict's address (where it has one), the abstract heap behind it -/
abbrev XK := Value → Option Addr → Hp → Prop
abbrev St := List (Option V)
abbrev VK := V → Hp → Prop
/-- an expression's reading; a test's; an argument list's -/
abbrev TE := St → Hp → VK → Prop
abbrev TT := St → Hp → (Bool → Hp → Prop) → Prop
abbrev TA := St → Hp → (List V → Hp → Prop) → Prop
/-- what is wanted behind a statement -/
structure Ends where
  nx : St → Hp → Prop
  rt : VK
  bk : St → Hp → Prop := fun _ _ => False
  ct : St → Hp → Prop := fun _ _ => False
abbrev TS := Ends → St → Hp → Prop

def EP (X : Cx) (pins : List (Addr × Obj)) (σ : St) (Q : VK) (u : Value) (s' : Shared) : Prop := ∃ v H', Inv X pins σ H' s' ∧ RelV v u ∧ Q v H'
def TP (X : Cx) (pins : List (Addr × Obj)) (σ : St) (Q : Bool → Hp → Prop) (b : Bool) (s' : Shared) : Prop := ∃ H', Inv X pins σ H' s' ∧ Q b H'
def AP (X : Cx) (pins : List (Addr × Obj)) (σ : St) (Q : List V → Hp → Prop) (us : List Value) (s' : Shared) : Prop := ∃ vs H', Inv X pins σ H' s' ∧ Vals vs us ∧ Q vs H'
def SP (X : Cx) (pins : List (Addr × Obj)) (D : Ends) (f : Flow) (s' : Shared) : Prop :=
  match f with
  | .next => ∃ σ' H', Inv X pins σ' H' s' ∧ D.nx σ' H'
  | .brk => ∃ σ' H', Inv X pins σ' H' s' ∧ D.bk σ' H'
  | .cont => ∃ σ' H', Inv X pins σ' H' s' ∧ D.ct σ' H'
  | .ret u => ∃ v σ' H', Inv X pins σ' H' s' ∧ RelV v u ∧ D.rt v H'

def PE (X : Cx) (e : Expr) (t : TE) : Prop :=
  ∀ (pins : List (Addr × Obj)) (s : Shared) (σ : St) (H : Hp) (Q : VK), Inv X pins σ H s → t σ H Q → wpAny (model X.prog X.w) X.A (eval e X.env) (EP X pins σ Q) X.xe s
def PT (X : Cx) (e : Expr) (t : TT) : Prop :=
  ∀ (pins : List (Addr × Obj)) (s : Shared) (σ : St) (H : Hp) (Q : Bool → Hp → Prop), Inv X pins σ H s → t σ H Q → wpAny (model X.prog X.w) X.A (isTrue e X.env (eval e X.env)) (TP X pins σ Q) X.xe s
/-- a test whatever its 'whole' is (and, or) -/
def PW (X : Cx) (e : Expr) (t : TT) : Prop :=
  ∀ (whole : Sem Value) (pins : List (Addr × Obj)) (s : Shared) (σ : St) (H : Hp) (Q : Bool → Hp → Prop), Inv X pins σ H s → t σ H Q → wpAny (model X.prog X.w) X.A (isTrue e X.env whole) (TP X pins σ Q) X.xe s
theorem PW.pt {X : Cx} {e : Expr} {t : TT} (h : PW X e t) : PT X e t := h _
/-- an argument list (no star), from the left -/
def PA (X : Cx) (es : List Expr) (t : TA) : Prop :=
  ∀ (pos : Pos) (pins : List (Addr × Obj)) (s : Shared) (σ : St) (H : Hp) (Q : List V → Hp → Prop), Inv X pins σ H s → t σ H Q → wpAny (model X.prog X.w) X.A (spliced (backTo pos (starEach es X.env))) (AP X pins σ Q) X.xe s
def PS (X : Cx) (st : Stmt) (t : TS) : Prop :=
  ∀ (pins : List (Addr × Obj)) (s : Shared) (σ : St) (H : Hp) (D : Ends), Inv X pins σ H s → t D σ H → wpAny (model X.prog X.w) X.A (exec st X.env) (SP X pins D) X.xe s
def PSs (X : Cx) (st : List Stmt) (t : TS) : Prop :=
  ∀ (pins : List (Addr × Obj)) (s : Shared) (σ : St) (H : Hp) (D : Ends), Inv X pins σ H s → t D σ H → wpAny (model X.prog X.w) X.A (execs st X.env) (SP X pins D) X.xe s
/-- weaken the end -/
theorem thn {α : Type} {t : Sem α} {Q Q' : α → Shared → Prop} {M : Model} {A : Around} {E : Value → Shared → Prop} {s : Shared} (h : wpAny M A t Q E s) (hQ : ∀ a s, Q a s → Q' a s) : wpAny M A t Q' E s := wpAny_mono h hQ fun _ _ x => x
end L2

namespace L2
open PySem PySem.Spec PyProof.Rows
section
variable {X : Cx}

/-- two expressions in a row -/
theorem bin {a b : Expr} {ta tb : TE} (ha : PE X a ta) (hb : PE X b tb) {pins : List (Addr × Obj)} {s : Shared} {σ : St} {H : Hp} {R : V → V → Hp → Prop} (I : Inv X pins σ H s) (h : ta σ H fun x H1 => tb σ H1 fun y H2 => R x y H2)
    {α : Type} {Q : α → Shared → Prop} {f : Value → Value → Sem α}
    (hf : ∀ v u s2 x y H2, Inv X pins σ H2 s2 → RelV x v → RelV y u → R x y H2 → wpAny (model X.prog X.w) X.A (f v u) Q X.xe s2) :
    wpAny (model X.prog X.w) X.A (eval a X.env) (fun v s₁ => wpAny (model X.prog X.w) X.A (eval b X.env) (fun u s₂ => wpAny (model X.prog X.w) X.A (f v u) Q X.xe s₂) X.xe s₁) X.xe s := by
  refine thn (ha pins s σ H _ I h) fun v s1 ⟨x, H1, I1, r1, q1⟩ => ?_
  refine thn (hb pins s1 σ H1 _ I1 q1) fun u s2 ⟨y, H2, I2, r2, q2⟩ => ?_
  exact hf v u s2 x y H2 I2 r1 r2 q2

/-! ### names and constants -/
def tVar (i : Nat) : TE := fun σ H Q => ∃ v, σ[i]? = some (some v) ∧ Q v H
def tC (v : V) : TE := fun _ H Q => Q v H
theorem pe_var {i : Nat} {x : Str} {pos : Pos} (hN : X.N[i]? = some x) (hv : Vis X.env.scope x) (hd : (x == ("__debug__" : Str)) = false := by decide) (hcd : (x == ("__classdict__" : Str)) = false := by decide) : PE X (.Name x pos) (tVar i) := by
  intro pins s σ H Q I h
  obtain ⟨v, e, h⟩ := h
  obtain ⟨m, hn, hl⟩ := I.loc
  obtain ⟨u, r, l⟩ := hl i x v hN e hv
  have fin : EP X pins σ Q u s := ⟨v, H, I, r, h⟩
  rcases l with ⟨hk, hm⟩ | ⟨hk, c, hc, hcell⟩
  · exact wpAny_Name (wpAny_loadName_local I.ok.kind hk hn hm fin) hd
  · rcases hk with hk | hk
    · exact wpAny_Name (wpAny_loadName_cell I.ok.kind hk hc hcell fin) hd
    · exact wpAny_Name (wpAny_loadName_free I.ok.kind hk hc hcell fin hcd) hd
theorem pe_int {i j pos} : PE X (.Constant (.int i) j pos) (tC (.int i)) := fun _ _ _ H _ I h => wpAny_Constant_int ⟨.int i, H, I.tok _, ⟨_, rfl⟩, h⟩
theorem pe_bl {b j pos} : PE X (.Constant (.bool b) j pos) (tC (.bl b)) := fun _ _ _ H _ I h => Constant_bool ⟨.bl b, H, I, rfl, h⟩
theorem pe_non {j pos} : PE X (.Constant .none j pos) (tC .non) := fun _ _ _ H _ I h => Constant_none ⟨.non, H, I, rfl, h⟩

/-- a global name of the def -/
def Gl (X : Cx) (x : Str) : Prop := X.env.kindOf x = some .globalImplicit
theorem ld_glob {E : Value → Shared → Prop} {pins : List (Addr × Obj)} {s : Shared} {σ : St} {H : Hp} {x : Str} {u : Value} {pos : Pos} {Q : Value → Shared → Prop} (I : Inv X pins σ H s) (hg : Gl X x) (hm : X.mg x = some u) (h : Q u s)
    (hd : (x == ("__debug__" : Str)) = false := by decide) : wpAny (model X.prog X.w) X.A (eval (.Name x pos) X.env) Q E s :=
  Calls.Name_function_global I.ok.kind hg (Calls.loadGlobal_global (by rw [I.ok.glob]; exact I.mod.glob.keeps I.bk) hm h) hd
theorem ld_blt {E : Value → Shared → Prop} {pins : List (Addr × Obj)} {s : Shared} {σ : St} {H : Hp} {x : Str} {u : Value} {pos : Pos} {Q : Value → Shared → Prop} (I : Inv X pins σ H s) (hg : Gl X x) (hm : X.mg x = none) (hv : bootBuiltins x = some u) (h : Q u s)
    (hn : x ≠ "__name__" := by decide) (hd : (x == ("__debug__" : Str)) = false := by decide) : wpAny (model X.prog X.w) X.A (eval (.Name x pos) X.env) Q E s := by
  obtain ⟨mb, h1, h2⟩ := I.mod.blt
  exact Calls.Name_function_global I.ok.kind hg (Calls.loadGlobal_builtin (by rw [I.ok.glob]; exact I.mod.glob.keeps I.bk) hm (by rw [I.ok.blt]; exact h1.keeps I.bk) ((h2 x hn).trans hv) h) hd
/-- a module's constant, a class, a function, as a value -/
theorem pe_glob {x : Str} {v : V} {u : Value} {pos : Pos} (hg : Gl X x) (hm : X.mg x = some u) (r : RelV v u) (hd : (x == ("__debug__" : Str)) = false := by decide) : PE X (.Name x pos) (tC v) :=
  fun _ _ _ H _ I h => ld_glob I hg hm ⟨v, H, I, r, h⟩ hd
theorem pe_bltn {x : Str} {v : V} {u : Value} {pos : Pos} (hg : Gl X x) (hm : X.mg x = none) (hv : bootBuiltins x = some u) (r : RelV v u) (hn : x ≠ "__name__" := by decide) (hd : (x == ("__debug__" : Str)) = false := by decide) : PE X (.Name x pos) (tC v) :=
  fun _ _ _ H _ I h => ld_blt I hg hm hv ⟨v, H, I, r, h⟩ hn hd

/-! ### arithmetic -/
/-- two ints -/
def t2I (ta tb : TE) (k : Int → Int → Hp → Prop) : St → Hp → Prop := fun σ H => ta σ H fun x H1 => tb σ H1 fun y H2 => ∃ i j, x = .int i ∧ y = .int j ∧ k i j H2
def tAdd (ta tb : TE) : TE := fun σ H Q => t2I ta tb (fun i j H2 => Q (.int (i + j)) H2) σ H
def tSub (ta tb : TE) : TE := fun σ H Q => t2I ta tb (fun i j H2 => Q (.int (i - j)) H2) σ H
/-- the left factor below 2^64 -/
def tMul (ta tb : TE) : TE := fun σ H Q => t2I ta tb (fun i j H2 => (-(2 ^ 64) < i ∧ i < 2 ^ 64) ∧ Q (.int (i * j)) H2) σ H
variable {a b : Expr} {ta tb : TE} {pos : Pos}

/-! ### comparisons -/
def PC (X : Cx) (op : CmpOp) (a b : Expr) (t : TE) : Prop :=
  ∀ (pins : List (Addr × Obj)) (s : Shared) (σ : St) (H : Hp) (Q : VK), Inv X pins σ H s → t σ H Q →
    wpAny (model X.prog X.w) X.A (eval a X.env) (fun v s₁ => wpAny (model X.prog X.w) X.A (eval b X.env) (fun u s₂ => wpAny (model X.prog X.w) X.A (compareOp op v u) (EP X pins σ Q) X.xe s₂) X.xe s₁) X.xe s
theorem nobehind (b : Expr) {op : CmpOp} (h : op ≠ .In) (h2 : op ≠ .NotIn) : behindInMarks op b = false := by
  have e1 : (op == CmpOp.In) = false := by cases op <;> first | rfl | exact absurd rfl h
  have e2 : (op == CmpOp.NotIn) = false := by cases op <;> first | rfl | exact absurd rfl h2
  cases b <;> simp [behindInMarks, e1, e2]
def tCmp (p : Int → Int → Bool) (ta tb : TE) : TE := fun σ H Q => t2I ta tb (fun i j H2 => Q (.bl (p i j)) H2) σ H
abbrev tLt : TE → TE → TE := tCmp fun i j => decide (i < j)
abbrev tLe : TE → TE → TE := tCmp fun i j => decide (i ≤ j)
abbrev tGt : TE → TE → TE := tCmp fun i j => decide (j < i)
abbrev tGe : TE → TE → TE := tCmp fun i j => decide (j ≤ i)
abbrev tEqI : TE → TE → TE := tCmp fun i j => decide (i = j)
abbrev tNeI : TE → TE → TE := tCmp fun i j => !decide (i = j)
/-- is None -/
def tIsN (ta : TE) : TE := fun σ H Q => ta σ H fun x H1 => Q (.bl (decide (x = .non))) H1
def tNotN (ta : TE) : TE := fun σ H Q => ta σ H fun x H1 => Q (.bl (!decide (x = .non))) H1
/-- a comparison as a value, as a test -/
def tB (t : TE) : TT := fun σ H Q => t σ H fun x H1 => ∃ c, x = .bl c ∧ Q c H1
theorem pt_cmp {op : CmpOp} {t : TE} (h : PC X op a b t) (h1 : behindInMarks op b = false := by first | exact nobehind _ (by decide) (by decide) | rfl) : PT X (.Compare a [op] [b] pos) (tB t) := by
  intro pins s σ H Q I hw
  refine wpAny_isTrue_Compare1 (thn (h pins s σ H _ I hw) fun v s1 h1 => thn h1 fun u s2 h2 => thn h2 fun c s3 ⟨x, H1, I1, r1, q1⟩ => ?_) h1
  obtain ⟨d, rfl, q⟩ := q1
  cases r1
  exact wpAny_truthy_bool ⟨H1, I1, q⟩
/-- an expression whose value is a bool, as a test -/
theorem pt_val {e : Expr} {t : TE} (h : PE X e t) (he : ∀ whole, isTrue e X.env whole = (do let v ← whole; standAt e.pos; holding [v] (truthy v)) := by intro _; rfl) : PT X e (tB t) := by
  intro pins s σ H Q I hw
  refine isTrue_plain (thn (h pins s σ H _ I hw) fun v s1 ⟨x, H1, I1, r1, q1⟩ => ?_) (he _)
  obtain ⟨d, rfl, q⟩ := q1
  cases r1
  exact wpAny_truthy_bool ⟨H1, I1, q⟩

/-! ### and, or, not -/
variable {tA tB' : TT} {rest : List Expr}
def tAnd (t u : TT) : TT := fun σ H Q => t σ H fun c H1 => if c = true then u σ H1 Q else Q false H1
def tOr (t u : TT) : TT := fun σ H Q => t σ H fun c H1 => if c = true then Q true H1 else u σ H1 Q
def tNot (t : TT) : TT := fun σ H Q => t σ H fun c H1 => Q (!c) H1
theorem pw_and1 (ha : PT X a tA) : PW X (.BoolOp .And [a] pos) tA := by
  intro wh pins s σ H Q I h
  refine isTrue_and (thn (ha pins s σ H Q I h) fun c s1 e => ?_)
  cases c with
  | true => exact isTrue_and_nil e
  | false => exact e
theorem pw_or1 (ha : PT X a tA) : PW X (.BoolOp .Or [a] pos) tA := by
  intro wh pins s σ H Q I h
  refine isTrue_or (thn (ha pins s σ H Q I h) fun c s1 e => ?_)
  cases c with
  | false => exact isTrue_or_nil e
  | true => exact e
theorem pw_and (ha : PT X a tA) (hb : PW X (.BoolOp .And (b :: rest) pos) tB') : PW X (.BoolOp .And (a :: b :: rest) pos) (tAnd tA tB') := by
  intro wh pins s σ H Q I h
  refine isTrue_and (thn (ha pins s σ H _ I h) fun c s1 ⟨H1, I1, q1⟩ => ?_)
  cases c with
  | true => exact hb wh pins s1 σ H1 Q I1 q1
  | false => exact ⟨H1, I1, q1⟩
theorem pw_or (ha : PT X a tA) (hb : PW X (.BoolOp .Or (b :: rest) pos) tB') : PW X (.BoolOp .Or (a :: b :: rest) pos) (tOr tA tB') := by
  intro wh pins s σ H Q I h
  refine isTrue_or (thn (ha pins s σ H _ I h) fun c s1 ⟨H1, I1, q1⟩ => ?_)
  cases c with
  | true => exact ⟨H1, I1, q1⟩
  | false => exact hb wh pins s1 σ H1 Q I1 q1
theorem pt_not (ha : PT X a tA) : PT X (.UnaryOp .Not a pos) (tNot tA) := by
  intro pins s σ H Q I h
  exact isTrue_not (ha pins s σ H (fun c H1 => Q (!c) H1) I h)
/-- .. as values (bools) -/
def tAndV (ta tb : TE) : TE := fun σ H Q => ta σ H fun x H1 => ∃ c, x = .bl c ∧ if c = true then tb σ H1 Q else Q (.bl false) H1
def tOrV (ta tb : TE) : TE := fun σ H Q => ta σ H fun x H1 => ∃ c, x = .bl c ∧ if c = true then Q (.bl true) H1 else tb σ H1 Q
def tNotV (ta : TE) : TE := fun σ H Q => ta σ H fun x H1 => ∃ c, x = .bl c ∧ Q (.bl (!c)) H1
theorem pe_one {op} {t : TE} (h : PE X a t) : PE X (.BoolOp op [a] pos) t := fun pins s σ H Q I hw => BoolOp_one (h pins s σ H Q I hw)
theorem pe_and (ha : PE X a ta) (hb : PE X (.BoolOp .And (b :: rest) pos) tb) : PE X (.BoolOp .And (a :: b :: rest) pos) (tAndV ta tb) := by
  intro pins s σ H Q I h
  refine BoolOp_and (thn (ha pins s σ H _ I h) fun v s1 ⟨x, H1, I1, r1, q1⟩ => ?_)
  obtain ⟨c, rfl, q1⟩ := q1
  cases r1
  refine wpAny_truthy_bool ?_
  cases c with
  | true => exact hb pins s1 σ H1 Q I1 q1
  | false => exact ⟨.bl false, H1, I1, rfl, q1⟩
theorem pe_not (ha : PE X a ta) : PE X (.UnaryOp .Not a pos) (tNotV ta) := by
  intro pins s σ H Q I h
  refine UnaryOp_ (thn (ha pins s σ H _ I h) fun v s1 ⟨x, H1, I1, r1, q1⟩ => ?_)
  obtain ⟨c, rfl, q1⟩ := q1
  cases r1
  exact not_of (wpAny_truthy_bool ⟨.bl (!c), H1, I1, rfl, q1⟩)
/-- a if t else b -/
def tIf (t : TT) (ta tb : TE) : TE := fun σ H Q => t σ H fun c H1 => if c = true then ta σ H1 Q else tb σ H1 Q
end
end L2

namespace L2
open PySem PySem.Spec PyProof.Rows

/-! ### a list, a tuple that is read: tracked, frozen, or an object of the module -/
def SqL (K : PySem.W.Frag) (H : Hp) (a : Addr) (xs : List V) : Prop :=
  Rd H a (.lst xs) ∨
    ∃ (o : Obj) (its : Array Value) (n : Nat), K.lookup a = some o ∧ o.cls = .type "list" ∧ o.dict = none ∧ o.data = .seq its n ∧ its.size ≤ sizeLine ∧ Vals xs its.toList
def SqT (K : PySem.W.Frag) (H : Hp) (a : Addr) (xs : List V) : Prop :=
  Rd H a (.tup xs) ∨
    ∃ (o : Obj) (its : Array Value) (n : Nat), K.lookup a = some o ∧ o.cls = .type "tuple" ∧ o.data = .seq its n ∧ its.size ≤ sizeLine ∧ Vals xs its.toList
def absV : Value → Option V
  | .none => some .non
  | .bool b => some (.bl b)
  | .int i _ => some (.int i)
  | .str x _ => some (.str x)
  | .bytes b _ => some (.byt b)
  | .float b _ => some (.flt b)
  | .ref a => some (.ref a)
  | .type n => some (.ty n)
  | _ => none
theorem RelV.abs {x : V} {u : Value} (r : RelV x u) : absV u = some x := by
  cases x with
  | non => cases r; rfl
  | bl _ => cases r; rfl
  | int _ => obtain ⟨t, rfl⟩ := r; rfl
  | str _ => obtain ⟨t, rfl⟩ := r; rfl
  | byt _ => obtain ⟨t, rfl⟩ := r; rfl
  | flt _ => obtain ⟨t, rfl⟩ := r; rfl
  | ref _ => cases r; rfl
  | ty _ => cases r; rfl
theorem RelV.inj {x y : V} {u : Value} (r : RelV x u) (q : RelV y u) : x = y := Option.some.inj (r.abs.symm.trans q.abs)
theorem Vals.inj : ∀ {xs ys : List V} {us : List Value}, Vals xs us → Vals ys us → xs = ys
  | _, _, _, .nil, .nil => rfl
  | _, _, _, .cons r t, .cons r' t' => by rw [r.inj r', Vals.inj t t']
section
variable {X : Cx} {pins : List (Addr × Obj)} {σ : St} {H : Hp} {s : Shared} {a : Addr} {xs ys : List V}
theorem SqL.of {K : PySem.W.Frag} (h : H a = some (.lst xs)) : SqL K H a xs := .inl (.inl h)
theorem SqT.of {K : PySem.W.Frag} (h : H a = some (.tup xs)) : SqT K H a xs := .inl (.inl h)
theorem Inv.list (I : Inv X pins σ H s) (h : SqL X.K H a xs) : ∃ its : List Value, Vals xs its ∧ PlainL s.heap a its.toArray ∧ xs.length ≤ sizeLine := by
  rcases h with h | ⟨o, its, n, hk, hc, hd, hs, hz, r⟩
  · obtain ⟨z, its, n, r, e⟩ := h.ok I.hok
    exact ⟨its, r, ⟨_, n, e, rfl, rfl, rfl⟩, z⟩
  · refine ⟨its.toList, r, ⟨o, n, I.kIn a o hk, hc, hd, by simpa using hs⟩, ?_⟩
    have e := r.length
    simp only [Array.length_toList] at e
    omega
theorem Inv.tuple (I : Inv X pins σ H s) (h : SqT X.K H a xs) : ∃ its : List Value, Vals xs its ∧ IsTup s.heap a its.toArray ∧ xs.length ≤ sizeLine := by
  rcases h with h | ⟨o, its, n, hk, hc, hs, hz, r⟩
  · obtain ⟨z, its, r, p⟩ := h.ok I.hok
    exact ⟨its, r, p, z⟩
  · refine ⟨its.toList, r, ⟨o, I.kIn a o hk, hc, n, by simpa using hs⟩, ?_⟩
    have e := r.length
    simp only [Array.length_toList] at e
    omega
theorem Inv.list_inj (I : Inv X pins σ H s) (h : SqL X.K H a xs) (h' : SqL X.K H a ys) : xs = ys := by
  obtain ⟨its, r, ⟨o, n, e, _, _, d⟩, _⟩ := I.list h
  obtain ⟨its', r', ⟨o', n', e', _, _, d'⟩, _⟩ := I.list h'
  rw [e] at e'; cases e'
  rw [d] at d'
  injection d' with d1 _
  have : its = its' := by simpa using congrArg Array.toList d1
  subst this
  exact r.inj r'
theorem Inv.tuple_inj (I : Inv X pins σ H s) (h : SqT X.K H a xs) (h' : SqT X.K H a ys) : xs = ys := by
  obtain ⟨its, r, ⟨o, e, _, n, d⟩, _⟩ := I.tuple h
  obtain ⟨its', r', ⟨o', e', _, n', d'⟩, _⟩ := I.tuple h'
  rw [e] at e'; cases e'
  rw [d] at d'
  injection d' with d1 _
  have : its = its' := by simpa using congrArg Array.toList d1
  subst this
  exact r.inj r'
end

/-! ### another wish about exceptions -/
abbrev Cx.wish (X : Cx) (E : Value → Shared → Prop) : Cx := { X with xe := E }
/-- no exception leaves -/
abbrev Cx.nox (X : Cx) : Cx := X.wish fun _ _ => False
theorem Cx.Ok.wish {X : Cx} (ok : X.Ok) (E : Value → Shared → Prop) : (X.wish E).Ok :=
  ⟨ok.mod, ok.kind, ok.glob, ok.blt, ok.above, ok.inj, ok.has, ok.cab, ok.hd, ok.frames, ok.stk, ok.exf, ok.bs, ok.bsz, ok.noex, ok.exfs, ok.funs, ok.frf⟩
theorem Cx.Ok.unwish {X : Cx} {E : Value → Shared → Prop} (ok : (X.wish E).Ok) : X.Ok :=
  ⟨ok.mod, ok.kind, ok.glob, ok.blt, ok.above, ok.inj, ok.has, ok.cab, ok.hd, ok.frames, ok.stk, ok.exf, ok.bs, ok.bsz, ok.noex, ok.exfs, ok.funs, ok.frf⟩
section
variable {X : Cx} {pins : List (Addr × Obj)} {σ : St} {H : Hp} {s : Shared} {E : Value → Shared → Prop}
theorem Inv.wish (I : Inv X pins σ H s) (E : Value → Shared → Prop) : Inv (X.wish E) pins σ H s := ⟨I.ok.wish E, I.os, I.bare, I.base, I.loc, I.cell, I.free, I.freeC, I.pin, I.hok, I.len⟩
theorem Inv.unwish (I : Inv (X.wish E) pins σ H s) : Inv X pins σ H s := ⟨I.ok.unwish, I.os, I.bare, I.base, I.loc, I.cell, I.free, I.freeC, I.pin, I.hok, I.len⟩
theorem SP.unwish {D : Ends} {f : Flow} {s' : Shared} (h : SP (X.wish E) pins D f s') : SP X pins D f s' := by
  cases f with
  | next => obtain ⟨σ', H', I, q⟩ := h; exact ⟨σ', H', I.unwish, q⟩
  | brk => obtain ⟨σ', H', I, q⟩ := h; exact ⟨σ', H', I.unwish, q⟩
  | cont => obtain ⟨σ', H', I, q⟩ := h; exact ⟨σ', H', I.unwish, q⟩
  | ret u => obtain ⟨v, σ', H', I, r, q⟩ := h; exact ⟨v, σ', H', I.unwish, r, q⟩
theorem PE.nox {e : Expr} {t : TE} (h : PE X.nox e t) : PE X e t := fun pins s σ H Q I hw =>
  wpAny_mono (h pins s σ H Q (I.wish _) hw) (fun _ _ ⟨v, H', I', r, q⟩ => ⟨v, H', I'.unwish, r, q⟩) fun _ _ z => False.elim z
theorem PT.nox {e : Expr} {t : TT} (h : PT X.nox e t) : PT X e t := fun pins s σ H Q I hw =>
  wpAny_mono (h pins s σ H Q (I.wish _) hw) (fun _ _ ⟨H', I', q⟩ => ⟨H', I'.unwish, q⟩) fun _ _ z => False.elim z
theorem PSs.nox {st : List Stmt} {t : TS} (h : PSs X.nox st t) : PSs X st t := fun pins s σ H D I hw =>
  wpAny_mono (h pins s σ H D (I.wish _) hw) (fun _ _ q => q.unwish) fun _ _ z => False.elim z
end

/-! ### blocks and small statements -/
section
variable {X : Cx} {st : Stmt} {rest : List Stmt} {t u : TS} {e : Expr} {te : TE} {pos : Pos}
def tNext : TS := fun D σ H => D.nx σ H
def tSeq (t u : TS) : TS := fun D σ H => t { D with nx := u D } σ H
theorem pss_nil : PSs X [] tNext := fun _ _ σ H _ I h => wpAny_execs_nil ⟨σ, H, I, h⟩
theorem pss_cons (h1 : PS X st t) (h2 : PSs X rest u) : PSs X (st :: rest) (tSeq t u) := by
  intro pins s σ H D I h
  refine wpAny_execs_cons (thn (h1 pins s σ H { D with nx := u D } I h) fun f s1 q => ?_)
  cases f with
  | next =>
    obtain ⟨σ', H', I', q⟩ := q
    exact h2 pins s1 σ' H' D I' q
  | ret v => exact q
  | brk => exact q
  | cont => exact q
theorem pss_one (h1 : PS X st t) : PSs X [st] t := by
  intro pins s σ H D I h
  refine wpAny_execs_cons (thn (h1 pins s σ H D I h) fun f s1 q => ?_)
  cases f with
  | next => exact wpAny_execs_nil q
  | ret v => exact q
  | brk => exact q
  | cont => exact q
def tBreak : TS := fun D σ H => D.bk σ H
def tCont : TS := fun D σ H => D.ct σ H
/-- in a def's body nothing is shown -/
theorem Inv.quiet {pins : List (Addr × Obj)} {σ : St} {H : Hp} {s : Shared} (I : Inv X pins σ H s) : interactive X.env = false := by simp [interactive, I.ok.kind]
/-- an expression whose value is dropped -/
def tDrop (te : TE) : TS := fun D σ H => te σ H fun _ H1 => D.nx σ H1
theorem ps_expr (he : PE X e te) (hs : swapsWith e none pos.line X.env = pure false := by rfl) : PS X (.Expr e pos) (tDrop te) := by
  intro pins s σ H D I h
  exact wpAny_Expr_any (thn (he pins s σ H _ I h) fun v s1 ⟨x, H1, I1, r1, q1⟩ => ⟨σ, H1, I1, q1⟩) I.quiet hs
def tRet (te : TE) : TS := fun D σ H => te σ H D.rt
theorem ps_ret (he : PE X e te) : PS X (.Return (some e) pos) (tRet te) := by
  intro pins s σ H D I h
  exact wpAny_Return_some (thn (he pins s σ H _ I h) fun v s1 ⟨x, H1, I1, r1, q1⟩ => ⟨x, σ, H1, I1, r1, q1⟩)
def tRetN : TS := fun D _ H => D.rt .non H
def tIfS (c : TT) (t u : TS) : TS := fun D σ H => c σ H fun b H1 => if b = true then t D σ H1 else u D σ H1
theorem ps_if {c : Expr} {a b : List Stmt} {tc : TT} (hc : PT X c tc) (ha : PSs X a t) (hb : PSs X b u) : PS X (.If c a b pos) (tIfS tc t u) := by
  intro pins s σ H D I h
  refine wpAny_If (thn (hc pins s σ H _ I h) fun d s1 ⟨H1, I1, q1⟩ => ?_)
  cases d with
  | true => exact ha pins s1 σ H1 D I1 q1
  | false => exact hb pins s1 σ H1 D I1 q1
/-- code that the proof never comes to -/
def tNever : TS := fun _ _ _ => False
theorem ps_never : PS X st tNever := fun _ _ _ _ _ _ h => h.elim
end

/-! ### targets -/
abbrev TG := V → St → Hp → (St → Hp → Prop) → Prop
abbrev TGs := List V → St → Hp → (St → Hp → Prop) → Prop
def PG (X : Cx) (target : Expr) (t : TG) : Prop :=
  ∀ (pins : List (Addr × Obj)) (s : Shared) (σ : St) (H : Hp) (v : V) (u : Value) (Q : St → Hp → Prop), Inv X pins σ H s → RelV v u → t v σ H Q →
    wpAny (model X.prog X.w) X.A (assign target X.env u) (fun _ s' => ∃ σ' H', Inv X pins σ' H' s' ∧ Q σ' H') X.xe s
/-- several targets, one after another -/
def PGs (X : Cx) (ts : List Expr) (t : TGs) : Prop :=
  ∀ (pins : List (Addr × Obj)) (s : Shared) (σ : St) (H : Hp) (vs : List V) (us : List Value) (Q : St → Hp → Prop), Inv X pins σ H s → Vals vs us → t vs σ H Q →
    wpAny (model X.prog X.w) X.A (assignInOrder ((assignEach ts X.env).map (·.2)) us) (fun _ s' => ∃ σ' H', Inv X pins σ' H' s' ∧ Q σ' H') X.xe s
/-- o[i] = v, by values -/
abbrev TSet := V → V → V → Hp → (Hp → Prop) → Prop
def PSet (X : Cx) (t : TSet) : Prop :=
  ∀ (pins : List (Addr × Obj)) (s : Shared) (σ : St) (H : Hp) (o i v : V) (ov iv u : Value) (Q : Hp → Prop), Inv X pins σ H s → RelV o ov → RelV i iv → RelV v u → t o i v H Q →
    wpAny (model X.prog X.w) X.A (setItem ov iv u) (fun _ s' => ∃ H', Inv X pins σ H' s' ∧ Q H') X.xe s
/-- a op= b, by values -/
abbrev TIp := V → V → Hp → VK → Prop
def PIp (X : Cx) (op : Operator) (t : TIp) : Prop :=
  ∀ (pins : List (Addr × Obj)) (s : Shared) (σ : St) (H : Hp) (x y : V) (v u : Value) (Q : VK), Inv X pins σ H s → RelV x v → RelV y u → t x y H Q →
    wpAny (model X.prog X.w) X.A (inplaceOp op v u) (EP X pins σ Q) X.xe s
section
variable {X : Cx} {pos : Pos}
def gName (i : Nat) : TG := fun v σ H Q => Q (σ.set i (some v)) H
theorem pg_name {i : Nat} {x : Str} (hN : X.N.Nodup) (hi : X.N[i]? = some x) (hx : Loc X.env.scope x) (hf : X.fn x = true ∨ X.env.scope.names.lookup x = some .local := by first | exact .inl rfl | exact .inr rfl | assumption) : PG X (.Name x pos) (gName i) := by
  intro pins s σ H v u Q I r h
  exact wpAny_assign_Name (store_ok I hN hi hx r (fun s' I' => ⟨_, H, I', h⟩) hf)
def gNil : TGs := fun vs σ H Q => vs = [] ∧ Q σ H
def gCons (t : TG) (u : TGs) : TGs := fun vs σ H Q => ∃ v r, vs = v :: r ∧ t v σ H fun σ' H' => u r σ' H' Q
theorem pgs_nil : PGs X [] gNil := by
  intro pins s σ H vs us Q I r h
  obtain ⟨e, h⟩ := h
  subst e
  cases r
  exact assignInOrder_nil ⟨σ, H, I, h⟩
theorem pgs_cons {e : Expr} {es : List Expr} {t : TG} {u : TGs} (h1 : PG X e t) (h2 : PGs X es u)
    (hs : (assignEach (e :: es) X.env).map (·.2) = assign e X.env :: (assignEach es X.env).map (·.2) := by rfl) : PGs X (e :: es) (gCons t u) := by
  intro pins s σ H vs us Q I r h
  obtain ⟨v, vr, e1, h⟩ := h
  subst e1
  cases r with
  | cons r rr =>
    rw [hs]
    refine assignInOrder_cons (thn (h1 pins s σ H _ _ _ I r h) fun _ s1 ⟨σ1, H1, I1, q1⟩ => ?_)
    exact h2 pins s1 σ1 H1 _ _ Q I1 rr q1
/-- (a, b, ..) = a tuple of that length -/
def gTup (K : PySem.W.Frag) (n : Nat) (t : TGs) : TG := fun v σ H Q => ∃ a xs, v = .ref a ∧ SqT K H a xs ∧ xs.length = n ∧ t xs σ H Q
theorem pg_tup {es : List Expr} {k : Nat} {t : TGs} {n : Nat} (hc : X.calm = true) (h : PGs X es t)
    (hn : (assignEach es X.env).length = n := by rfl) (hst : (assignEach es X.env).findIdx? (·.1) = none := by rfl) : PG X (.Tuple es k pos) (gTup X.K n t) := by
  intro pins s σ H v u Q I r hw
  obtain ⟨a, xs, e1, hq, hl, hw⟩ := hw
  subst e1
  cases r
  obtain ⟨its, rv, ht, hz⟩ := I.tuple hq
  refine assign_Tuple_tuple (I.ok.hd hc) ht (by simp [hn, ← hl, rv.length]) hst fun h' hx => ?_
  have I1 : Inv X pins σ H { s with heap := h' } := I.kept (t' := s.toks) fun b o e => hx b o (Nat.ne_of_lt (Heap.lt_size e)) e
  exact h pins _ σ H xs _ Q I1 (by simpa using rv) hw
/-- o[i] = .. -/
def gSub (to ti : TE) (t : TSet) : TG := fun v σ H Q => to σ H fun o H1 => ti σ H1 fun i H2 => t o i v H2 fun H3 => Q σ H3
theorem pg_sub {o i : Expr} {to ti : TE} {t : TSet} (ho : PE X o to) (hi : PE X i ti) (hs : PSet X t)
    (ha : ∀ v, assign (.Subscript o i pos) X.env v = (do
      let ov ← holding [v] (eval o X.env)
      let iv ← holding [v, ov] (eval i X.env)
      standAt pos
      holding [v, ov, iv] (setItem ov iv v)
      release [v, ov, iv] []) := by intro _; rfl) : PG X (.Subscript o i pos) (gSub to ti t) := by
  intro pins s σ H v u Q I r h
  rw [ha]
  refine wpAny_bind (wpAny_holding (thn (ho pins s σ H _ I h) fun ov s1 ⟨x, H1, I1, r1, q1⟩ => ?_))
  refine wpAny_bind (wpAny_holding (thn (hi pins s1 σ H1 _ I1 q1) fun iv s2 ⟨y, H2, I2, r2, q2⟩ => ?_))
  refine wpAny_bind (wpAny_standAt (wpAny_bind (wpAny_holding (thn (hs pins s2 σ H2 x y v ov iv u _ I2 r1 r2 r q2) fun _ s3 ⟨H3, I3, q3⟩ => ?_))))
  exact wpAny_release ⟨σ, H3, I3, q3⟩
/-- target = value -/
def tAsg (te : TE) (g : TG) : TS := fun D σ H => te σ H fun x H1 => g x σ H1 D.nx
theorem ps_asg {tg e : Expr} {te : TE} {g : TG} (he : PE X e te) (hg : PG X tg g) (hs : swapsWithSole [tg] e pos.line X.env = pure false := by rfl) (hw : swappedStores [tg] e X.env = pure none := by rfl)
    (h1 : (assignEach [tg] X.env).map (·.2) = [assign tg X.env] := by rfl) : PS X (.Assign [tg] e pos) (tAsg te g) := by
  intro pins s σ H D I h
  refine wpAny_Assign_stores (thn (he pins s σ H _ I h) fun v s1 ⟨x, H1, I1, r1, q1⟩ => ?_) hs hw
  rw [h1]
  exact thn (hg pins s1 σ H1 x v _ I1 r1 q1) fun _ s2 q => q
/-- name = value -/
theorem ps_set {i : Nat} {x : Str} {e : Expr} {te : TE} {pos' : Pos} (hN : X.N.Nodup) (hi : X.N[i]? = some x) (hx : Loc X.env.scope x) (he : PE X e te) (hs : swapsWith e (some (.Name x pos')) pos.line X.env = pure false := by rfl) (hf : X.fn x = true ∨ X.env.scope.names.lookup x = some .local := by first | exact .inl rfl | exact .inr rfl | assumption) :
    PS X (.Assign [.Name x pos'] e pos) (tAsg te (gName i)) := by
  intro pins s σ H D I h
  refine wpAny_Assign_Name (thn (he pins s σ H _ I h) fun v s1 ⟨y, H1, I1, r1, q1⟩ => ?_) hs
  exact store_ok I1 hN hi hx r1 (fun s2 I2 => ⟨_, H1, I2, q1⟩) hf
/-- a, b = x, y with plain local names: stored from the right; the pair itself is not tracked (the opening rows as in PyProof/Rows/TupAssign.lean:23) -/
def tPar (i j : Nat) (ta : TA) : TS := fun D σ H => ta σ H fun vs H1 => ∃ v w, vs = [v, w] ∧ D.nx ((σ.set i (some v)).set j (some w)) H1
theorem ps_par {i j : Nat} {x y : Str} {a b : Expr} {ta : TA} {px py pt : Pos} {kt k2 pt2} (hc : X.calm = true) (hN : X.N.Nodup) (hi : X.N[i]? = some x) (hj : X.N[j]? = some y) (hij : i ≠ j)
    (hx : X.env.scope.names.lookup x = some .local) (hy : X.env.scope.names.lookup y = some .local) (ha : PA X [a, b] ta)
    (hw : swappedStores [.Tuple [.Name x px, .Name y py] kt pt] (.Tuple [a, b] k2 pt2) X.env = pure (some [x, y]))
    (hs : swapsWithSole [.Tuple [.Name x px, .Name y py] kt pt] (.Tuple [a, b] k2 pt2) pos.line X.env = pure false := by rfl) :
    PS X (.Assign [.Tuple [.Name x px, .Name y py] kt pt] (.Tuple [a, b] k2 pt2) pos) (tPar i j ta) := by
  intro pins s σ H D I h
  rw [exec_Assign_arm]
  refine wpAny_bind (wpAny_standAt ?_)
  rw [hs]
  refine wpAny_bind (wpAny_pure ?_)
  rw [if_neg (by decide)]
  refine wpAny_bind (Tuple_ (thn (ha _ pins s σ H _ I h) fun us s1 ⟨vs, H1, I1, r1, q1⟩ => ?_))
  obtain ⟨v, w, e1, q1⟩ := q1
  subst e1
  obtain ⟨u1, u2, rfl, rv, rw'⟩ : ∃ u1 u2, us = [u1, u2] ∧ RelV v u1 ∧ RelV w u2 := by
    cases r1 with
    | cons p q =>
      cases q with
      | cons p' q' =>
        cases q'
        exact ⟨_, _, rfl, p, p'⟩
  refine wpAny_newObj_type ?_ (by show 2 ≤ sizeLine; decide)
  have I2 : Inv X pins σ H1 { s1 with heap := s1.heap.push { cls := .type "tuple", data := .seq [u1, u2].toArray } } := I1.kept (t' := s1.toks) fun b o e => Heap.get?_push_of_some _ e
  rw [hw]
  refine wpAny_bind (wpAny_pure ?_)
  show wpAny (model X.prog X.w) X.A (do rule "assign.swapped-stores"; let items ← unpackItems (.ref s1.heap.objs.size) 2 none; assignInOrder [fun v => bindName X.env y v, fun v => bindName X.env x v] items.reverse; pure Flow.next) _ _ _
  refine wpAny_bind (wpAny_rule (wpAny_bind (unpackItems_tuple (items := #[u1, u2]) (I.ok.hd hc) (IsTup.new s1.heap _) fun h' hx' => ?_)))
  have I3 := I2.kept (h' := h') (t' := s1.toks) fun b o e => hx' b o (Nat.ne_of_lt (Heap.lt_size e)) e
  show wpAny _ _ (assignInOrder [fun v => bindName X.env y v, fun v => bindName X.env x v] [u2, u1] >>= fun _ => pure Flow.next) _ _ _
  refine wpAny_bind (assignInOrder_cons (wpAny_bindName (store_ok I3 hN hj (.inl hy) rw' (fun s2 I4 => ?_) (.inr hy))))
  refine assignInOrder_cons (wpAny_bindName (store_ok I4 hN hi (.inl hx) rv (fun s3 I5 => assignInOrder_nil (wpAny_pure ?_)) (.inr hx)))
  rw [List.set_comm _ _ (Ne.symm hij)] at I5
  exact ⟨_, H1, I5, q1⟩
/-- name op= e -/
def tAug (i : Nat) (te : TE) (ti : TIp) : TS := fun D σ H => ∃ x, σ[i]? = some (some x) ∧ te σ H fun y H1 => ti x y H1 fun z H2 => D.nx (σ.set i (some z)) H2
/-- o[i] op= e -/
def tAugS (to ti te : TE) (tget : V → V → Hp → VK → Prop) (tip : TIp) (tset : TSet) : TS := fun D σ H => to σ H fun o H1 => ti σ H1 fun i H2 => tget o i H2 fun x H3 => te σ H3 fun y H4 => tip x y H4 fun z H5 => tset o i z H5 fun H6 => D.nx σ H6
/-- o[i], by values -/
def PGet (X : Cx) (t : V → V → Hp → VK → Prop) : Prop :=
  ∀ (pins : List (Addr × Obj)) (s : Shared) (σ : St) (H : Hp) (o i : V) (ov iv : Value) (Q : VK), Inv X pins σ H s → RelV o ov → RelV i iv → t o i H Q →
    wpAny (model X.prog X.w) X.A (getItem ov iv) (EP X pins σ Q) X.xe s
/-- ints -/
def ipI (f : Int → Int → Int) : TIp := fun x y H Q => ∃ i j, x = .int i ∧ y = .int j ∧ Q (.int (f i j)) H
end

/-! ### while -/
section
variable {X : Cx} {pos : Pos}
/-- the invariant W with its measure -/
def tWhile (c : TT) (tb : TS) : TS := fun D σ H => ∃ W : Nat → St → Hp → Prop, (∃ m, W m σ H) ∧ ∀ m σ H, W m σ H →
  c σ H fun b H1 => if b = true then ∃ N : St → Hp → Prop, (∀ σ' H', N σ' H' → ∃ m', m' < m ∧ W m' σ' H') ∧ tb { D with nx := N, ct := N, bk := D.nx } σ H1 else D.nx σ H1
end

/-! ### what a loop or a comprehension walks -/
/-- at turn i: it yields x (the heap may grow), or it stops -/
structure It where
  go : Nat → Hp → Prop
  yld : Nat → Hp → V → Hp → Prop
  stop : Nat → Hp → Prop
/-- the iterator's own objects may turn: they are not the frame's, not pinned, younger than the entry (or a comprehension's own) -/
def FpOk (X : Cx) (pins : List (Addr × Obj)) (H : Hp) (b : Addr) : Prop :=
  H b = none ∧ b ≠ X.env.locals ∧ b ∉ X.fs ∧ (b ∈ X.ex ∨ X.s_0.heap.objs.size ≤ b) ∧ (∀ x c, X.env.cells.lookup x = some c → c ≠ b) ∧ ∀ p ∈ X.pn ++ pins, p.1 ≠ b
theorem Inv.fpOk {X : Cx} {pins : List (Addr × Obj)} {σ : St} {H H' : Hp} {s : Shared} {b : Addr} (I : Inv X pins σ H s) (hb : s.heap.objs.size ≤ b) (hn : H' b = none) : FpOk X pins H' b := by
  refine ⟨hn, Nat.ne_of_gt (Nat.lt_of_lt_of_le I.lt hb), I.nofs hb, .inr (Nat.le_trans I.sz hb), fun x c e z => ?_, fun p hp z => ?_⟩
  · obtain ⟨v, q⟩ := I.cell x c e
    exact absurd (Nat.lt_of_lt_of_le q.lt (by rw [z]; exact hb)) (Nat.lt_irrefl _)
  · exact absurd (Nat.lt_of_lt_of_le (Heap.lt_size (I.pin p hp).1) (by rw [z]; exact hb)) (Nat.lt_irrefl _)
structure Turn (P : Program) (w : World) (K : PySem.W.Frag) (tg : Expr) (J : It) (fp : List Addr) (it : Addr) (tn : Nat → Heap → Prop) : Prop where
  mem : it ∈ fp
  obj : ∀ i h, tn i h → ∀ b ∈ fp, ∃ o, h.get? b = some o ∧ ∀ v, o.data ≠ .cell v
  keep : ∀ i h h', tn i h → (∀ b ∈ fp, ∀ o, h.get? b = some o → h'.get? b = some o) → tn i h'
  item : ∀ (X : Cx), X.prog = P → X.w = w → X.K = K → X.calm = true → ∀ (i : Nat) (pins : List (Addr × Obj)) (s : Shared) (σ : St) (H : Hp) (E : Value → Shared → Prop), Inv X pins σ H s → (∀ b ∈ fp, FpOk X pins H b) → tn i s.heap → J.go i H →
    wpAny (model P w) X.A (pyNext (.ref it)) (fun r s1 => ∃ u, r = some u ∧
      wpAny (model P w) X.A (letOwnedTupleGo tg (.ref it) u) (fun _ s2 => ∃ x H', Inv X pins σ H' s2 ∧ RelV x u ∧ J.yld i H x H' ∧ tn (i + 1) s2.heap ∧ ∀ b ∈ fp, H' b = none) E s1) E s
  done : ∀ (X : Cx), X.prog = P → X.w = w → X.K = K → X.calm = true → ∀ (i : Nat) (pins : List (Addr × Obj)) (s : Shared) (σ : St) (H : Hp) (E : Value → Shared → Prop), Inv X pins σ H s → (∀ b ∈ fp, FpOk X pins H b) → tn i s.heap → J.stop i H →
    wpAny (model P w) X.A (pyNext (.ref it)) (fun r s1 => r = none ∧ Inv X pins σ H s1) E s
  self : ∀ (A : Around) (i : Nat) (s : Shared) (Q : Value → Shared → Prop) (E : Value → Shared → Prop), tn i s.heap → Q (.ref it) s → wpAny (model P w) A (pyIter (.ref it)) Q E s
abbrev TI := St → Hp → (It → Hp → Prop) → Prop
/-- an iterator has come -/
def PIE (X : Cx) (pins : List (Addr × Obj)) (σ : St) (tg : Expr) (R : It → Hp → Prop) (itv : Value) (s2 : Shared) : Prop :=
  ∃ (it : Addr) (fp : List Addr) (tn : Nat → Heap → Prop) (J : It) (H' : Hp), itv = .ref it ∧ Inv X pins σ H' s2 ∧ Turn X.prog X.w X.K tg J fp it tn ∧ tn 0 s2.heap ∧ (∀ b ∈ fp, FpOk X pins H' b) ∧ R J H'
def PI (X : Cx) (tg iter : Expr) (wi : TI) : Prop :=
  ∀ (pins : List (Addr × Obj)) (s : Shared) (σ : St) (H : Hp) (R : It → Hp → Prop), Inv X pins σ H s → wi σ H R →
    wpAny (model X.prog X.w) X.A (eval iter X.env) (fun v s1 => wpAny (model X.prog X.w) X.A (pyIter v) (PIE X pins σ tg R) X.xe s1) X.xe s

/-- the step ahead of the store is nothing for an iterator that keeps no tuple -/
theorem go_of {M : Model} {A : Around} {E : Value → Shared → Prop} {s : Shared} {tg : Expr} {it : Addr} {u : Value} {o : Obj} {n : String} {vs : Array Value} {Q : Unit → Shared → Prop} (ho : s.heap.get? it = some o) (hc : o.cls = .type n) (hd : o.data = .fields vs)
    (hn : ["enumerate", "zip", "dict_itemiterator", "dict_reverseitemiterator", "odict_iterator", "itertools.zip_longest", "itertools.pairwise"].contains n = false) (hQ : Q () s) : wpAny M A (letOwnedTupleGo tg (.ref it) u) Q E s := by
  unfold letOwnedTupleGo
  cases tg <;> first
    | exact wpAny_pure hQ
    | (cases u <;> first
        | exact wpAny_pure hQ
        | (refine wpAny_bind (wpAny_load ho ?_)
           rw [hc, hd]
           show wpAny M A (if (["enumerate", "zip", "dict_itemiterator", "dict_reverseitemiterator", "odict_iterator", "itertools.zip_longest", "itertools.pairwise"].contains n && vs[0]? == some (rawInt _)) = true then _ else _) Q E s
           rw [if_neg (by intro h; rw [hn, Bool.false_and] at h; cases h)]
           exact wpAny_pure hQ))

/-- the list at a, as it stands at each turn (a loop may append to it) -/
def Itl (K : PySem.W.Frag) (a : Addr) : It :=
  ⟨fun i H => ∃ xs x, SqL K H a xs ∧ xs[i]? = some x, fun i H x H' => H' = H ∧ ∀ xs, SqL K H a xs → xs[i]? = some x, fun i H => ∃ xs, SqL K H a xs ∧ xs.length ≤ i⟩
def Itt (K : PySem.W.Frag) (a : Addr) : It :=
  ⟨fun i H => ∃ xs x, SqT K H a xs ∧ xs[i]? = some x, fun i H x H' => H' = H ∧ ∀ xs, SqT K H a xs → xs[i]? = some x, fun i H => ∃ xs, SqT K H a xs ∧ xs.length ≤ i⟩
/-- lo, lo + 1, .. (n of them) -/
def Itr (lo : Int) (n : Nat) : It := ⟨fun i _ => i < n, fun i H x H' => H' = H ∧ x = .int (lo + i), fun i _ => n ≤ i⟩
theorem turn_list {P : Program} {w : World} {K : PySem.W.Frag} {tg : Expr} (a it : Addr) : Turn P w K tg (Itl K a) [it] it (fun i h => h.IsListIter it a i) where
  mem := by simp
  obj := fun i h st b hb => by
    have e : b = it := by simpa using hb
    subst e
    obtain ⟨o, e, c, d⟩ := st
    exact ⟨o, e, fun v z => by rw [d] at z; cases z⟩
  keep := fun i h h' st k => st.at fun o e => k it (by simp) o e
  item := by
    intro X hP hw hK hc i pins s σ H E I hf st hg
    subst hP hw hK
    obtain ⟨xs, x, hq, hx⟩ := hg
    obtain ⟨its, rv, p, hz⟩ := I.list hq
    obtain ⟨u, hu, ru⟩ := rv.get hx
    obtain ⟨f0, f1, f2, f3, f4, f5⟩ := hf it (by simp)
    refine wpAny_pyNext_list_item st p.isList (x := u) (by simpa using hu) fun h' st' sb => ?_
    have I1 : Inv X pins σ H { s with heap := h' } := I.turned (t' := s.toks) (fun b o hb e => (sb.2 b hb).trans e) f0 f1 f3 f4 f5
    obtain ⟨o, e, c, d⟩ := id st'
    exact ⟨u, rfl, go_of (s := { s with heap := h' }) e c d (by decide) ⟨x, H, I1, ru, ⟨rfl, fun ys hy => by rw [I.list_inj hy hq]; exact hx⟩, st', fun b hb => (hf b hb).1⟩⟩
  done := by
    intro X hP hw hK hc i pins s σ H E I hf st hg
    subst hP hw hK
    obtain ⟨xs, hq, hx⟩ := hg
    obtain ⟨its, rv, p, hz⟩ := I.list hq
    obtain ⟨f0, f1, f2, f3, f4, f5⟩ := hf it (by simp)
    have hl := rv.length
    exact wpAny_pyNext_list_end (I.ok.hd hc) st p.isList (by simp; omega) fun h' eb => ⟨rfl, I.turned (t' := s.toks) (fun b o hb e => eb b o hb e) f0 f1 f3 f4 f5⟩
  self := fun _ _ _ _ _ st h => wpAny_pyIter_listiter st h
theorem turn_tuple {P : Program} {w : World} {K : PySem.W.Frag} {tg : Expr} (a it : Addr) : Turn P w K tg (Itt K a) [it] it (fun i h => h.IsTupleIter it a i) where
  mem := by simp
  obj := fun i h st b hb => by
    have e : b = it := by simpa using hb
    subst e
    obtain ⟨o, e, c, d⟩ := st
    exact ⟨o, e, fun v z => by rw [d] at z; cases z⟩
  keep := fun i h h' st k => st.at fun o e => k it (by simp) o e
  item := by
    intro X hP hw hK hc i pins s σ H E I hf st hg
    subst hP hw hK
    obtain ⟨xs, x, hq, hx⟩ := hg
    obtain ⟨its, rv, p, hz⟩ := I.tuple hq
    obtain ⟨u, hu, ru⟩ := rv.get hx
    obtain ⟨f0, f1, f2, f3, f4, f5⟩ := hf it (by simp)
    refine wpAny_pyNext_tuple_item st (show s.heap.IsTuple a its.toArray from p) (x := u) (by simpa using hu) fun h' st' sb => ?_
    have I1 : Inv X pins σ H { s with heap := h' } := I.turned (t' := s.toks) (fun b o hb e => (sb.2 b hb).trans e) f0 f1 f3 f4 f5
    obtain ⟨o, e, c, d⟩ := id st'
    exact ⟨u, rfl, go_of (s := { s with heap := h' }) e c d (by decide) ⟨x, H, I1, ru, ⟨rfl, fun ys hy => by rw [I.tuple_inj hy hq]; exact hx⟩, st', fun b hb => (hf b hb).1⟩⟩
  done := by
    intro X hP hw hK hc i pins s σ H E I hf st hg
    subst hP hw hK
    obtain ⟨xs, hq, hx⟩ := hg
    obtain ⟨its, rv, p, hz⟩ := I.tuple hq
    obtain ⟨f0, f1, f2, f3, f4, f5⟩ := hf it (by simp)
    have hl := rv.length
    exact wpAny_pyNext_tuple_end (I.ok.hd hc) st (show s.heap.IsTuple a its.toArray from p) (by simp; omega) fun h' eb => ⟨rfl, I.turned (t' := s.toks) (fun b o hb e => eb b o hb e) f0 f1 f3 f4 f5⟩
  self := fun _ _ _ _ _ st h => wpAny_pyIter_tupleiter st h
theorem turn_range {P : Program} {w : World} {K : PySem.W.Frag} {tg : Expr} (it : Addr) (lo : Int) (n : Nat) : Turn P w K tg (Itr lo n) [it] it (fun i h => IsRangeIter h it (lo + (i : Nat) * 1) ((n : Int) - (i : Nat)) 1) where
  mem := by simp
  obj := fun i h st b hb => by
    have e : b = it := by simpa using hb
    subst e
    exact ⟨_, st, fun v z => by
      have z' : Data.fields _ = Data.cell v := z
      cases z'⟩
  keep := fun i h h' st k => k it (by simp) _ st
  item := by
    intro X hP hw hK hc i pins s σ H E I hf st hg
    subst hP hw hK
    obtain ⟨f0, f1, f2, f3, f4, f5⟩ := hf it (by simp)
    have W := Walks.range (prog := X.prog) (w := X.w) (I.ok.hd hc) it lo 1 n
    refine W.item i s _ _ hg st fun v h' tk hv st' kk => ?_
    obtain ⟨t, rfl⟩ := hv
    have I1 : Inv X pins σ H { s with heap := h', toks := tk } := I.turned (fun b o hb e => kk b o (by simpa using hb) e) f0 f1 f3 f4 f5
    refine ⟨_, rfl, go_of (s := { s with heap := h', toks := tk }) (n := "range_iterator") st' rfl rfl (by decide) ⟨.int (lo + i), H, I1, ⟨t, ?_⟩, ⟨rfl, rfl⟩, st', fun b hb => (hf b hb).1⟩⟩
    rw [Int.mul_one]
  done := by
    intro X hP hw hK hc i pins s σ H E I hf st hg
    subst hP hw hK
    obtain ⟨f0, f1, f2, f3, f4, f5⟩ := hf it (by simp)
    exact wpAny_pyNext_range_end (I.ok.hd hc) st (by have : n ≤ i := hg; omega) fun h' eb => ⟨rfl, I.turned (t' := s.toks) (fun b o hb e => eb b o hb e) f0 f1 f3 f4 f5⟩
  self := fun _ _ _ _ _ st h => wpAny_pyIter_rangeiter st h
end L2

namespace L2
open PySem PySem.Spec PyProof.Rows
section
variable {X : Cx} {tg : Expr}
def iList (K : PySem.W.Frag) (tl : TE) : TI := fun σ H R => tl σ H fun x H1 => ∃ a, x = .ref a ∧ (∃ xs, SqL K H1 a xs) ∧ R (Itl K a) H1
def iTup (K : PySem.W.Frag) (tl : TE) : TI := fun σ H R => tl σ H fun x H1 => ∃ a, x = .ref a ∧ (∃ xs, SqT K H1 a xs) ∧ R (Itt K a) H1
theorem pi_list {l : Expr} {tl : TE} (hl : PE X l tl) : PI X tg l (iList X.K tl) := by
  intro pins s σ H R I h
  refine thn (hl pins s σ H _ I h) fun v s1 ⟨x, H1, I1, r1, q1⟩ => ?_
  obtain ⟨a, e, ⟨xs, hq⟩, q⟩ := q1
  subst e
  cases r1
  obtain ⟨its, rv, p, hz⟩ := I1.list hq
  refine wpAny_pyIter_list p.isList ?_
  refine ⟨s1.heap.objs.size, [s1.heap.objs.size], _, _, H1, rfl, I1.kept (t' := s1.toks) fun b o e => Heap.get?_push_of_some _ e, turn_list a _, ⟨_, Heap.get?_push_size _ rfl, rfl, rfl⟩, fun b hb => ?_, q⟩
  have e : b = s1.heap.objs.size := by simpa using hb
  subst e
  exact I1.fpOk (Nat.le_refl _) (I1.hok.fresh (Nat.le_refl _))
theorem pi_tup {l : Expr} {tl : TE} (hl : PE X l tl) : PI X tg l (iTup X.K tl) := by
  intro pins s σ H R I h
  refine thn (hl pins s σ H _ I h) fun v s1 ⟨x, H1, I1, r1, q1⟩ => ?_
  obtain ⟨a, e, ⟨xs, hq⟩, q⟩ := q1
  subst e
  cases r1
  obtain ⟨its, rv, p, hz⟩ := I1.tuple hq
  refine wpAny_pyIter_tuple (show s1.heap.IsTuple a its.toArray from p) ?_
  refine ⟨s1.heap.objs.size, [s1.heap.objs.size], _, _, H1, rfl, I1.kept (t' := s1.toks) fun b o e => Heap.get?_push_of_some _ e, turn_tuple a _, ⟨_, Heap.get?_push_size _ rfl, rfl, rfl⟩, fun b hb => ?_, q⟩
  have e : b = s1.heap.objs.size := by simpa using hb
  subst e
  exact I1.fpOk (Nat.le_refl _) (I1.hok.fresh (Nat.le_refl _))
/-- a range object just made, walked -/
theorem range_it {pins : List (Addr × Obj)} {σ : St} {H : Hp} {s : Shared} {R : It → Hp → Prop} {E : Value → Shared → Prop} {lo hi : Int} {t u v : Tok} {tk : Nat} (I : Inv X pins σ H s) (h1 : -(2 ^ 62) ≤ lo) (h2 : lo < 2 ^ 62) (h3 : -(2 ^ 62) ≤ hi) (h4 : hi < 2 ^ 62)
    (q : R (Itr lo (hi - lo).toNat) H) : wpAny (model X.prog X.w) X.A (pyIter (.ref s.heap.objs.size)) (PIE X pins σ tg R) E { s with heap := s.heap.push { cls := .type "range", data := .fields #[.int lo t, .int hi u, .int 1 v] }, toks := tk } := by
  refine wpAny_pyIter_range (IsRange.new ..) (small_one h1 h2 h3 h4) ?_
  have I1 : Inv X pins σ H { s with heap := s.heap.push { cls := .type "range", data := .fields #[.int lo t, .int hi u, .int 1 v] }, toks := tk } := I.kept fun b o e => Heap.get?_push_of_some _ e
  refine ⟨(s.heap.push { cls := .type "range", data := .fields #[.int lo t, .int hi u, .int 1 v] }).objs.size, [(s.heap.push { cls := .type "range", data := .fields #[.int lo t, .int hi u, .int 1 v] }).objs.size], _, _, H, rfl,
    I1.kept (t' := tk) fun b o e => Heap.get?_push_of_some _ e, turn_range _ lo (hi - lo).toNat, ?_, fun b hb => ?_, q⟩
  · have e1 : lo + ((0 : Nat) : Int) * 1 = lo := by simp
    have e2 : (((hi - lo).toNat : Nat) : Int) - ((0 : Nat) : Int) = Builtin.Range.rangeSize lo hi 1 := by rw [rangeSize_one]; split <;> omega
    show IsRangeIter _ _ (lo + ((0 : Nat) : Int) * 1) ((((hi - lo).toNat : Nat) : Int) - ((0 : Nat) : Int)) 1
    rw [e1, e2]
    exact Heap.get?_push_size _ rfl
  · have e : b = (s.heap.push { cls := .type "range", data := .fields #[.int lo t, .int hi u, .int 1 v] }).objs.size := by simpa using hb
    subst e
    exact I1.fpOk (Nat.le_refl _) (I1.hok.fresh (Nat.le_refl _))
def iRng1 (ta : TA) : TI := fun σ H R => ta σ H fun vs H1 => ∃ j : Int, vs = [.int j] ∧ -(2 ^ 62) ≤ j ∧ j < 2 ^ 62 ∧ R (Itr 0 j.toNat) H1
def iRng2 (ta : TA) : TI := fun σ H R => ta σ H fun vs H1 => ∃ i j : Int, vs = [.int i, .int j] ∧ (-(2 ^ 62) ≤ i ∧ i < 2 ^ 62 ∧ -(2 ^ 62) ≤ j ∧ j < 2 ^ 62) ∧ R (Itr i (j - i).toNat) H1
theorem pi_range1 {a : Expr} {ta : TA} {p pos : Pos} (hg : Gl X "range") (hm : X.mg "range" = none) (ha : PA X [a] ta) (hs : starEach [a] X.env = [(false, eval a X.env)] := by rfl) : PI X tg (.Call (.Name "range" p) [a] [] pos) (iRng1 ta) := by
  intro pins s σ H R I h
  refine Call_ (ld_blt I hg hm boot_range (PyProof.Rows.callWith_type1 (thn (ha pos pins s σ H _ I h) fun us s1 ⟨vs, H1, I1, r1, q1⟩ => ?_) hs rfl))
  obtain ⟨j, e, q1, q2, q⟩ := q1
  subst e
  cases r1 with
  | cons r rr =>
    cases rr
    obtain ⟨t, rfl⟩ := r
    exact call_range_1 (range_it I1 (by omega) (by omega) q1 q2 (by simpa using q))
theorem pi_range2 {a b : Expr} {ta : TA} {p pos : Pos} (hg : Gl X "range") (hm : X.mg "range" = none) (ha : PA X [a, b] ta) (hs : starEach [a, b] X.env = [(false, eval a X.env), (false, eval b X.env)] := by rfl) (hs2 : starEach [b] X.env = [(false, eval b X.env)] := by rfl) :
    PI X tg (.Call (.Name "range" p) [a, b] [] pos) (iRng2 ta) := by
  intro pins s σ H R I h
  refine Call_ (ld_blt I hg hm boot_range (PyProof.Rows.callWith_type1 (thn (ha pos pins s σ H _ I h) fun us s1 ⟨vs, H1, I1, r1, q1⟩ => ?_) (by rw [hs, hs2]) (by rw [hs2]; rfl)))
  obtain ⟨i, j, e, ⟨q1, q2, q3, q4⟩, q⟩ := q1
  subst e
  cases r1 with
  | cons r rr =>
    cases rr with
    | cons r' rr =>
      cases rr
      obtain ⟨t, rfl⟩ := r
      obtain ⟨t', rfl⟩ := r'
      exact call_range_2 (range_it I1 q1 q2 q3 q4 q)

/-! ### for -/
/-- W: the invariant by the turn and a measure; N: what the body is to reach -/
def tFor (wi : TI) (g : TG) (tb : TS) : TS := fun D σ H => wi σ H fun J H1 => ∃ W : Nat → Nat → St → Hp → Prop, (∃ m, W 0 m σ H1) ∧ ∀ i m σ H, W i m σ H →
  (J.stop i H ∧ D.nx σ H) ∨ (J.go i H ∧ ∃ N : St → Hp → Prop, (∀ σ' H', N σ' H' → ∃ m', m' < m ∧ W (i + 1) m' σ' H') ∧ ∀ x H', J.yld i H x H' → g x σ H' fun σ2 H2 => tb { D with nx := N, ct := N, bk := D.nx } σ2 H2)
/-- the records at fp as they stand -/
def pinsAt (fp : List Addr) (h : Heap) : List (Addr × Obj) := fp.filterMap fun b => (h.get? b).map fun o => (b, o)
theorem mem_pinsAt {fp : List Addr} {h : Heap} {b : Addr} {o : Obj} (hb : b ∈ fp) (e : h.get? b = some o) : (b, o) ∈ pinsAt fp h := List.mem_filterMap.mpr ⟨b, hb, by rw [e]; rfl⟩
theorem of_pinsAt {fp : List Addr} {h : Heap} {p : Addr × Obj} (hp : p ∈ pinsAt fp h) : p.1 ∈ fp ∧ h.get? p.1 = some p.2 := by
  obtain ⟨b, hb, e⟩ := List.mem_filterMap.mp hp
  cases q : h.get? b with
  | none => rw [q] at e; cases e
  | some o =>
    rw [q] at e
    have e' : (b, o) = p := Option.some.inj e
    subst e'
    exact ⟨hb, q⟩
theorem Inv.pinned {pins : List (Addr × Obj)} {σ : St} {H : Hp} {s : Shared} {fp : List Addr} (I : Inv X pins σ H s) (hf : ∀ b ∈ fp, FpOk X pins H b) (ho : ∀ b ∈ fp, ∃ o, s.heap.get? b = some o ∧ ∀ v, o.data ≠ .cell v) : Inv X (pins ++ pinsAt fp s.heap) σ H s :=
  I.pins_of fun p hp => (List.mem_append.mp hp).elim (fun z => I.pin p (List.mem_append_right _ z)) fun z => by
    obtain ⟨hb, e⟩ := of_pinsAt z
    obtain ⟨f0, f1, f2, _⟩ := hf p.1 hb
    obtain ⟨o, e', d⟩ := ho p.1 hb
    rw [e] at e'; cases e'
    exact ⟨e, f0, f1, f2, d⟩
theorem Inv.unpinned {pins pl : List (Addr × Obj)} {σ : St} {H : Hp} {s : Shared} (I : Inv X (pins ++ pl) σ H s) : Inv X pins σ H s := I.pins_of fun p hp => I.pin p (List.mem_append_right _ (List.mem_append_left _ hp))
theorem ps_for {iter : Expr} {body : List Stmt} {wi : TI} {g : TG} {tb : TS} {pos : Pos} (hp : PassesOwn (model X.prog X.w) X.A X.env X.xe) (hc : X.calm = true) (hi : PI X tg iter wi) (hg : PG X tg g) (hb : PSs X body tb)
    (hs : ∀ x, foldedSetIterable iter X.env x = pure x := by intro _; rfl) : PS X (.For tg iter body [] pos) (tFor wi g tb) := by
  intro pins s σ H D I h
  refine wpAny_For (thn (hi pins s σ H _ I h) fun v s1 h1 => thn h1 fun itv s2 h2 => ?_) hs
  obtain ⟨it, fp, tn, J, H2, e, I2, T, st2, f2, W, ⟨m0, w0⟩, turn⟩ := h2
  subst e
  -- what stays true of the iterator's objects through the loop
  have stat : ∀ {H' : Hp}, (∀ b ∈ fp, H' b = none) → ∀ b ∈ fp, FpOk X pins H' b := fun hn b hb => ⟨hn b hb, (f2 b hb).2⟩
  refine codeAny_forLoop_any (fun n s' => ∃ i σ' H', Inv X pins σ' H' s' ∧ tn i s'.heap ∧ (∀ b ∈ fp, H' b = none) ∧ W i n σ' H') ?_ m0 ⟨0, σ, H2, I2, st2, fun b hb => (f2 b hb).1, w0⟩
  rintro n s3 ⟨i, σ3, H3, I3, st3, fr3, w3⟩
  rcases turn i n σ3 H3 w3 with ⟨stop, qn⟩ | ⟨go, N, hN, step⟩
  · refine wpAny_passesOwn hp (thn (T.done X rfl rfl rfl hc i pins s3 σ3 H3 X.xe I3 (stat fr3) st3 stop) fun r s4 ⟨hr, I4⟩ => ?_)
    subst hr
    exact wpAny_execs_nil ⟨σ3, H3, I4, qn⟩
  · refine wpAny_passesOwn hp (thn (T.item X rfl rfl rfl hc i pins s3 σ3 H3 X.xe I3 (stat fr3) st3 go) fun r s4 ⟨u, hr, h4⟩ => ?_)
    subst hr
    refine wpAny_passesOwn hp (thn h4 fun _ s5 ⟨x, H5, I5, r5, y5, st5, fr5⟩ => ?_)
    have I5' := I5.pinned (stat fr5) (T.obj _ _ st5)
    refine wpAny_passesOwn hp (thn (hg _ s5 σ3 H5 x u _ I5' r5 (step x H5 y5)) fun _ s6 ⟨σ6, H6, I6, q6⟩ => ?_)
    refine wpAny_passesOwn hp (thn (hb _ s6 σ6 H6 _ I6 q6) fun f s7 q7 => ?_)
    have again : ∀ {σ7 : St} {H7 : Hp}, Inv X (pins ++ pinsAt fp s5.heap) σ7 H7 s7 → N σ7 H7 → ∃ m, m < n ∧ ∃ i σ' H', Inv X pins σ' H' s7 ∧ tn i s7.heap ∧ (∀ b ∈ fp, H' b = none) ∧ W i m σ' H' := fun {σ7 H7} I7 n7 => by
      obtain ⟨m', hm, w7⟩ := hN σ7 H7 n7
      refine ⟨m', hm, i + 1, σ7, H7, I7.unpinned, T.keep _ _ _ st5 fun b hb o e => (I7.pin (b, o) (List.mem_append_right _ (List.mem_append_right _ (mem_pinsAt hb e)))).1, fun b hb => ?_, w7⟩
      obtain ⟨o, e, d⟩ := T.obj _ _ st5 b hb
      exact (I7.pin (b, o) (List.mem_append_right _ (List.mem_append_right _ (mem_pinsAt hb e)))).2.1
    cases f with
    | next => obtain ⟨σ7, H7, I7, n7⟩ := q7; exact again I7 n7
    | cont => obtain ⟨σ7, H7, I7, n7⟩ := q7; exact again I7 n7
    | brk => obtain ⟨σ7, H7, I7, q7⟩ := q7; exact ⟨σ7, H7, I7.unpinned, q7⟩
    | ret v => obtain ⟨x7, σ7, H7, I7, r7, q7⟩ := q7; exact ⟨x7, σ7, H7, I7.unpinned, r7, q7⟩
end

/-! ### the forms one uses -/
end L2

namespace L2
open PySem PySem.Spec PyProof.Rows

abbrev R2 := V → V → Hp → VK → Prop
/-- a two-place operation on values: f is binaryOp op, inplaceOp op or compareOp op -/
def OpR (X : Cx) (f : Value → Value → Sem Value) (r : R2) : Prop :=
  ∀ (pins : List (Addr × Obj)) (s : Shared) (σ : St) (H : Hp) (x y : V) (v u : Value) (Q : VK), Inv X pins σ H s → RelV x v → RelV y u → r x y H Q →
    wpAny (model X.prog X.w) X.A (f v u) (EP X pins σ Q) X.xe s
/-- a one-place operation -/
def UnR (X : Cx) (f : Value → Sem Value) (r : V → Hp → VK → Prop) : Prop :=
  ∀ (pins : List (Addr × Obj)) (s : Shared) (σ : St) (H : Hp) (x : V) (v : Value) (Q : VK), Inv X pins σ H s → RelV x v → r x H Q →
    wpAny (model X.prog X.w) X.A (f v) (EP X pins σ Q) X.xe s
/-- a call of a value that is known (a builtin, a type) with values -/
def CallR (X : Cx) (f : Value) (r : List V → Hp → VK → Prop) : Prop :=
  ∀ (pins : List (Addr × Obj)) (s : Shared) (σ : St) (H : Hp) (xs : List V) (us : List Value) (Q : VK), Inv X pins σ H s → Vals xs us → r xs H Q →
    wpAny (model X.prog X.w) X.A (call f us) (EP X pins σ Q) X.xe s
/-- a value's truth -/
def TruR (X : Cx) (r : V → Hp → (Bool → Hp → Prop) → Prop) : Prop :=
  ∀ (pins : List (Addr × Obj)) (s : Shared) (σ : St) (H : Hp) (x : V) (v : Value) (Q : Bool → Hp → Prop), Inv X pins σ H s → RelV x v → r x H Q →
    wpAny (model X.prog X.w) X.A (truthy v) (TP X pins σ Q) X.xe s

def tOp (r : R2) (ta tb : TE) : TE := fun σ H Q => ta σ H fun x H1 => tb σ H1 fun y H2 => r x y H2 Q
def tUn (r : V → Hp → VK → Prop) (ta : TE) : TE := fun σ H Q => ta σ H fun x H1 => r x H1 Q
/-- ints in, under C, and a value out -/
def rI (C : Int → Int → Prop) (g : Int → Int → V) : R2 := fun x y H Q => ∃ i j, x = .int i ∧ y = .int j ∧ C i j ∧ Q (g i j) H
def rI0 (g : Int → Int → V) : R2 := fun x y H Q => ∃ i j, x = .int i ∧ y = .int j ∧ Q (g i j) H
def rU (g : Int → V) : V → Hp → VK → Prop := fun x H Q => ∃ i, x = .int i ∧ Q (g i) H

section
variable {X : Cx} {a b c : Expr} {ta tb tc : TE} {pos : Pos}

theorem binT (ha : PE X a ta) (hb : PE X b tb) {pins : List (Addr × Obj)} {s : Shared} {σ : St} {H : Hp} {R : V → V → Hp → Prop} (I : Inv X pins σ H s)
    (h : ta σ H fun x H1 => tb σ H1 fun y H2 => R x y H2) {Q : Value → Shared → Prop} {f : Value → Value → Sem Value}
    (hf : ∀ v u s2 x y H2, Inv X pins σ H2 s2 → RelV x v → RelV y u → R x y H2 → wpAny (model X.prog X.w) X.A (f v u) Q X.xe s2) :
    wpAny (model X.prog X.w) X.A (eval a X.env) (fun v s₁ => wpAny (model X.prog X.w) X.A (eval b X.env) (fun u s₂ => wpAny (model X.prog X.w) X.A (f v u) Q X.xe s₂) X.xe s₁) X.xe s := by
  refine thn (ha pins s σ H _ I h) fun v s1 ⟨x, H1, I1, r1, q1⟩ => ?_
  refine thn (hb pins s1 σ H1 _ I1 q1) fun u s2 ⟨y, H2, I2, r2, q2⟩ => ?_
  exact hf v u s2 x y H2 I2 r1 r2 q2

theorem pe_op {op : Operator} {r : R2} (ho : OpR X (binaryOp op) r) (ha : PE X a ta) (hb : PE X b tb) : PE X (.BinOp a op b pos) (tOp r ta tb) := by
  intro pins s σ H Q I h
  exact wpAny_BinOp (binT ha hb I h fun v u s2 x y H2 I2 rx ry q => ho pins s2 σ H2 x y v u Q I2 rx ry q)
theorem pe_un {op : UnaryOp} {r : V → Hp → VK → Prop} (ho : UnR X (unaryOp op) r) (ha : PE X a ta) : PE X (.UnaryOp op a pos) (tUn r ta) := by
  intro pins s σ H Q I h
  exact UnaryOp_ (thn (ha pins s σ H _ I h) fun v s1 ⟨x, H1, I1, r1, q1⟩ => ho pins s1 σ H1 x v Q I1 r1 q1)

/-! ### ints -/
theorem opI {f : Value → Value → Sem Value} {C : Int → Int → Prop} {g : Int → Int → Int}
    (rule : ∀ (i j : Int) (t u : Tok) (s : Shared) (Q : Value → Shared → Prop) (E : Value → Shared → Prop), C i j → Q (.int (g i j) s.toks) { s with toks := s.toks + 1 } → wpAny (model X.prog X.w) X.A (f (.int i t) (.int j u)) Q E s) :
    OpR X f (rI C fun i j => .int (g i j)) := by
  intro pins s σ H x y v u Q I rx ry h
  obtain ⟨i, j, rfl, rfl, hc, q⟩ := h
  obtain ⟨t, rfl⟩ := rx
  obtain ⟨t', rfl⟩ := ry
  exact rule i j t t' s _ _ hc ⟨.int (g i j), H, I.tok _, ⟨_, rfl⟩, q⟩
theorem opI0 {f : Value → Value → Sem Value} {g : Int → Int → Int}
    (rule : ∀ (i j : Int) (t u : Tok) (s : Shared) (Q : Value → Shared → Prop) (E : Value → Shared → Prop), Q (.int (g i j) s.toks) { s with toks := s.toks + 1 } → wpAny (model X.prog X.w) X.A (f (.int i t) (.int j u)) Q E s) :
    OpR X f (rI0 fun i j => .int (g i j)) := by
  intro pins s σ H x y v u Q I rx ry h
  obtain ⟨i, j, rfl, rfl, q⟩ := h
  obtain ⟨t, rfl⟩ := rx
  obtain ⟨t', rfl⟩ := ry
  exact rule i j t t' s _ _ ⟨.int (g i j), H, I.tok _, ⟨_, rfl⟩, q⟩
theorem opB0 {f : Value → Value → Sem Value} {g : Int → Int → Bool}
    (rule : ∀ (i j : Int) (t u : Tok) (s : Shared) (Q : Value → Shared → Prop) (E : Value → Shared → Prop), Q (.bool (g i j)) s → wpAny (model X.prog X.w) X.A (f (.int i t) (.int j u)) Q E s) :
    OpR X f (rI0 fun i j => .bl (g i j)) := by
  intro pins s σ H x y v u Q I rx ry h
  obtain ⟨i, j, rfl, rfl, q⟩ := h
  obtain ⟨t, rfl⟩ := rx
  obtain ⟨t', rfl⟩ := ry
  exact rule i j t t' s _ _ ⟨.bl (g i j), H, I, rfl, q⟩

def CDiv (i j : Int) : Prop := 0 < j ∧ j < 1073741824
def CDivN (i j : Int) : Prop := j ≠ 0 ∧ j.natAbs < 1073741824
def CPow (i j : Int) : Prop := 0 ≤ j ∧ j ≤ 1000000 ∧ i.natAbs < 2 ^ 64
def CMul (i j : Int) : Prop := (-(2 ^ 64) < i ∧ i < 2 ^ 64) ∨ (-(2 ^ 64) < j ∧ j < 2 ^ 64)
theorem CMul.ok {i j : Int} (h : CMul i j) : IntMulOk i j := by
  rcases h with ⟨h1, h2⟩ | ⟨h1, h2⟩
  · exact .of_left (intBits_le_64 h1 h2)
  · exact .of_right (intBits_le_64 h1 h2)

theorem op_add : OpR X (binaryOp .Add) (rI0 fun i j => .int (i + j)) := opI0 fun _ _ _ _ _ _ _ q => add_int q
theorem op_sub : OpR X (binaryOp .Sub) (rI0 fun i j => .int (i - j)) := opI0 fun _ _ _ _ _ _ _ q => sub_int q
theorem op_mul : OpR X (binaryOp .Mult) (rI CMul fun i j => .int (i * j)) := opI fun _ _ _ _ _ _ _ hc q => mul_int q hc.ok
/-- // by a positive divisor -/
theorem op_fdiv : OpR X (binaryOp .FloorDiv) (rI CDiv fun i j => .int (i / j)) := opI fun i j _ _ _ _ _ hc q => by
  have h1 : (0 : Int) < j := hc.1
  have h2 : j < 1073741824 := hc.2
  exact floordiv_int (by omega) (by rw [Int.fdiv_eq_ediv_of_nonneg i (by omega)]; exact q) (.inl (PyProof.noPylong_small (by omega)))
/-- % by a positive divisor of any size -/
theorem op_mod : OpR X (binaryOp .Mod) (rI (fun _ j => 0 < j) fun i j => .int (i % j)) := opI fun i j _ _ _ _ _ hc q => by
  have h1 : (0 : Int) < j := hc
  exact mod_int' (by omega) (by rw [Int.fmod_eq_emod_of_nonneg i (by omega)]; exact q)
theorem op_pow : OpR X (binaryOp .Pow) (rI CPow fun i j => .int (i ^ j.toNat)) := opI fun _ _ _ _ _ _ _ hc q => pow_int_small hc.1 hc.2.1 hc.2.2 q


theorem unI {f : Value → Sem Value} {g : Int → Int}
    (rule : ∀ (i : Int) (t : Tok) (s : Shared) (Q : Value → Shared → Prop) (E : Value → Shared → Prop), Q (.int (g i) s.toks) { s with toks := s.toks + 1 } → wpAny (model X.prog X.w) X.A (f (.int i t)) Q E s) :
    UnR X f (rU fun i => .int (g i)) := by
  intro pins s σ H x v Q I rx h
  obtain ⟨i, rfl, q⟩ := h
  obtain ⟨t, rfl⟩ := rx
  exact rule i t s _ _ ⟨.int (g i), H, I.tok _, ⟨_, rfl⟩, q⟩
theorem un_neg : UnR X (unaryOp .USub) (rU fun i => .int (-i)) := unI fun _ _ _ _ _ q => neg_int q

/-! ### bools among ints: n += (a < b) -/
end

/-! ### comparisons -/
/-- the scalars that == tells apart as data does -/
def scal : V → V → Bool
  | .non, .non => true | .non, .int _ => true | .int _, .non => true | .non, .bl _ => true | .bl _, .non => true | .non, .str _ => true | .str _, .non => true
  | .int _, .int _ => true | .bl _, .bl _ => true | .str _, .str _ => true | .byt _, .byt _ => true
  | .int _, .str _ => true | .str _, .int _ => true | .bl _, .str _ => true | .str _, .bl _ => true
  | _, _ => false
def rEq : R2 := fun x y H Q => scal x y = true ∧ Q (.bl (decide (x = y))) H
def rNe : R2 := fun x y H Q => scal x y = true ∧ Q (.bl (!decide (x = y))) H

theorem dec_int {i j : Int} : decide (V.int i = V.int j) = (i == j) := by
  rw [Bool.eq_iff_iff]
  simp
theorem dec_bl {i j : Bool} : decide (V.bl i = V.bl j) = (i == j) := by
  rw [Bool.eq_iff_iff]
  simp
theorem dec_str {i j : Str} : decide (V.str i = V.str j) = (i == j) := by
  rw [Bool.eq_iff_iff]
  simp
theorem dec_byt {i j : Array UInt8} : decide (V.byt i = V.byt j) = (i.toList == j.toList) := by
  rw [Bool.eq_iff_iff]
  cases i
  cases j
  simp

section
variable {X : Cx} {a b c : Expr} {ta tb tc : TE} {pos : Pos}
theorem fin_bl {pins : List (Addr × Obj)} {σ : St} {H : Hp} {s : Shared} {Q : VK} {k k' : Bool} (I : Inv X pins σ H s) (q : Q (.bl k) H) (e : k = k') : EP X pins σ Q (.bool k') s := by
  subst e
  exact ⟨.bl k, H, I, rfl, q⟩
theorem op_eq : OpR X (compareOp .Eq) rEq := by
  intro pins s σ H x y v u Q I rx ry h
  obtain ⟨hs, q⟩ := h
  cases x with
  | non =>
    cases rx
    cases y with
    | non => cases ry; exact PySem.EqNone.eq_none_none (fin_bl I q (by simp))
    | bl j => cases ry; exact PySem.EqNone.eq_none_bool (fin_bl I q (by simp))
    | int j => obtain ⟨t', rfl⟩ := ry; exact PySem.EqNone.eq_none_int (fin_bl I q (by simp))
    | str j => obtain ⟨t', rfl⟩ := ry; exact PySem.EqNone.eq_none_str (fin_bl I q (by simp))
    | _ => exact absurd (show false = true from hs) Bool.false_ne_true
  | bl i =>
    cases rx
    cases y with
    | non => cases ry; exact PySem.EqNone.eq_bool_none (fin_bl I q (by simp))
    | bl j => cases ry; exact eq_bool (fin_bl I q dec_bl)
    | str j => obtain ⟨t', rfl⟩ := ry; exact PySem.EqMixed.eq_bool_str (fin_bl I q (by simp))
    | _ => exact absurd (show false = true from hs) Bool.false_ne_true
  | int i =>
    obtain ⟨t, rfl⟩ := rx
    cases y with
    | non => cases ry; exact PySem.EqNone.eq_int_none (fin_bl I q (by simp))
    | int j => obtain ⟨t', rfl⟩ := ry; exact eq_int (fin_bl I q dec_int)
    | str j => obtain ⟨t', rfl⟩ := ry; exact PySem.EqMixed.eq_int_str (fin_bl I q (by simp))
    | _ => exact absurd (show false = true from hs) Bool.false_ne_true
  | str i =>
    obtain ⟨t, rfl⟩ := rx
    cases y with
    | non => cases ry; exact PySem.EqNone.eq_str_none (fin_bl I q (by simp))
    | bl j => cases ry; exact PySem.EqMixed.eq_str_bool (fin_bl I q (by simp))
    | int j => obtain ⟨t', rfl⟩ := ry; exact PySem.EqMixed.eq_str_int (fin_bl I q (by simp))
    | str j => obtain ⟨t', rfl⟩ := ry; exact eq_str (fin_bl I q dec_str)
    | _ => exact absurd (show false = true from hs) Bool.false_ne_true
  | byt i =>
    obtain ⟨t, rfl⟩ := rx
    cases y with
    | byt j => obtain ⟨t', rfl⟩ := ry; exact PySem.W.eq_bytes (fin_bl I q dec_byt)
    | _ => exact absurd (show false = true from hs) Bool.false_ne_true
  | _ => cases y <;> exact absurd (show false = true from hs) Bool.false_ne_true
theorem op_ne : OpR X (compareOp .NotEq) rNe := by
  intro pins s σ H x y v u Q I rx ry h
  obtain ⟨hs, q⟩ := h
  cases x with
  | non =>
    cases rx
    cases y with
    | non => cases ry; exact PySem.EqNone.ne_none_none (fin_bl I q (by simp))
    | bl j => cases ry; exact PySem.EqNone.ne_none_bool (fin_bl I q (by simp))
    | int j => obtain ⟨t', rfl⟩ := ry; exact PySem.EqNone.ne_none_int (fin_bl I q (by simp))
    | str j => obtain ⟨t', rfl⟩ := ry; exact PySem.EqNone.ne_none_str (fin_bl I q (by simp))
    | _ => exact absurd (show false = true from hs) Bool.false_ne_true
  | bl i =>
    cases rx
    cases y with
    | non => cases ry; exact PySem.EqNone.ne_bool_none (fin_bl I q (by simp))
    | bl j => cases ry; exact ne_bool (fin_bl I q (congrArg not dec_bl))
    | str j => obtain ⟨t', rfl⟩ := ry; exact PySem.EqMixed.ne_bool_str (fin_bl I q (by simp))
    | _ => exact absurd (show false = true from hs) Bool.false_ne_true
  | int i =>
    obtain ⟨t, rfl⟩ := rx
    cases y with
    | non => cases ry; exact PySem.EqNone.ne_int_none (fin_bl I q (by simp))
    | int j => obtain ⟨t', rfl⟩ := ry; exact ne_int (fin_bl I q (congrArg not dec_int))
    | str j => obtain ⟨t', rfl⟩ := ry; exact PySem.EqMixed.ne_int_str (fin_bl I q (by simp))
    | _ => exact absurd (show false = true from hs) Bool.false_ne_true
  | str i =>
    obtain ⟨t, rfl⟩ := rx
    cases y with
    | non => cases ry; exact PySem.EqNone.ne_str_none (fin_bl I q (by simp))
    | bl j => cases ry; exact PySem.EqMixed.ne_str_bool (fin_bl I q (by simp))
    | int j => obtain ⟨t', rfl⟩ := ry; exact PySem.EqMixed.ne_str_int (fin_bl I q (by simp))
    | str j => obtain ⟨t', rfl⟩ := ry; exact ne_str (fin_bl I q (congrArg not dec_str))
    | _ => exact absurd (show false = true from hs) Bool.false_ne_true
  | byt i =>
    obtain ⟨t, rfl⟩ := rx
    cases y with
    | byt j => obtain ⟨t', rfl⟩ := ry; exact PySem.W.ne_bytes (fin_bl I q (congrArg not dec_byt))
    | _ => exact absurd (show false = true from hs) Bool.false_ne_true
  | _ => cases y <;> exact absurd (show false = true from hs) Bool.false_ne_true

theorem op_lt : OpR X (compareOp .Lt) (rI0 fun i j => .bl (decide (i < j))) := opB0 fun _ _ _ _ _ _ _ q => lt_int q
theorem op_le : OpR X (compareOp .LtE) (rI0 fun i j => .bl (decide (i ≤ j))) := opB0 fun _ _ _ _ _ _ _ q => le_int q
theorem op_ge : OpR X (compareOp .GtE) (rI0 fun i j => .bl (decide (j ≤ i))) := opB0 fun _ _ _ _ _ _ _ q => ge_int q

theorem op_notN : OpR X (compareOp .IsNot) (fun x y H Q => y = .non ∧ Q (.bl (!decide (x = .non))) H) := by
  intro pins s σ H x y v u Q I rx ry h
  obtain ⟨rfl, q⟩ := h
  cases ry
  refine isnot_none_gen (fin_bl I q ?_)
  cases x <;> first
    | (cases rx; rfl)
    | (obtain ⟨t, rfl⟩ := rx; rfl)

/-- is, is not of two objects that are tracked lists or instances -/
def isObj : HO → Bool
  | .lst _ => true
  | .ins _ _ _ => true
  | _ => false

/-- two rules for one operation: by cases -/
theorem OpR.or {f : Value → Value → Sem Value} {r r' : R2} (h : OpR X f r) (h' : OpR X f r') : OpR X f (fun x y H Q => r x y H Q ∨ r' x y H Q) := by
  intro pins s σ H x y v u Q I rx ry q
  rcases q with q | q
  · exact h pins s σ H x y v u Q I rx ry q
  · exact h' pins s σ H x y v u Q I rx ry q

theorem nomark (b : Expr) {op : CmpOp} (h : op ≠ .In := by decide) (h2 : op ≠ .NotIn := by decide) : behindInMarks op b = false := by
  have e1 : (op == CmpOp.In) = false := by cases op <;> first | rfl | exact absurd rfl h
  have e2 : (op == CmpOp.NotIn) = false := by cases op <;> first | rfl | exact absurd rfl h2
  cases b <;> simp [behindInMarks, e1, e2]
/-- a comparison as a value; hm: nomark b, or (for in, not in) by with_unfolding_all rfl -/
theorem pe_cmpR {op : CmpOp} {r : R2} (ho : OpR X (compareOp op) r) (ha : PE X a ta) (hb : PE X b tb) (hm : behindInMarks op b = false) : PE X (.Compare a [op] [b] pos) (tOp r ta tb) := by
  intro pins s σ H Q I h
  exact wpAny_Compare1 (binT ha hb I h fun v u s2 x y H2 I2 rx ry q => ho pins s2 σ H2 x y v u Q I2 rx ry q) hm
/-- a reading of a value as a test -/
def tTest (t : TE) : TT := fun σ H Q => t σ H fun x H' => ∃ k, x = .bl k ∧ Q k H'
theorem pt_cmpR {op : CmpOp} {r : R2} (ho : OpR X (compareOp op) r) (ha : PE X a ta) (hb : PE X b tb) (hm : behindInMarks op b = false) : PT X (.Compare a [op] [b] pos) (tTest (tOp r ta tb)) := by
  intro pins s σ H Q I h
  refine wpAny_isTrue_Compare1 (thn (ha pins s σ H _ I h) fun v s1 ⟨x, H1, I1, r1, q1⟩ => thn (hb pins s1 σ H1 _ I1 q1) fun u s2 ⟨y, H2, I2, r2, q2⟩ =>
    thn (ho pins s2 σ H2 x y v u _ I2 r1 r2 q2) fun c s3 ⟨z, H3, I3, r3, k, e, q3⟩ => ?_) hm
  subst e
  cases r3
  exact wpAny_truthy_bool ⟨H3, I3, q3⟩
/-- a op1 b op2 c -/
def tChain (r r' : R2) (ta tb tc : TE) : TE := fun σ H Q => ta σ H fun x H1 => tb σ H1 fun y H2 => r x y H2 fun z H3 => ∃ k, z = .bl k ∧
  (if k = true then tc σ H3 fun w' H4 => r' y w' H4 Q else Q (.bl false) H3)
theorem pe_chain {op op' : CmpOp} {r r' : R2} (ho : OpR X (compareOp op) r) (ho' : OpR X (compareOp op') r') (ha : PE X a ta) (hb : PE X b tb) (hc : PE X c tc)
    (hm : lastMarks [op, op'] [b, c] = false := by with_unfolding_all rfl) : PE X (.Compare a [op, op'] [b, c] pos) (tChain r r' ta tb tc) := by
  intro pins s σ H Q I h
  refine Compare_chain (thn (ha pins s σ H _ I h) fun v s1 ⟨x, H1, I1, r1, q1⟩ => chain_link (thn (hb pins s1 σ H1 _ I1 q1) fun u s2 ⟨y, H2, I2, r2, q2⟩ =>
    thn (ho pins s2 σ H2 x y v u _ I2 r1 r2 q2) fun d s3 ⟨z, H3, I3, r3, k, e, q3⟩ => ?_)) hm
  subst e
  cases r3
  refine wpAny_truthy_bool ?_
  cases k with
  | false => exact ite_ff ⟨.bl false, H3, I3, rfl, q3⟩
  | true => exact ite_tt (chain_last (thn (hc pins s3 σ H3 _ I3 q3) fun w' s4 ⟨z', H4, I4, r4, q4⟩ => ho' pins s4 σ H4 y z' u w' Q I4 r2 r4 q4))
theorem pt_chain {op op' : CmpOp} {r r' : R2} (ho : OpR X (compareOp op) r) (ho' : OpR X (compareOp op') r') (ha : PE X a ta) (hb : PE X b tb) (hc : PE X c tc)
    (hm : lastMarks [op, op'] [b, c] = false := by with_unfolding_all rfl) : PT X (.Compare a [op, op'] [b, c] pos) (tTest (tChain r r' ta tb tc)) := by
  intro pins s σ H Q I h
  refine isTrue_chain (thn (ha pins s σ H _ I h) fun v s1 ⟨x, H1, I1, r1, q1⟩ => test_link (thn (hb pins s1 σ H1 _ I1 q1) fun u s2 ⟨y, H2, I2, r2, q2⟩ =>
    thn (ho pins s2 σ H2 x y v u _ I2 r1 r2 q2) fun d s3 ⟨z, H3, I3, r3, k, e, q3⟩ => ?_)) hm
  subst e
  cases r3
  refine wpAny_truthy_bool ?_
  cases k with
  | false =>
    obtain ⟨k', e', q'⟩ := q3
    cases e'
    exact ite_ff ⟨H3, I3, q'⟩
  | true =>
    refine ite_tt (test_last (thn (hc pins s3 σ H3 _ I3 q3) fun w' s4 ⟨z', H4, I4, r4, q4⟩ => thn (ho' pins s4 σ H4 y z' u w' _ I4 r2 r4 q4) fun d' s5 ⟨z2, H5, I5, r5, k2, e2, q5⟩ => ?_))
    subst e2
    cases r5
    exact wpAny_truthy_bool ⟨H5, I5, q5⟩

/-! ### truth -/
/-- a value's truth by the abstract heap -/
def TruV (K : PySem.W.Frag) (x : V) (H : Hp) (k : Bool) : Prop :=
  match x with
  | .non => k = false
  | .bl b => k = b
  | .int i => k = (i != 0)
  | .str y => y.length ≤ sizeLine ∧ k = ((y.length : Int) != 0)
  | .byt y => y.size ≤ sizeLine ∧ k = ((y.size : Int) != 0)
  | .ref p => (∃ xs, SqL K H p xs ∧ k = !xs.isEmpty) ∨ (∃ xs, SqT K H p xs ∧ k = !xs.isEmpty) ∨ ∃ kvs, H p = some (.dK kvs) ∧ k = !kvs.isEmpty
  | _ => False
theorem line63 : (sizeLine : Nat) < 2 ^ 63 := by rw [sizeLine_eq]; decide

/-! ### strs and bytes -/
theorem op_add_str : OpR X (binaryOp .Add) (fun x y H Q => ∃ i j, x = .str i ∧ y = .str j ∧ i.length + j.length ≤ sizeLine ∧ Q (.str (i ++ j)) H) := by
  intro pins s σ H x y v u Q I rx ry h
  obtain ⟨i, j, rfl, rfl, hz, q⟩ := h
  obtain ⟨t, rfl⟩ := rx
  obtain ⟨t', rfl⟩ := ry
  exact add_str (fun t' tk => ⟨.str (i ++ j), H, I.tok _, ⟨_, rfl⟩, q⟩) hz

def PlainIxT (b : Expr) : Prop := ∀ o i, subscripted b false o i = operate [o, i] (getItem o i)

/-! ### scalar builtins, by CallR -/
theorem vals1 {x : V} {us : List Value} (r : Vals [x] us) : ∃ u, us = [u] ∧ RelV x u := by
  cases r with
  | cons r1 r2 => cases r2; exact ⟨_, rfl, r1⟩
theorem vals2 {x y : V} {us : List Value} (r : Vals [x, y] us) : ∃ u w', us = [u, w'] ∧ RelV x u ∧ RelV y w' := by
  cases r with
  | cons r1 r2 =>
    cases r2 with
    | cons r3 r4 => cases r4; exact ⟨_, _, rfl, r1, r3⟩
theorem call_max2 (hc : X.calm = true) : CallR X (.builtin "max") (fun xs H Q => ∃ i j, xs = [.int i, .int j] ∧ Q (.int (if j > i then j else i)) H) := by
  intro pins s σ H xs us Q I r h
  obtain ⟨i, j, rfl, q⟩ := h
  obtain ⟨u, w', rfl, ⟨t, rfl⟩, ⟨t', rfl⟩⟩ := vals2 r
  refine max_two_ints (I.ok.hd hc) fun h' tk k => ⟨_, H, I.kept k, ?_, q⟩
  by_cases hj : j > i
  · rw [if_pos hj, if_pos hj]; exact ⟨_, rfl⟩
  · rw [if_neg hj, if_neg hj]; exact ⟨_, rfl⟩
theorem call_min2 (hc : X.calm = true) : CallR X (.builtin "min") (fun xs H Q => ∃ i j, xs = [.int i, .int j] ∧ Q (.int (if j < i then j else i)) H) := by
  intro pins s σ H xs us Q I r h
  obtain ⟨i, j, rfl, q⟩ := h
  obtain ⟨u, w', rfl, ⟨t, rfl⟩, ⟨t', rfl⟩⟩ := vals2 r
  refine min_two_ints (I.ok.hd hc) fun h' tk k => ⟨_, H, I.kept k, ?_, q⟩
  by_cases hj : j < i
  · rw [if_pos hj, if_pos hj]; exact ⟨_, rfl⟩
  · rw [if_neg hj, if_neg hj]; exact ⟨_, rfl⟩
theorem call_int1 : CallR X (.type "int") (fun xs H Q => (∃ i, xs = [.int i] ∧ Q (.int i) H) ∨ ∃ k, xs = [.bl k] ∧ Q (.int (if k then 1 else 0)) H) := by
  intro pins s σ H xs us Q I r h
  rcases h with ⟨i, rfl, q⟩ | ⟨k, rfl, q⟩
  · obtain ⟨u, rfl, t, rfl⟩ := vals1 r
    exact call_int_int ⟨.int i, H, I, ⟨_, rfl⟩, q⟩
  · obtain ⟨u, rfl, r1⟩ := vals1 r
    cases r1
    exact call_int_bool ⟨.int (if k then 1 else 0), H, I.tok _, ⟨_, rfl⟩, q⟩
/-- len of a str, a bytes, a list, a tuple -/
def LenV (K : PySem.W.Frag) (x : V) (H : Hp) (n : Nat) : Prop :=
  match x with
  | .str y => y.length ≤ sizeLine ∧ n = y.length
  | .byt y => y.size ≤ sizeLine ∧ n = y.size
  | .ref p => (∃ xs, SqL K H p xs ∧ n = xs.length) ∨ ∃ xs, SqT K H p xs ∧ n = xs.length
  | _ => False
end
end L2

namespace L2
open PySem PySem.Spec PyProof.Rows

/-! ### an instance, its attributes a map -/
structure ObjM (h : Heap) (x dx C : Addr) (mA : Str → Option Value) : Prop where
  obj : h.get? x = some (PySem.W.instObj C dx)
  ns : h.Ns1 dx mA
  ne : dx ≠ x

theorem lookIn_ns {h : Heap} {dx : Addr} {mA : Str → Option Value} (n : h.Ns1 dx mA) : ∃ od, h.get? dx = some od ∧ ∀ name, PySem.W.lookIn name od = some (mA name) := by
  obtain ⟨o, es, ep, ho, hd, hk, _, hm⟩ := n
  refine ⟨o, ho, fun name => ?_⟩
  have e := hm name
  unfold nsFind findBy at e
  rw [← Array.find?_toList] at e
  unfold PySem.W.lookIn
  rw [hd]
  dsimp only
  split
  · rename_i y q
    rw [q] at e
    exact congrArg some e
  · rename_i q
    rw [q] at e
    have a : es.toList.any (·.refKey) = false := by
      rw [List.any_eq_false]
      intro y hy
      obtain ⟨z, t, hkey⟩ := hk y (Array.mem_toList_iff.mp hy)
      simp [DictEntry.refKey, hkey]
    have a' : ¬ es.toList.any (·.refKey) = true := by rw [a]; exact Bool.false_ne_true
    rw [if_neg a']
    exact congrArg some e

theorem ObjM.look {h : Heap} {x dx C : Addr} {mA : Str → Option Value} (I : ObjM h x dx C mA) : ∃ od, PySem.W.InstAt h x (PySem.W.instObj C dx) C (some od) ∧ ∀ name, PySem.W.lookIn name od = some (mA name) :=
  let ⟨od, ho, hl⟩ := lookIn_ns I.ns
  ⟨od, ⟨I.obj, rfl, rfl, ho⟩, hl⟩

section
variable {prog : Program} {w : World} {A : Around} {E : Value → Shared → Prop} {s : Shared} {K : PySem.W.Frag} {x dx C f : Addr} {mA : Str → Option Value} {name : Str} {v : Value}

theorem get_map {expr : Bool} {Q : Value → Shared → Prop} (X : K.In s.heap) (I : ObjM s.heap x dx C mA) (hg : PySem.W.plainGet K C name = true) (hh : PySem.W.hasDictIn K C = true)
    (ha : PySem.W.findIn K (.ref C) name = some none) (hv : mA name = some v) (hv' : PySem.W.handedIn v = true) (h : Q v { s with toks := s.toks + 1 }) :
    wpAny (model prog w) A (getAttr (.ref x) name expr) Q E s := by
  obtain ⟨od, J, hl⟩ := I.look
  exact PySem.W.get_value X J (PySem.W.plainGet_of hg).1 (PySem.W.findObj_own hh ha rfl (by rw [hl, hv])) hv' h



theorem set_map {ns : List Str} {Q : Unit → Shared → Prop} (X : K.In s.heap) (I : ObjM s.heap x dx C mA)
    (hs : PySem.W.findIn K (.ref C) "__setattr__" = some (some (.builtin "object.__setattr__"))) (hp : PySem.W.plainOver K C = true) (ht : PySem.W.takerIn K C name = some none) (hh : PySem.W.hasDictIn K C = true)
    (hw : PySem.Within mA ns) (hsz : ns.length ≤ sizeLine)
    (h : ∀ h', ObjM h' x dx C (fun y => if y = name then some v else mA y) → Heap.SameBut dx s.heap h' → Q () { s with heap := h', toks := s.toks + 2 }) :
    wpAny (model prog w) A (setAttr (.ref x) name v) Q E s := by
  obtain ⟨od, J, hl⟩ := I.look
  refine PySem.W.set_plain X J hs (PySem.W.osa_open (s := { s with toks := s.toks + 1 }) (r := none) X J hp ht fun b => ?_)
  obtain ⟨cd, hc, hd'⟩ := PySem.W.any_some hh
  have hx : s.heap.get? x = some ⟨.ref C, some dx, .plain, #[]⟩ := I.obj
  refine wpAny_bind (wpAny_pure (wpAny_bind (wpAny_bind (wpAny_loadPart hx (wpAny_bind (PySem.W.Looks.here (s := { s with toks := s.toks + 1 }) (PySem.W.looks_clsIn X hc) ?_))))))
  rw [hd']
  refine wpAny_pure (a := some dx) (wpAny_bind (wpAny_pure (wpAny_bind ?_)))
  refine wpAny_nsSet1 (s := { s with toks := s.toks + 1 }) I.ns fun h' hn2 hs2 => ?_
  obtain ⟨oD, esD, epD, hoD, hdD, hcD⟩ := hn2.count (PySem.Within.cons name v hw)
  refine wpAny_bind (wpAny_lookBehind hoD (by rw [hdD]; exact pastItsLine_dict (Nat.le_trans hcD (by rw [List.length_cons]; omega))) ?_)
  exact wpAny_pure (h _ ⟨(hs2.2 _ (Ne.symm I.ne)).trans I.obj, hn2, I.ne⟩ hs2)

/-- C(..): the dict at the heap's end, the instance behind it; then its __init__ -/
theorem make_map {R : Result → Shared → Prop} {vs : List Value} {kw : List (Str × Value)} (X : K.In s.heap) (hm : PySem.W.makesIn K C = true)
    (hi : PySem.W.findIn K (.ref C) "__init__" = some (some (.ref f))) (hf : PySem.W.typeIn K (.ref f) = some (.type "function"))
    (h : codeAny (model prog w) (A.under (.builtin "type.__call__" ⟨.ref C :: vs, kw⟩)) (.call (.ref f) ⟨.ref (s.heap.objs.size + 1) :: vs, kw⟩) (PySem.W.InitBack (s.heap.objs.size + 1) R)
      { s with heap := (s.heap.push PySem.W.emptyDict).push (PySem.W.instObj C s.heap.objs.size) }) :
    codeAny (model prog w) A (.call (.ref C) ⟨vs, kw⟩) R s := by
  obtain ⟨hh, g, d, t, os⟩ := s
  exact PySem.W.make_core (PySem.W.makes_of X hm) (PySem.W.looks_findIn X hi) (fun self => PySem.W.bind_fn X self hf) (.inl rfl) h
end

/-! ### the attributes as a list of pairs -/
def putF (f : Str) (v : V) : List (Str × V) → List (Str × V)
  | [] => [(f, v)]
  | (g, x) :: r => if g = f then (g, v) :: r else (g, x) :: putF f v r
theorem lookup_putF (f g : Str) (v : V) : ∀ fs : List (Str × V), (putF f v fs).lookup g = if g = f then some v else fs.lookup g
  | [] => by
    show List.lookup g [(f, v)] = _
    by_cases h : g = f
    · have hb : (g == f) = true := beq_iff_eq.mpr h
      simp only [List.lookup, hb, if_pos h]
    · have hb : (g == f) = false := beq_eq_false_iff_ne.mpr h
      simp only [List.lookup, hb, if_neg h]
  | (k, x) :: r => by
    have ih := lookup_putF f g v r
    rw [show putF f v ((k, x) :: r) = (if k = f then (k, v) :: r else (k, x) :: putF f v r) from rfl]
    by_cases hk : k = f
    · rw [if_pos hk]
      by_cases h : g = k
      · have hb : (g == k) = true := beq_iff_eq.mpr h
        simp only [List.lookup, hb, if_pos (h.trans hk)]
      · have hb : (g == k) = false := beq_eq_false_iff_ne.mpr h
        simp only [List.lookup, hb, if_neg (fun e : g = f => h (e.trans hk.symm))]
    · rw [if_neg hk]
      by_cases h : g = k
      · have hb : (g == k) = true := beq_iff_eq.mpr h
        simp only [List.lookup, hb, if_neg (fun e : g = f => hk (h.symm.trans e))]
      · have hb : (g == k) = false := beq_eq_false_iff_ne.mpr h
        simp only [List.lookup, hb]
        exact ih
theorem keys_putF (f : Str) (v : V) : ∀ fs : List (Str × V), f ∈ (putF f v fs).map (·.1) ∧ ∀ g, g ∈ fs.map (·.1) → g ∈ (putF f v fs).map (·.1)
  | [] => ⟨by simp [putF], fun g h => by simp at h⟩
  | (k, x) :: r => by
    obtain ⟨i1, i2⟩ := keys_putF f v r
    rw [show putF f v ((k, x) :: r) = (if k = f then (k, v) :: r else (k, x) :: putF f v r) from rfl]
    by_cases hk : k = f
    · rw [if_pos hk]
      subst hk
      exact ⟨by simp, fun g h => by simpa using h⟩
    · rw [if_neg hk]
      refine ⟨?_, fun g h => ?_⟩
      · rw [List.map_cons]
        exact List.mem_cons_of_mem _ i1
      · rw [List.map_cons] at h ⊢
        rcases List.mem_cons.mp h with e | e
        · exact List.mem_cons.mpr (.inl e)
        · exact List.mem_cons_of_mem _ (i2 g e)
theorem length_putF (f : Str) (v : V) : ∀ fs : List (Str × V), (putF f v fs).length ≤ fs.length + 1
  | [] => by simp [putF]
  | (k, x) :: r => by
    have ih := length_putF f v r
    rw [show putF f v ((k, x) :: r) = (if k = f then (k, v) :: r else (k, x) :: putF f v r) from rfl]
    by_cases hk : k = f
    · rw [if_pos hk, List.length_cons, List.length_cons]; omega
    · rw [if_neg hk, List.length_cons, List.length_cons]; omega

theorem RelO.some_of {v : V} {o : Option Value} (r : RelO (some v) o) : ∃ u, o = some u ∧ RelV v u := by
  cases o with
  | none => exact (show False from r).elim
  | some u => exact ⟨u, rfl, r⟩
theorem handed_of {v : V} {u : Value} (r : RelV v u) : PySem.W.handedIn u = true := by
  cases v with
  | non => cases (show u = Value.none from r); rfl
  | bl b => cases (show u = Value.bool b from r); rfl
  | int i => obtain ⟨t, e⟩ := (show ∃ t, u = Value.int i t from r); cases e; rfl
  | str x => obtain ⟨t, e⟩ := (show ∃ t, u = Value.str x t from r); cases e; rfl
  | byt b => obtain ⟨t, e⟩ := (show ∃ t, u = Value.bytes b t from r); cases e; rfl
  | flt b => obtain ⟨t, e⟩ := (show ∃ t, u = Value.float b t from r); cases e; rfl
  | ref a => cases (show u = Value.ref a from r); rfl
  | ty n => cases (show u = Value.type n from r); rfl

section
variable {P : Program} {w : World} {H H' : Hp} {h h' : Heap} {a C dx : Addr} {fs fs' : List (Str × V)}
theorem ins_get (hok : HOk P w H h) (e : H a = some (.ins C dx fs)) : ∃ mA, ObjM h a dx C mA ∧ (∀ f, RelO (fs.lookup f) (mA f)) ∧ PySem.Within mA (fs.map (·.1)) ∧ fs.length ≤ 1000 ∧ H dx = some (.own a) := by
  obtain ⟨d, z, ne, ob, mA, n, r, q⟩ := (show ObjOk P w H h a (.ins C dx fs) from hok a _ e)
  exact ⟨mA, ⟨ob, n, ne⟩, r, q, z, d⟩
end

/-! ### what of the text a class must have -/
structure Cls (K : PySem.W.Frag) (C : Addr) : Prop where
  pg : PySem.W.plainGet K C Str.empty = true
  hd : PySem.W.hasDictIn K C = true
  po : PySem.W.plainOver K C = true
  sa : PySem.W.findIn K (.ref C) "__setattr__" = some (some (.builtin "object.__setattr__"))
theorem Cls.get {K : PySem.W.Frag} {C : Addr} (c : Cls K C) (f : Str) : PySem.W.plainGet K C f = true := c.pg
/-- no class of it has the name -/
def NoAttr (K : PySem.W.Frag) (C : Addr) (f : Str) : Prop := PySem.W.findIn K (.ref C) f = some none
theorem NoAttr.taker {K : PySem.W.Frag} {C : Addr} {f : Str} (n : NoAttr K C f) : PySem.W.takerIn K C f = some none := by
  unfold PySem.W.takerIn
  rw [show PySem.W.findIn K (.ref C) f = some none from n]
  rfl
/-- a constant of the class -/
structure Con (K : PySem.W.Frag) (C : Addr) (f : Str) (v : V) (u : Value) : Prop where
  at_ : PySem.W.findIn K (.ref C) f = some (some u)
  rel : RelV v u
  get : PySem.W.specialIn K u "__get__" = some none
  cp : PySem.W.copiedNames.contains f = false
/-- a method: a plain def of the class or of one above it -/
structure Meth (K : PySem.W.Frag) (C : Addr) (m : Str) (f : Addr) : Prop where
  at_ : PySem.W.findIn K (.ref C) m = some (some (.ref f))
  fn : PySem.W.isFn K (.ref f) = true
  kp : PySem.W.keepIn K (.ref f) = true

section
variable {X : Cx} {pins : List (Addr × Obj)} {σ : St} {H : Hp} {s : Shared} {a C dx : Addr} {fs : List (Str × V)} {f : Str} {v : V} {A : Around} {E : Value → Shared → Prop}

theorem getattr_ok {b : Bool} {Q : Value → Shared → Prop} (I : Inv X pins σ H s) (e : H a = some (.ins C dx fs)) (c : Cls X.K C) (n : NoAttr X.K C f) (l : fs.lookup f = some v)
    (h : ∀ u s', Inv X pins σ H s' → RelV v u → Q u s') : wpAny (model X.prog X.w) A (getAttr (.ref a) f b) Q E s := by
  obtain ⟨mA, O, r, _, _, _⟩ := ins_get I.hok e
  obtain ⟨u, hu, ru⟩ := RelO.some_of (v := v) (o := mA f) (by rw [← l]; exact r f)
  exact get_map I.kIn O (c.get f) c.hd n hu (handed_of ru) (h u _ (I.tok _) ru)



theorem setattr_ok {y : V} {u : Value} {Q : Unit → Shared → Prop} (I : Inv X pins σ H s) (e : H a = some (.ins C dx fs)) (c : Cls X.K C) (n : NoAttr X.K C f) (hl : fs.length < 1000) (ry : RelV y u)
    (h : ∀ s', Inv X pins σ (upd H a (.ins C dx (putF f y fs))) s' → Q () s') : wpAny (model X.prog X.w) A (setAttr (.ref a) f u) Q E s := by
  obtain ⟨mA, O, r, wi, _, ho⟩ := ins_get I.hok e
  have hz : (fs.map (·.1)).length ≤ sizeLine := by rw [List.length_map, sizeLine_eq]; omega
  refine set_map I.kIn O c.sa c.po n.taker c.hd wi hz fun h' O' sb => h _ ?_
  have hd : ∃ o, h'.get? dx = some o := let ⟨o, _, _, e', _⟩ := O'.ns; ⟨o, e'⟩
  refine I.write (x := a) (e := dx) (by rw [e]; exact True.intro) (.inr ho) (fun b q hb z => (sb.2 b hb).trans z) hd ?_
  refine ⟨by rw [upd_ne O.ne]; exact ho, ?_, O.ne, O'.obj, _, O'.ns, fun g => ?_, fun g hg => ?_⟩
  · have := length_putF f y fs; omega
  · show RelO ((putF f y fs).lookup g) (if g = f then some u else mA g)
    rw [lookup_putF]
    by_cases q : g = f
    · rw [if_pos q, if_pos q]; exact ry
    · rw [if_neg q, if_neg q]; exact r g
  · by_cases q : g = f
    · rw [q]; exact (keys_putF f y fs).1
    · refine (keys_putF f y fs).2 g (wi g fun z => hg ?_)
      show (if g = f then some u else mA g) = none
      rw [if_neg q]; exact z

/-- a new instance, tracked, without attributes -/
theorem Inv.made (I : Inv X pins σ H s) : Inv X pins σ (upd (upd H s.heap.objs.size (.own (s.heap.objs.size + 1))) (s.heap.objs.size + 1) (.ins C s.heap.objs.size []))
    { s with heap := (s.heap.push PySem.W.emptyDict).push (PySem.W.instObj C s.heap.objs.size) } := by
  have e1 : (s.heap.push PySem.W.emptyDict).get? s.heap.objs.size = some PySem.W.emptyDict := Heap.get?_push_size s.heap rfl
  have e2 : ((s.heap.push PySem.W.emptyDict).push (PySem.W.instObj C s.heap.objs.size)).get? (s.heap.objs.size + 1) = some (PySem.W.instObj C s.heap.objs.size) := by
    have := Heap.get?_push_size (s.heap.push PySem.W.emptyDict) (o := PySem.W.instObj C s.heap.objs.size) rfl
    rwa [Heap.size_push] at this
  have e3 : (s.heap.push PySem.W.emptyDict).Ns s.heap.objs.size (fun _ => none) := ⟨PySem.W.emptyDict, #[], _, e1, rfl, (fun e he => absurd he (by simp)), fun _ => rfl⟩
  have I1 := I.laid (a := s.heap.objs.size) (o := .own (s.heap.objs.size + 1)) (h' := s.heap.push PySem.W.emptyDict) (t' := s.toks) (fun b u q => Heap.get?_push_of_some _ q) (Nat.le_refl _) ⟨_, e1⟩
  refine I1.laid (a := s.heap.objs.size + 1) (o := .ins C s.heap.objs.size []) (t' := s.toks) (fun b u q => Heap.get?_push_of_some _ q) (Nat.le_of_eq (Heap.size_push _ _)) ?_
  have ne : s.heap.objs.size ≠ s.heap.objs.size + 1 := Nat.ne_of_lt (Nat.lt_succ_self _)
  refine ⟨by rw [upd_ne ne, upd_same], Nat.zero_le _, ne, e2, fun _ => none, (Heap.Ns1.of_empty e3).at fun o q => Heap.get?_push_of_some _ q, fun _ => True.intro, fun y hy => absurd rfl hy⟩

/-- e.f where nothing but the object is asked: through attributeBase (super) and the last hold -/
theorem attr_of {prog : Program} {w : World} {env : Env} {e : Expr} {f : Str} {pos : Pos} {s : Shared} {Q : Value → Shared → Prop} (hb : attributeBase e f env (eval e env) = eval e env)
    (h : wpAny (model prog w) A (eval e env) (fun o s₁ => wpAny (model prog w) A (getAttr o f true) Q E s₁) E s) : wpAny (model prog w) A (eval (.Attribute e f pos) env) Q E s :=
  Attribute_any_ h (by rw [arm_eval_Attribute, hb])
end

/-! ### readings and rules -/
/-- e.f, an attribute of the instance -/
def tFld (K : PySem.W.Frag) (ta : TE) (f : Str) : TE := fun σ H Q => ta σ H fun x H1 => ∃ a C dx fs v, x = .ref a ∧ H1 a = some (.ins C dx fs) ∧ Cls K C ∧ NoAttr K C f ∧ fs.lookup f = some v ∧ Q v H1
/-- e.f, a constant of the class -/
def tCon (K : PySem.W.Frag) (ta : TE) (f : Str) : TE := fun σ H Q => ta σ H fun x H1 => ∃ a C dx fs v u, x = .ref a ∧ H1 a = some (.ins C dx fs) ∧ Cls K C ∧ Con K C f v u ∧ fs.lookup f = none ∧ Q v H1
/-- e.f = value -/
def sFld (K : PySem.W.Frag) (ta tv : TE) (f : Str) : TS := fun D σ H => tv σ H fun y H1 => ta σ H1 fun x H2 => ∃ a C dx fs, x = .ref a ∧ H2 a = some (.ins C dx fs) ∧ Cls K C ∧ NoAttr K C f ∧ fs.length < 1000 ∧
  D.nx σ (upd H2 a (.ins C dx (putF f y fs)))
/-- an augmented operator on two values -/
def InOp (X : Cx) (op : Operator) (rd : V → V → Hp → VK → Prop) : Prop :=
  ∀ (pins : List (Addr × Obj)) (s : Shared) (σ : St) (H : Hp) (x y : V) (u v : Value) (Q : VK), Inv X pins σ H s → RelV x u → RelV y v → rd x y H Q → wpAny (model X.prog X.w) X.A (inplaceOp op u v) (EP X pins σ Q) X.xe s
/-- e.f op= value -/
def sFldAug (K : PySem.W.Frag) (ta tv : TE) (rd : V → V → Hp → VK → Prop) (f : Str) : TS := fun D σ H => ta σ H fun x H1 => ∃ a C dx fs v, x = .ref a ∧ H1 a = some (.ins C dx fs) ∧ Cls K C ∧ NoAttr K C f ∧ fs.lookup f = some v ∧
  tv σ H1 fun y H2 => rd v y H2 fun z H3 => ∃ dx' fs', H3 a = some (.ins C dx' fs') ∧ fs'.length < 1000 ∧ D.nx σ (upd H3 a (.ins C dx' (putF f z fs')))

section
variable {X : Cx} {o e value : Expr} {f : Str} {pos pos' tpos : Pos} {ta tv : TE}
theorem pe_fld (he : PE X e ta) (hb : attributeBase e f X.env (eval e X.env) = eval e X.env) : PE X (.Attribute e f pos) (tFld X.K ta f) := by
  intro pins s σ H Q I h
  refine attr_of hb (thn (he pins s σ H _ I h) fun u s1 ⟨x, H1, I1, rx, a, C, dx, fs, v, ex, ea, c, n, l, q⟩ => ?_)
  subst ex
  obtain rfl : u = Value.ref a := rx
  exact getattr_ok I1 ea c n l fun u' s2 I2 ru => ⟨v, H1, I2, ru, q⟩
theorem ps_fld (ha : PE X o ta) (hv : PE X value tv) (hs : swapsWith value (some (.Attribute o f pos')) pos.line X.env = pure false) : PS X (.Assign [.Attribute o f pos'] value pos) (sFld X.K ta tv f) := by
  intro pins s σ H D I h
  refine plainObj_wpAny_Assign_Attribute (thn (hv pins s σ H _ I h) fun u s1 ⟨y, H1, I1, ry, q⟩ => thn (ha pins s1 σ H1 _ I1 q) fun ov s2 ⟨x, H2, I2, rx, a, C, dx, fs, ex, ea, c, n, l, q2⟩ => ?_) hs
  subst ex
  obtain rfl : ov = Value.ref a := rx
  exact setattr_ok I2 ea c n l ry fun s3 I3 => ⟨σ, _, I3, q2⟩
def rAdd : V → V → Hp → VK → Prop := fun x y H Q => ∃ i j, x = .int i ∧ y = .int j ∧ Q (.int (i + j)) H
def rSub : V → V → Hp → VK → Prop := fun x y H Q => ∃ i j, x = .int i ∧ y = .int j ∧ Q (.int (i - j)) H

end

/-! ### isinstance -/
section
variable {X : Cx} {pins : List (Addr × Obj)} {σ : St} {H : Hp} {s : Shared} {A : Around} {E : Value → Shared → Prop} {Q : Value → Shared → Prop} {c : Value} {b : Bool}
/-- the type of a value, as the fragment's deciders take it; for an instance its class -/
inductive TyOf (K : PySem.W.Frag) (H : Hp) : V → Value → Prop where
  | non : TyOf K H .non (.type "NoneType")
  | bl (x : Bool) : TyOf K H (.bl x) (.type "bool")
  | int (i : Int) : TyOf K H (.int i) (.type "int")
  | str (x : Str) : TyOf K H (.str x) (.type "str")
  | flt (x : UInt64) : TyOf K H (.flt x) (.type "float")
  | lst {a : Addr} {xs : List V} (e : H a = some (.lst xs)) : TyOf K H (.ref a) (.type "list")
  | frz {a : Addr} {o : Obj} {xs : List V} (e : H a = some (.frz o (.lst xs))) : TyOf K H (.ref a) (.type "list")
  | tup {a : Addr} {xs : List V} (e : H a = some (.tup xs)) : TyOf K H (.ref a) (.type "tuple")
  | dK {a : Addr} {kvs : List (Key × V)} (e : H a = some (.dK kvs)) : TyOf K H (.ref a) (.type "dict")
  | dT {a : Addr} {kvs : List (List Key × V)} (e : H a = some (.dT kvs)) : TyOf K H (.ref a) (.type "dict")
  | ins {a C dx : Addr} {fs : List (Str × V)} (e : H a = some (.ins C dx fs)) (cl : Cls K C) (ha : PySem.W.findIn K (.ref C) "__class__" = some (some (.builtin "object.__class__")))
      (hn : PySem.W.specialIn K (.builtin "object.__class__") "__get__" = some (some (.builtin "getset_descriptor.__get__"))) (htk : PySem.W.takesIn K (.builtin "object.__class__") = some true)
      (hm : PySem.W.mroIn K C (.type "object") = some true) : TyOf K H (.ref a) (.ref C)
/-- isinstance(x, c) for one class c, a built-in or an own one: kitOne's answer -/
theorem isinst_ok {x : V} {u t : Value} (I : Inv X pins σ H s) (rx : RelV x u) (ty : TyOf X.K H x t) (e : PySem.W.kitOne X.K t c = some b) (h : ∀ tk, Q (.bool b) { s with toks := tk }) :
    wpAny (model X.prog X.w) A (call (.builtin "isinstance") [u, c]) Q E s := by
  cases ty with
  | non => cases (show u = Value.none from rx); exact PySem.W.kia_one PySem.W.kitx_none I.kIn True.intro e (fun z => nomatch z) h
  | bl y => cases (show u = Value.bool y from rx); exact PySem.W.kia_one PySem.W.kitx_bool I.kIn True.intro e (fun z => nomatch z) h
  | int i => obtain ⟨t, q⟩ := (show ∃ t, u = Value.int i t from rx); cases q; exact PySem.W.kia_one PySem.W.kitx_int I.kIn True.intro e (fun z => nomatch z) h
  | str y => obtain ⟨t, q⟩ := (show ∃ t, u = Value.str y t from rx); cases q; exact PySem.W.kia_one PySem.W.kitx_str I.kIn True.intro e (fun z => nomatch z) h
  | flt y => obtain ⟨t, q⟩ := (show ∃ t, u = Value.float y t from rx); cases q; exact PySem.W.kia_one PySem.W.kitx_float I.kIn True.intro e (fun z => nomatch z) h
  | @lst a xs ea =>
    cases (show u = Value.ref a from rx)
    obtain ⟨_, _, n, _, h1⟩ := (show ObjOk X.prog X.w H s.heap a (.lst xs) from I.hok a _ ea)
    exact PySem.W.kia_one PySem.W.kitx_list I.kIn ⟨_, h1, rfl⟩ e (fun z => nomatch z) h
  | @frz a ob xs ea =>
    cases (show u = Value.ref a from rx)
    obtain ⟨_, _, _, n, _, h1⟩ := (show ObjOk X.prog X.w H s.heap a (.frz ob (.lst xs)) from I.hok a _ ea)
    exact PySem.W.kia_one PySem.W.kitx_list I.kIn ⟨_, h1, rfl⟩ e (fun z => nomatch z) h
  | @tup a xs ea =>
    cases (show u = Value.ref a from rx)
    obtain ⟨_, _, _, p⟩ := (show ObjOk X.prog X.w H s.heap a (.tup xs) from I.hok a _ ea)
    obtain ⟨o, h1, h2, _⟩ := p
    exact PySem.W.kia_one PySem.W.kitx_tuple I.kIn ⟨o, h1, h2⟩ e (fun z => nomatch z) h
  | @dK a kvs ea =>
    cases (show u = Value.ref a from rx)
    obtain ⟨_, _, vs, _, p⟩ := (show ObjOk X.prog X.w H s.heap a (.dK kvs) from I.hok a _ ea)
    obtain ⟨o, es, ep, h1, h2, _⟩ := p
    exact PySem.W.kia_one PySem.W.kitx_dict I.kIn ⟨o, h1, h2.1⟩ e (fun z => nomatch z) h
  | @dT a kvs ea =>
    cases (show u = Value.ref a from rx)
    obtain ⟨_, _, xs, _, o, es, ep, h1, h2, _⟩ := (show ObjOk X.prog X.w H s.heap a (.dT kvs) from I.hok a _ ea)
    exact PySem.W.kia_one PySem.W.kitx_dict I.kIn ⟨o, h1, h2.1⟩ e (fun z => nomatch z) h
  | @ins a C dx fs ea cl ha hn htk hm =>
    cases (show u = Value.ref a from rx)
    obtain ⟨mA, O, _⟩ := ins_get I.hok ea
    obtain ⟨od, J, _⟩ := O.look
    exact PySem.W.kia_one (PySem.W.kitx_own (cl.get _) cl.hd ha hn htk hm) I.kIn J e (fun z => nomatch z) h
end
end L2

namespace L2
open PySem PySem.Spec PyProof.Rows

/-! ### room -/
structure Room (k : Nat) (A : Around) : Prop where
  hd : A.handled = none
  dp : A.depth + 3 * k + 5 < recursionLimit
  un : A.units + 16 * k + 200 < cLine
  gd : A.guards = some []
theorem Room.mono {j k : Nat} {A : Around} (r : Room k A) (h : j ≤ k) : Room j A := ⟨r.hd, by have := r.dp; omega, by have := r.un; omega, r.gd⟩
theorem Room.deeper {k : Nat} {A : Around} (r : Room (k + 1) A) (env : Env) : Room k (A.deeper env) :=
  ⟨r.hd, by have := r.dp; show A.depth + 1 + 3 * k + 5 < _; omega, by have := r.un; show A.units + 3 + 16 * k + 200 < _; omega, r.gd⟩
theorem Room.in1 {k : Nat} {A : Around} (r : Room (k + 1) A) : Room k A.in1 :=
  ⟨r.hd, by have := r.dp; show A.depth + 3 * k + 5 < _; omega, by have := r.un; show A.units + 1 + 16 * k + 200 < _; omega, r.gd⟩
theorem make_depth {A : Around} {C : Addr} {us : List Value} {kw : List (Str × Value)} : (A.under (.builtin "type.__call__" ⟨.ref C :: us, kw⟩)).depth = A.depth + 1 := by
  first | rfl | simp [Around.under, Code.weight, Code.isCreation, Code.isGuard, Code.isCaller, Code.frames, Code.isFrame, guardIds]
theorem make_units {A : Around} {C : Addr} {us : List Value} {kw : List (Str × Value)} : (A.under (.builtin "type.__call__" ⟨.ref C :: us, kw⟩)).units = A.units + 1 := by
  first | rfl | simp [Around.under, Code.cUnits, Code.frames, Code.isFrame]
theorem Room.make {k : Nat} {A : Around} (r : Room (k + 1) A) (C : Addr) (us : List Value) (kw : List (Str × Value)) : Room k (A.under (.builtin "type.__call__" ⟨.ref C :: us, kw⟩)) :=
  ⟨r.hd, by have := r.dp; rw [make_depth]; omega, by have := r.un; rw [make_units]; omega, by have := r.gd; first | exact this | (simp [Around.under, Code.guards, Code.isGuard, guardIds, pushGuards, this])⟩
theorem Room.depth {k : Nat} {A : Around} (r : Room k A) : A.depth < recursionLimit := by have := r.dp; omega
theorem Room.units {k : Nat} {A : Around} (r : Room k A) : A.units + 64 < cLine := by have := r.un; omega

/-! ### argument lists and displays -/
def tNil : TA := fun _ H Q => Q [] H
def tCons (ta : TE) (tr : TA) : TA := fun σ H Q => ta σ H fun x H1 => tr σ H1 fun xs H2 => Q (x :: xs) H2
section
variable {X : Cx} {e : Expr} {es : List Expr} {te : TE} {t : TA} {pos : Pos}
theorem pa_nil : PA X [] tNil := fun _ _ _ _ H Q I h => Calls.spliced_nil ⟨[], H, I, .nil, h⟩
theorem pa_cons (ha : PE X e te) (hr : PA X es t) (hs : starEach (e :: es) X.env = (false, eval e X.env) :: starEach es X.env := by rfl) : PA X (e :: es) (tCons te t) := by
  intro pos pins s σ H Q I h
  rw [hs]
  show wpAny _ _ (spliced ((false, eval e X.env) :: backTo pos (starEach es X.env))) _ _ s
  refine Calls.spliced_cons (thn (ha pins s σ H _ I h) fun u s1 ⟨x, H1, I1, r1, q1⟩ => ?_)
  exact thn (hr pos pins s1 σ H1 _ I1 q1) fun us s2 ⟨xs, H2, I2, r2, q2⟩ => ⟨x :: xs, H2, I2, .cons r1 r2, q2⟩

/-- a tuple, a list of written items -/
def tTup (t : TA) : TE := fun σ H Q => t σ H fun xs H1 => xs.length ≤ sizeLine ∧ ∀ p, H1 p = none → Q (.ref p) (upd H1 p (.tup xs))
def tLst (t : TA) : TE := fun σ H Q => t σ H fun xs H1 => xs.length ≤ sizeLine ∧ ∀ p, H1 p = none → Q (.ref p) (upd H1 p (.lst xs))
theorem pe_tup {x1} (h : PA X es t) : PE X (.Tuple es x1 pos) (tTup t) := by
  intro pins s σ H Q I hq
  refine wpAny_Tuple_spliced (thn (h pos pins s σ H _ I hq) fun us s1 ⟨xs, H1, I1, r, z, q⟩ => ⟨by rw [← r.length]; exact z, ?_⟩)
  have hf : H1 s1.heap.objs.size = none := I1.hok.fresh (Nat.le_refl _)
  refine ⟨.ref s1.heap.objs.size, upd H1 s1.heap.objs.size (.tup xs), I1.laid (t' := s1.toks) (fun b u e => Heap.get?_push_of_some _ e) (Nat.le_refl _) ?_, rfl, q _ hf⟩
  exact ⟨z, us, r, ⟨_, Heap.get?_push_size _ rfl, rfl, _, rfl⟩⟩
theorem pe_lst (h : PA X es t) : PE X (.List es pos) (tLst t) := by
  intro pins s σ H Q I hq
  refine wpAny_List_spliced (thn (h pos pins s σ H _ I hq) fun us s1 ⟨xs, H1, I1, r, z, q⟩ => ⟨by rw [← r.length]; exact z, ?_⟩)
  have hf : H1 s1.heap.objs.size = none := I1.hok.fresh (Nat.le_refl _)
  refine ⟨.ref s1.heap.objs.size, upd H1 s1.heap.objs.size (.lst xs), I1.laid (t' := s1.toks) (fun b u e => Heap.get?_push_of_some _ e) (Nat.le_refl _) ?_, rfl, q _ hf⟩
  exact ⟨z, us, 0, r, Heap.get?_push_size _ rfl⟩
end

/-! ### what a def promises -/
/-- a def's promise: the bound arguments in the parameters' order, the heap, the wanted end, the wanted exception -/
abbrev Sp := List V → Hp → VK → XK → Prop
/-- how an exception lies behind a call (file 08 gives it): the callers' frames, abstract heap and state ahead of the call, the wish, the exception, the state -/
abbrev CXT := List Env → Hp → Shared → XK → Value → Shared → Prop

/-- the state at a call -/
structure Env0 (P : Program) (w : World) (K : PySem.W.Frag) (mg : Str → Option Value) (base : Heap) (A : Around) (outer : List Env) (s : Shared) (H : Hp) : Prop where
  frames : A.frames = some outer
  mod : Mod K mg base
  bs : ∀ b o, base.get? b = some o → s.heap.get? b = some o ∧ H b = none
  bsz : base.objs.size ≤ s.heap.objs.size
  funs : s.heap.FunFrames base outer
  frf : ∀ b ∈ frs outer, H b = none
  hok : HOk P w H s.heap
  bare : AllBare s.gens
/-- a call's end -/
def CE (outer : List Env) (P : Program) (w : World) (H : Hp) (s : Shared) (Q : VK) (u : Value) (s' : Shared) : Prop :=
  ∃ v H', s'.os = s.os ∧ AllBare s'.gens ∧ Un (frs outer) [] H H' s.heap s'.heap ∧ HOk P w H' s'.heap ∧ RelV v u ∧ Q v H'
def CR (CX : CXT) (outer : List Env) (P : Program) (w : World) (H : Hp) (s : Shared) (Q : VK) (E : XK) (r : Result) (s' : Shared) : Prop :=
  match r with
  | .ok (.ret u) => CE outer P w H s Q u s'
  | .ok _ => False
  | .error e => CX outer H s E e s'
structure FnOk (P : Program) (w : World) (K : PySem.W.Frag) (mg : Str → Option Value) (base : Heap) (CX : CXT) (k : Nat) (f : Addr) (fd : FuncData) (ps : List Str) (sp : Sp) : Prop where
  len : ∀ vs H Q E, sp vs H Q E → vs.length = ps.length
  run : ∀ (A : Around) (outer : List Env) (s : Shared) (H : Hp) (args : Args) (us : List Value) (vs : List V) (Q : VK) (E : XK), Room k A → Env0 P w K mg base A outer s H → BindsTo s fd args (ps.zip us) → Vals vs us → sp vs H Q E →
    codeAny (model P w) A (.call (.ref f) args) (CR CX outer P w H s Q E) s
theorem FnOk.mono {P : Program} {w : World} {K : PySem.W.Frag} {mg : Str → Option Value} {base : Heap} {CX : CXT} {j k : Nat} {f : Addr} {fd : FuncData} {ps : List Str} {sp : Sp} (F : FnOk P w K mg base CX j f fd ps sp) (h : j ≤ k) :
    FnOk P w K mg base CX k f fd ps sp := ⟨F.len, fun A outer s H args us vs Q E hr => F.run A outer s H args us vs Q E (hr.mono h)⟩
/-- a weaker promise -/
theorem FnOk.imp {P : Program} {w : World} {K : PySem.W.Frag} {mg : Str → Option Value} {base : Heap} {CX : CXT} {k : Nat} {f : Addr} {fd : FuncData} {ps : List Str} {sp sp' : Sp} (F : FnOk P w K mg base CX k f fd ps sp)
    (h : ∀ vs H Q E, sp' vs H Q E → sp vs H Q E) : FnOk P w K mg base CX k f fd ps sp' :=
  ⟨fun vs H Q E q => F.len vs H Q E (h _ _ _ _ q), fun A outer s H args us vs Q E hr he hb hv hs => F.run A outer s H args us vs Q E hr he hb hv (h _ _ _ _ hs)⟩

theorem Env0.make {P : Program} {w : World} {K : PySem.W.Frag} {mg : Str → Option Value} {base : Heap} {A : Around} {outer : List Env} {s : Shared} {H : Hp} (e : Env0 P w K mg base A outer s H) (C : Addr) (us : List Value) (kw : List (Str × Value)) :
    Env0 P w K mg base (A.under (.builtin "type.__call__" ⟨.ref C :: us, kw⟩)) outer s H := ⟨by first | exact e.frames | (simpa [Around.under, Code.envs, Code.isFrame, pushEnvs] using e.frames), e.mod, e.bs, e.bsz, e.funs, e.frf, e.hok, e.bare⟩
theorem Env0.in1 {P : Program} {w : World} {K : PySem.W.Frag} {mg : Str → Option Value} {base : Heap} {A : Around} {outer : List Env} {s : Shared} {H : Hp} (e : Env0 P w K mg base A outer s H) :
    Env0 P w K mg base A.in1 outer s H := ⟨e.frames, e.mod, e.bs, e.bsz, e.funs, e.frf, e.hok, e.bare⟩

section
variable {X : Cx} {pins : List (Addr × Obj)} {σ : St} {H : Hp} {s s' : Shared}
/-- from a body: what a callee wants -/
theorem Inv.env0 (I : Inv X pins σ H s) : Env0 X.prog X.w X.K X.mg X.base X.A X.stack s H :=
  ⟨I.ok.frames, I.ok.mod, I.bs, Nat.le_trans I.ok.bsz I.sz, I.stack, I.stkFree, I.hok, I.bare⟩
/-- behind a call -/
theorem Inv.after {Q : VK} {u : Value} (I : Inv X pins σ H s) (h : CE X.stack X.prog X.w H s Q u s') : EP X pins σ Q u s' := by
  obtain ⟨v, H', os, bare, un, hok, r, q⟩ := h
  obtain ⟨hh, g, d, t, os'⟩ := s'
  obtain rfl : os' = s.os := os
  exact ⟨v, H', I.call (h' := hh) (g' := g) (d' := d) (t' := t) (ch := []) un hok bare (fun b z => absurd z (by simp)), r, q⟩
end

/-! ### calls -/
/-- f(..): the written arguments, then the defaults dvs; E: what is wanted of an exception -/
def tCall (sp : Sp) (dvs : List V) (E : XK) (t : TA) : TE := fun σ H Q => t σ H fun vs H1 => sp (vs ++ dvs) H1 Q E
/-- o.m(..) of an instance of the class at C -/
def tMeth (C : Addr) (m : Str) (sp : Sp) (dvs : List V) (E : XK) (ta : TE) (t : TA) : TE := fun σ H Q => ta σ H fun x H1 => ∃ a dx fs, x = .ref a ∧ H1 a = some (.ins C dx fs) ∧ fs.lookup m = none ∧
  t σ H1 fun vs H2 => sp (x :: (vs ++ dvs)) H2 Q E
/-- C(..): a new instance and its dict, then __init__ -/
def tMake (C : Addr) (sp : Sp) (dvs : List V) (E : XK) (t : TA) : TE := fun σ H Q => t σ H fun vs H1 => ∀ x dx, H1 x = none → H1 dx = none → dx ≠ x →
  sp (.ref x :: (vs ++ dvs)) (upd (upd H1 dx (.own x)) x (.ins C dx [])) (fun v H2 => v = .non ∧ Q (.ref x) H2) E

/-- how the parameters are bound: us the positional arguments, kw the keywords' values by name, ds the defaults that fill up -/
def Binds (K : PySem.W.Frag) (fd : FuncData) (ps : List Str) (ds : List Value) : Prop :=
  ∀ (s : Shared) (us : List Value), K.In s.heap → (us ++ ds).length = ps.length → BindsTo s fd ⟨us, []⟩ (ps.zip (us ++ ds))
/-- every parameter is given -/
theorem Binds.all {K : PySem.W.Frag} {fd : FuncData} {ps : List Str} (h : ∀ us : List Value, us.length = ps.length → bindArgs fd ⟨us, []⟩ = pure (ps.zip us)) : Binds K fd ps [] := fun s us _ hl => by
  rw [List.append_nil] at hl ⊢
  exact .of_eq (h us hl)

/-- an exception of a callee reaches what this body wants of exceptions -/
def Passes (CX : CXT) (X : Cx) (E : XK) : Prop := ∀ (pins : List (Addr × Obj)) (σ : St) (H : Hp) (s : Shared) (e : Value) (s' : Shared), Inv X pins σ H s → CX X.stack H s E e s' → X.xe e s'

section
variable {X : Cx} {CX : CXT} {k : Nat} {f C : Addr} {fd : FuncData} {ps : List Str} {sp : Sp} {dvs : List V} {ds : List Value} {E : XK} {x m : Str} {p pos apos : Pos} {e o : Expr} {es : List Expr} {ta : TE} {t : TA}

/-- the callee runs -/
theorem run_fn {pins : List (Addr × Obj)} {σ : St} {H : Hp} {s : Shared} {Q : VK} {us : List Value} {vs : List V} (F : FnOk X.prog X.w X.K X.mg X.base CX k f fd ps sp) (hr : Room k X.A) (hb : Binds X.K fd ps ds) (hd : Vals dvs ds) (hx : Passes CX X E)
    (I : Inv X pins σ H s) (r : Vals vs us) (h : sp (vs ++ dvs) H Q E) : wpAny (model X.prog X.w) X.A (call (.ref f) us) (EP X pins σ Q) X.xe s := by
  have r2 : Vals (vs ++ dvs) (us ++ ds) := r.append hd
  have hl : (us ++ ds).length = ps.length := by rw [← r2.length]; exact F.len _ _ _ _ h
  refine wpAny_call (codeAny_mono (F.run X.A X.stack s H ⟨us, []⟩ (us ++ ds) (vs ++ dvs) Q E hr I.env0 (hb s us I.kIn hl) r2 h) fun r s' hq => ?_)
  cases r with
  | error e => exact hx pins σ H s e s' I hq
  | ok fl =>
    cases fl with
    | ret u => exact I.after hq
    | next => exact False.elim hq
    | brk => exact False.elim hq
    | cont => exact False.elim hq

theorem pe_call (F : FnOk X.prog X.w X.K X.mg X.base CX k f fd ps sp) (hr : Room k X.A) (hg : Gl X x) (hm : X.mg x = some (.ref f)) (hk : PySem.W.keepIn X.K (.ref f) = true) (hb : Binds X.K fd ps ds) (hd : Vals dvs ds) (hx : Passes CX X E)
    (ha : PA X (e :: es) t) (hdb : (x == ("__debug__" : Str)) = false := by decide) (he : starEach (e :: es) X.env = (false, eval e X.env) :: starEach es X.env := by rfl) (hpl : (backTo pos (starEach es X.env)).any (·.1) = false := by rfl) :
    PE X (.Call (.Name x p) (e :: es) [] pos) (tCall sp dvs E t) := by
  intro pins s σ H Q I h
  refine wpAny_Call_Name_kw (ld_glob I hg hm ?_ hdb)
  refine PySem.W.callWith_K (h₀ := X.base) I.ok.mod.kin hk (thn (ha pos pins s σ H _ I h) fun us s1 ⟨vs, H1, I1, r, q⟩ => ⟨I1.kIn, ?_⟩) he hpl
  exact run_fn F hr hb hd hx I1 r q


/-- what a class must have to be made -/
structure Mk (K : PySem.W.Frag) (C f : Addr) : Prop where
  makes : PySem.W.makesIn K C = true
  init : PySem.W.findIn K (.ref C) "__init__" = some (some (.ref f))
  fn : PySem.W.isFn K (.ref f) = true
  kp : PySem.W.keepIn K (.ref C) = true

theorem run_make {pins : List (Addr × Obj)} {σ : St} {H : Hp} {s : Shared} {Q : VK} {us : List Value} {vs : List V} (M : Mk X.K C f) (F : FnOk X.prog X.w X.K X.mg X.base CX k f fd ps sp) (hr : Room (k + 1) X.A) (hb : Binds X.K fd ps ds) (hd : Vals dvs ds)
    (hx : Passes CX X E) (I : Inv X pins σ H s) (r : Vals vs us)
    (h : ∀ x dx, H x = none → H dx = none → dx ≠ x → sp (.ref x :: (vs ++ dvs)) (upd (upd H dx (.own x)) x (.ins C dx [])) (fun v H2 => v = .non ∧ Q (.ref x) H2) E) :
    wpAny (model X.prog X.w) X.A (call (.ref C) us) (EP X pins σ Q) X.xe s := by
  have hq := h (s.heap.objs.size + 1) s.heap.objs.size (I.hok.fresh (Nat.le_succ _)) (I.hok.fresh (Nat.le_refl _)) (Nat.ne_of_lt (Nat.lt_succ_self _))
  have I2 := Inv.made (C := C) I
  have r2 : Vals (V.ref (s.heap.objs.size + 1) :: (vs ++ dvs)) (Value.ref (s.heap.objs.size + 1) :: (us ++ ds)) := .cons rfl (r.append hd)
  have hl : (Value.ref (s.heap.objs.size + 1) :: us ++ ds).length = ps.length := by
    have e := r2.length
    rw [F.len _ _ _ _ hq] at e
    exact e.symm
  refine wpAny_call (make_map (f := f) I.kIn M.makes M.init (beq_iff_eq.mp M.fn) (codeAny_mono (F.run _ X.stack _ _ ⟨Value.ref (s.heap.objs.size + 1) :: us, []⟩ (Value.ref (s.heap.objs.size + 1) :: (us ++ ds)) _ _ E (hr.make C us [])
    (I2.env0.make C us []) (hb _ (Value.ref (s.heap.objs.size + 1) :: us) I2.kIn hl) r2 hq) fun r s' hq' => ?_))
  cases r with
  | error e => exact hx pins σ _ _ e s' I2 hq'
  | ok fl =>
    cases fl with
    | ret u =>
      obtain ⟨v, H', I3, rv, ev, q3⟩ := I2.after hq'
      subst ev
      exact ⟨rv, ⟨V.ref (s.heap.objs.size + 1), H', I3, rfl, q3⟩⟩
    | next => exact False.elim hq'
    | brk => exact False.elim hq'
    | cont => exact False.elim hq'
end

/-! ### keywords -/
/-- the values of the keywords, from the left -/
def PK (X : Cx) (kws : List Keyword) (t : TA) : Prop :=
  ∀ (pos : Pos) (pins : List (Addr × Obj)) (s : Shared) (σ : St) (H : Hp) (Q : List V → Hp → Prop), Inv X pins σ H s → t σ H Q → wpAny (model X.prog X.w) X.A (evalAll ((backToKw pos (keywordEach kws X.env)).map (·.2))) (AP X pins σ Q) X.xe s
section
variable {X : Cx} {CX : CXT} {k : Nat} {f C : Addr} {fd : FuncData} {ps ks : List Str} {sp : Sp} {E : XK} {x m : Str} {p pos apos kpos : Pos} {e o : Expr} {es : List Expr} {kws : List Keyword} {te ta : TE} {t tk : TA} {nm : Option Str}
theorem pk_nil : PK X [] tNil := fun _ _ _ _ H Q I h => wpAny_evalAll_nil ⟨[], H, I, .nil, h⟩
theorem pk_cons (ha : PE X e te) (hr : PK X kws t) : PK X (⟨nm, e, kpos⟩ :: kws) (tCons te t) := by
  intro pos pins s σ H Q I h
  show wpAny _ _ (evalAll ((do let v ← eval e X.env; standAt pos; pure v) :: (backToKw pos (keywordEach kws X.env)).map (·.2))) _ _ s
  refine wpAny_evalAll_cons (wpAny_bind (thn (ha pins s σ H _ I h) fun u s1 ⟨x, H1, I1, r1, q1⟩ => wpAny_bind (wpAny_standAt (wpAny_pure ?_))))
  exact thn (hr pos pins s1 σ H1 _ I1 q1) fun us s2 ⟨xs, H2, I2, r2, q2⟩ => ⟨x :: xs, H2, I2, .cons r1 r2, q2⟩

/-- how a call with keywords binds: g puts the positional values us and the keywords' values ws (names ks) in the parameters' order, defaults among them -/
structure KBinds (K : PySem.W.Frag) (fd : FuncData) (ps ks : List Str) (g : List Value → List Value → List Value) (gV : List V → List V → List V) : Prop where
  to : ∀ (s : Shared) (us ws : List Value), K.In s.heap → (g us ws).length = ps.length → BindsTo s fd ⟨us, ks.zip ws⟩ (ps.zip (g us ws))
  rel : ∀ {vs : List V} {us : List Value} {zs : List V} {ws : List Value}, Vals vs us → Vals zs ws → Vals (gV vs zs) (g us ws)
def tCallK (sp : Sp) (gV : List V → List V → List V) (E : XK) (t tk : TA) : TE := fun σ H Q => t σ H fun vs H1 => tk σ H1 fun zs H2 => sp (gV vs zs) H2 Q E
variable {g : List Value → List Value → List Value} {gV : List V → List V → List V}
theorem run_fnk {pins : List (Addr × Obj)} {σ : St} {H : Hp} {s : Shared} {Q : VK} {us ws : List Value} {vs zs : List V} (F : FnOk X.prog X.w X.K X.mg X.base CX k f fd ps sp) (hr : Room k X.A) (hb : KBinds X.K fd ps ks g gV) (hx : Passes CX X E)
    (I : Inv X pins σ H s) (r : Vals vs us) (rz : Vals zs ws) (h : sp (gV vs zs) H Q E) : wpAny (model X.prog X.w) X.A (call (.ref f) us (ks.zip ws)) (EP X pins σ Q) X.xe s := by
  have r2 := hb.rel r rz
  have hl : (g us ws).length = ps.length := by rw [← r2.length]; exact F.len _ _ _ _ h
  refine wpAny_call (codeAny_mono (F.run X.A X.stack s H ⟨us, ks.zip ws⟩ (g us ws) (gV vs zs) Q E hr I.env0 (hb.to s us ws I.kIn hl) r2 h) fun r s' hq => ?_)
  cases r with
  | error e => exact hx pins σ H s e s' I hq
  | ok fl =>
    cases fl with
    | ret u => exact I.after hq
    | next => exact False.elim hq
    | brk => exact False.elim hq
    | cont => exact False.elim hq
end

/-! ### a def's body keeps its promise -/
/-- names: the parameters first -/
structure FnScope (N P : List Str) (sc : Scope) : Prop where
  kind : sc.kind = .function
  co : sc.isCoroutine = false
  gen : sc.isGenerator = false
  nd : N.Nodup
  pre : N.take P.length = P
  par : ∀ x ∈ P, sc.names.lookup x = some .local ∨ sc.names.lookup x = some .cell
  nofree : ∀ y ∈ sc.names, y.2 ≠ .free

theorem bindL_out {kindOf : Str → Option NameKind} {x : Str} : ∀ {binds : List (Str × Value)} {m : Str → Option Value}, (∀ v, (x, v) ∉ binds) → bindL kindOf binds m x = m x
  | [], _, _ => rfl
  | (n, v) :: r, m, h => by
    unfold bindL
    rw [bindL_out fun w hw => h w (List.mem_cons_of_mem _ hw)]
    split
    · have : x ≠ n := by rintro rfl; exact h v List.mem_cons_self
      simp [this]
    · rfl
theorem bindC_out {kindOf : Str → Option NameKind} {x : Str} : ∀ {binds : List (Str × Value)} {m : Str → Option Value}, (∀ v, (x, v) ∉ binds) → bindC kindOf binds m x = m x
  | [], _, _ => rfl
  | (n, v) :: r, m, h => by
    unfold bindC
    rw [bindC_out fun w hw => h w (List.mem_cons_of_mem _ hw)]
    split
    · rfl
    · have : x ≠ n := by rintro rfl; exact h v List.mem_cons_self
      simp [this]
theorem bindL_get {kindOf : Str → Option NameKind} {x : Str} {v : Value} : ∀ {P : List Str} {vs : List Value} {i : Nat} {m : Str → Option Value}, P.Nodup → P[i]? = some x → vs[i]? = some v → kindOf x = some .local →
    bindL kindOf (P.zip vs) m x = some v
  | [], _, _, _, _, h, _, _ => by simp at h
  | _ :: _, [], _, _, _, _, h, _ => by simp at h
  | p :: P, w :: vs, 0, m, nd, h1, h2, hk => by
    simp at h1 h2; subst h1; subst h2
    show bindL kindOf ((p, w) :: P.zip vs) m p = _
    unfold bindL
    rw [bindL_out fun v hv => (List.nodup_cons.mp nd).1 (List.of_mem_zip hv).1, if_pos hk]
    simp
  | p :: P, w :: vs, i + 1, m, nd, h1, h2, hk => by
    show bindL kindOf ((p, w) :: P.zip vs) m x = _
    unfold bindL
    exact bindL_get (i := i) (List.nodup_cons.mp nd).2 (by simpa using h1) (by simpa using h2) hk
theorem bindC_get {kindOf : Str → Option NameKind} {x : Str} {v : Value} : ∀ {P : List Str} {vs : List Value} {i : Nat} {m : Str → Option Value}, P.Nodup → P[i]? = some x → vs[i]? = some v → kindOf x ≠ some .local →
    bindC kindOf (P.zip vs) m x = some v
  | [], _, _, _, _, h, _, _ => by simp at h
  | _ :: _, [], _, _, _, _, h, _ => by simp at h
  | p :: P, w :: vs, 0, m, nd, h1, h2, hk => by
    simp at h1 h2; subst h1; subst h2
    show bindC kindOf ((p, w) :: P.zip vs) m p = _
    unfold bindC
    rw [bindC_out fun v hv => (List.nodup_cons.mp nd).1 (List.of_mem_zip hv).1, if_neg hk]
    simp
  | p :: P, w :: vs, i + 1, m, nd, h1, h2, hk => by
    show bindC kindOf ((p, w) :: P.zip vs) m x = _
    unfold bindC
    exact bindC_get (i := i) (List.nodup_cons.mp nd).2 (by simpa using h1) (by simpa using h2) hk

/-- the names' values at the entry -/
def start (N : List Str) (vs : List V) : St := vs.map some ++ List.replicate (N.length - vs.length) none

/-- the context of a def's body, at its entry; an exception leaves the frame, then lies as CX says -/
def cxOf (CX : CXT) (P : Program) (w : World) (K : PySem.W.Frag) (mg : Str → Option Value) (base : Heap) (N : List Str) (qual : Str) (scope : Scope) (f : Addr) (cd : Value) (A : Around) (outer : List Env) (s : Shared) (H : Hp) (E : XK) : Cx where
  prog := P
  w := w
  K := K
  mg := mg
  base := base
  A := A.deeper (envOfC qual scope s.heap.objs.size f cd)
  N := N
  s_0 := s
  H_0 := H
  env := envOfC qual scope s.heap.objs.size f cd
  outer := outer
  stack := envOfC qual scope s.heap.objs.size f cd :: outer
  ex := []
  calm := true
  fn := fun _ => true
  pn := []
  xe := fun e s' => wpAny (model P w) (A.deeper (envOfC qual scope s.heap.objs.size f cd)) (leaving (envOfC qual scope s.heap.objs.size f cd) e) (fun _ s'' => CX outer H s E e s'') (fun e' s'' => CX outer H s E e' s'') s'

theorem cell_has {sc : Scope} {n : Nat} {x : Str} (h : sc.names.lookup x = some .cell) : ∃ c, (cellsFrom n sc.names []).lookup x = some c := by
  have q := PySem.W.cellsFrom_some sc.names n [] (.inl h)
  exact Option.isSome_iff_exists.mp q

theorem inv_start {CX : CXT} {P : Program} {w : World} {K : PySem.W.Frag} {mg : Str → Option Value} {base : Heap} {N ps : List Str} {qual : Str} {scope : Scope} {f : Addr} {cd : Value} {A : Around} {outer : List Env} {s s1 : Shared} {H : Hp} {E : XK} {us : List Value} {vs : List V}
    (S : FnScope N ps scope) (hd : A.handled = none) (e0 : Env0 P w K mg base A outer s H) (hl : vs.length = ps.length) (r : Vals vs us)
    (x : InCallC s s.heap.objs.size (bindL (envOfC qual scope s.heap.objs.size f cd).kindOf (ps.zip us) fun _ => none) (cellsFrom (s.heap.objs.size + 1) scope.names []) (bindC (envOfC qual scope s.heap.objs.size f cd).kindOf (ps.zip us) fun _ => none) s1) :
    Inv (cxOf CX P w K mg base N qual scope f cd A outer s H E) [] (start N vs) H s1 := by
  have hpl : ps.length ≤ N.length := by have := congrArg List.length S.pre; rw [List.length_take] at this; omega
  obtain ⟨h1, tk, rfl, hk⟩ := x.done
  have noA : ∀ b : Addr, b ∉ (cxOf CX P w K mg base N qual scope f cd A outer s H E).ex := fun b z => absurd (show b ∈ ([] : List Addr) from z) (by simp)
  refine ⟨⟨e0.mod, S.kind, rfl, rfl, Nat.le_refl _, fun y z c h1 h2 => ?_, fun y hy => ?_, fun y c _ h => ?_, fun _ => hd, Around.frames_deeper e0.frames, .inr ⟨rfl, rfl⟩, fun b z => absurd z (noA b), e0.bs, e0.bsz, fun b _ _ => noA b, fun b z => absurd z (noA b), e0.funs, e0.frf⟩,
    rfl, e0.bare, Un.kept hk, ⟨_, x.toInCall.ns, fun i y v h1 h2 h3 => ?_⟩, fun y c h => ⟨_, x.cell y c h⟩, e0.hok.fresh (Nat.le_refl _), fun y c h => ?_, fun p hp => absurd (show p ∈ ([] : List (Addr × Obj)) from hp) (by simp), e0.hok.kept hk, ?_⟩
  · exact name_of_addr x.apart (PySem.mem_of_lookup h1) (PySem.mem_of_lookup h2)
  · have hy : scope.names.lookup y = some .cell ∨ scope.names.lookup y = some .free := hy
    rcases hy with hy | hy
    · exact cell_has hy
    · exact absurd rfl (S.nofree _ (PySem.mem_of_lookup hy))
  · exact Nat.le_of_lt (x.above y c (PySem.mem_of_lookup h))
  · have hi : i < vs.length := by
      unfold start at h2
      by_cases hi : i < vs.length
      · exact hi
      · rw [List.getElem?_append_right (by simpa using hi)] at h2
        rw [List.getElem?_replicate] at h2
        split at h2 <;> cases h2
    have ha : vs[i]? = some v := by
      unfold start at h2
      rw [List.getElem?_append_left (by simpa using hi), List.getElem?_map] at h2
      cases e : vs[i]? with
      | none => rw [e] at h2; cases h2
      | some a => rw [e] at h2; cases h2; rfl
    obtain ⟨u, hu, rv⟩ := r.get ha
    have hp : ps[i]? = some y := by
      rw [← S.pre, List.getElem?_take_of_lt (by omega)]; exact h1
    have ndP : ps.Nodup := by rw [← S.pre]; exact S.nd.sublist (List.take_sublist _ _)
    refine ⟨u, rv, ?_⟩
    rcases S.par y (List.mem_of_getElem? hp) with k | k
    · exact .inl ⟨k, bindL_get ndP hp hu k⟩
    · obtain ⟨c, e⟩ := cell_has (n := s.heap.objs.size + 1) k
      refine .inr ⟨.inl k, c, e, ?_⟩
      have q := x.cell y c e
      rw [bindC_get ndP hp hu (by show scope.names.lookup y ≠ _; rw [k]; decide)] at q
      exact q
  · exact e0.hok.fresh (Nat.le_of_lt (x.above y c (PySem.mem_of_lookup h)))
  · unfold start
    show _ = N.length
    rw [List.length_append, List.length_map, List.length_replicate]
    omega

/-- THE RULE: a def (or a method) of the text, by its body. The body's reading t is chosen for each entry; it is run at the parameters' values -/
theorem fn_of {CX : CXT} {P : Program} {w : World} {K : PySem.W.Frag} {mg : Str → Option Value} {base : Heap} {k : Nat} {f : Addr} {name qual : Str} {params : Arguments} {body : List Stmt} {scope : Scope} {dV kV doc pm cdv ct oc : Value} {an od : Option Addr}
    {osl : Array (Option Value)} {N ps : List Str} {sp : Sp} (lk : K.lookup f = some ⟨oc, od, .func (PySem.W.fnOf name qual params body scope dV kV doc pm an cdv ct), osl⟩) (hcd : PySem.W.codeIn K cdv qual = true) (S : FnScope N ps scope)
    (len : ∀ vs H Q E, sp vs H Q E → vs.length = ps.length)
    (hbody : ∀ (A : Around) (outer : List Env) (s : Shared) (H : Hp) (vs : List V) (Q : VK) (E : XK), Room k (A.deeper (envOfC qual scope s.heap.objs.size f cdv)) → sp vs H Q E →
      ∃ t, PSs (cxOf CX P w K mg base N qual scope f cdv A outer s H E) body t ∧ t { nx := fun _ H' => Q .non H', rt := Q } (start N vs) H) :
    FnOk P w K mg base CX (k + 1) f (PySem.W.fnOf name qual params body scope dV kV doc pm an cdv ct) ps sp := by
  refine ⟨len, fun A outer s H args us vs Q E hr e0 hb r hsp => ?_⟩
  have hl := len _ _ _ _ hsp
  have KX : K.In s.heap := e0.mod.kin.keeps fun b o e => (e0.bs b o e).1
  have lim : s.heap.NoLimit := e0.mod.nolimit.keeps fun b o e => (e0.bs b o e).1
  have hkind : ∀ y ∈ ps.zip us, scope.names.lookup y.1 = some .local ∨ (scope.names.lookup y.1 = some .cell ∧ ((cellsFrom (s.heap.objs.size + 1) scope.names []).lookup y.1).isSome = true) := fun ⟨n, v⟩ hy => by
    rcases S.par n (List.of_mem_zip hy).1 with q | q
    · exact .inl q
    · exact .inr ⟨q, PySem.W.cellsFrom_some _ _ _ (.inl q)⟩
  refine codeAny_call_function hr.depth (KX _ _ lk) rfl S.co S.gen rfl (PySem.W.codeRec_of KX hcd) (hb _ _ _ _ ?_)
  refine wpAny_newFunctionEnv_cells S.kind hkind fun env he s1 x => ?_
  subst he
  refine ⟨lim.keeps x.toInCall.keep, codeAny_func ?_⟩
  obtain ⟨t, ht, hq⟩ := hbody A outer s H vs Q E (hr.deeper _) hsp
  have I : Inv (cxOf CX P w K mg base N qual scope f cdv A outer s H E) [] (start N vs) H s1 := inv_start S hr.hd e0 hl r x
  refine wpAny_mono (ht [] s1 (start N vs) H _ I hq) (fun fl s' hs => ?_) fun e s' hs => hs
  have fin : ∀ {σ' : St} {H' : Hp} {v : V} {u : Value}, Inv (cxOf CX P w K mg base N qual scope f cdv A outer s H E) [] σ' H' s' → RelV v u → Q v H' → CE outer P w H s Q u s' :=
    fun {σ' H' v u} J rv q => ⟨v, H', J.os, J.bare, J.base, J.hok, rv, q⟩
  cases fl with
  | ret u =>
    obtain ⟨v, σ', H', J, rv, q⟩ := hs
    exact fin J rv q
  | next =>
    obtain ⟨σ', H', J, q⟩ := hs
    exact fin (v := V.non) (u := Value.none) J rfl q
  | brk =>
    obtain ⟨_, _, _, q⟩ := hs
    exact False.elim q
  | cont =>
    obtain ⟨_, _, _, q⟩ := hs
    exact False.elim q
end L2

namespace L2
open PySem PySem.Spec PyProof.Rows
section
variable {X : Cx} {x : Str} {p pos : Pos} {e : Expr} {es : List Expr} {t : TA} {id T : String} {r : List V → Hp → VK → Prop}

def tCB (r : List V → Hp → VK → Prop) (t : TA) : TE := fun σ H Q => t σ H fun vs H1 => r vs H1 Q
/-- f(e, ..), f a built-in function -/
theorem pe_callB (hc : CallR X (.builtin id) r) (hg : Gl X x) (hm : X.mg x = none) (hv : bootBuiltins x = some (.builtin id)) (ha : PA X (e :: es) t) (hn : x ≠ "__name__" := by decide) (hdb : (x == ("__debug__" : Str)) = false := by decide)
    (he : starEach (e :: es) X.env = (false, eval e X.env) :: starEach es X.env := by rfl) (hpl : (backTo pos (starEach es X.env)).any (·.1) = false := by rfl) : PE X (.Call (.Name x p) (e :: es) [] pos) (tCB r t) := by
  intro pins s σ H Q I h
  refine wpAny_Call_Name_kw (ld_blt I hg hm hv ?_ hn hdb)
  exact PyProof.Rows.callWith_builtin1 (thn (ha pos pins s σ H _ I h) fun us s1 ⟨vs, H1, I1, r1, q1⟩ => hc pins s1 σ H1 vs us Q I1 r1 q1) he hpl
/-- T(e, ..), T a built-in type -/
theorem pe_callTy (hc : CallR X (.type T) r) (hg : Gl X x) (hm : X.mg x = none) (hv : bootBuiltins x = some (.type T)) (ha : PA X (e :: es) t) (hn : x ≠ "__name__" := by decide) (hdb : (x == ("__debug__" : Str)) = false := by decide)
    (he : starEach (e :: es) X.env = (false, eval e X.env) :: starEach es X.env := by rfl) (hpl : (backTo pos (starEach es X.env)).any (·.1) = false := by rfl) : PE X (.Call (.Name x p) (e :: es) [] pos) (tCB r t) := by
  intro pins s σ H Q I h
  refine wpAny_Call_Name_kw (ld_blt I hg hm hv ?_ hn hdb)
  exact PyProof.Rows.callWith_type1 (thn (ha pos pins s σ H _ I h) fun us s1 ⟨vs, H1, I1, r1, q1⟩ => hc pins s1 σ H1 vs us Q I1 r1 q1) he hpl
end
end L2

namespace HT
open PySem PyProof.Rows

/-- t < u of tuples of ints -/
def lexLt : List Int → List Int → Bool
  | [], [] => false
  | [], _ :: _ => true
  | _ :: _, [] => false
  | x :: xs, y :: ys => if x = y then lexLt xs ys else decide (x < y)


section
open PySem.SeqAt
open PySem.AutoSeq1 (wpAny_loadPart')
open PySem.MeetsSeq PySem.MeetsSeq2 PySem.MeetsSeq3

end

section
variable {prog : Program} {w : World} {A : Around} {E : Value → Shared → Prop} {s : Shared}


/-- t + u, t not empty -/
theorem cat_tup {t b : Addr} {vs ws : List Value} {Q : Value → Shared → Prop} (ht : IsTup s.heap t vs.toArray) (hb : IsTup s.heap b ws.toArray) (hv : vs ≠ [])
    (h1 : ws = [] → Q (.ref t) s) (h2 : ws ≠ [] → Q (.ref s.heap.objs.size) { s with heap := s.heap.push { cls := .type "tuple", data := .seq (vs ++ ws).toArray } })
    (hsz : vs.length + ws.length ≤ sizeLine) : wpAny (model prog w) A (binaryOp .Add (.ref t) (.ref b)) Q E s := by
  obtain ⟨⟨cls, dd, data, sl⟩, ho, hc, n, hd⟩ := id ht
  obtain ⟨⟨cls2, dd2, data2, sl2⟩, ho2, hc2, n2, hd2⟩ := id hb
  simp only at hc hd hc2 hd2
  subst hc hd hc2 hd2
  have e : vs.toArray ++ ws.toArray = (vs ++ ws).toArray := by simp
  by_cases hw : ws = []
  · exact concat_meets ⟨_, ho, rfl⟩ ⟨_, ho2, rfl⟩ noFill_tuple_add seq_tuple_add PySem.F.slot_tuple_add PySem.F.entry_tuple_add (PySem.F.args_tuple_add_2 _ _)
      (tuple_addW1 t b vs.toArray ws.toArray n n2 dd dd2 sl sl2 (by simpa using hv) (by simp [hw])) ⟨ho, ho2, h1 hw⟩
  · refine concat_meets ⟨_, ho, rfl⟩ ⟨_, ho2, rfl⟩ noFill_tuple_add seq_tuple_add PySem.F.slot_tuple_add PySem.F.entry_tuple_add (PySem.F.args_tuple_add_2 _ _)
      (tuple_addW2 t b vs.toArray ws.toArray n n2 dd dd2 sl sl2 (by simpa using hv) (by simpa using hw) (by rw [List.size_toArray, List.size_toArray]; exact hsz)) ⟨ho, ho2, ?_⟩
    rw [e]
    exact h2 hw

/-! ### t[a:b], not the whole -/
/-- a slice's bound as a place among n (d where it is left out) -/
def sIx (n d : Nat) : Option Int → Nat
  | none => d
  | some v => if v < 0 then (v + (n : Int)).toNat else min v.toNat n
theorem sIx_le (n d : Nat) (hd : d ≤ n) (o : Option Int) : sIx n d o ≤ n := by
  cases o with
  | none => exact hd
  | some v =>
    show (if v < 0 then (v + (n : Int)).toNat else min v.toNat n) ≤ n
    by_cases hv : v < 0
    · rw [if_pos hv]; omega
    · rw [if_neg hv]; exact Nat.min_le_right _ _
theorem clip_eq (v : Int) (n d : Nat) : (if v < 0 then max (v + (n : Int)) 0 else min v (n : Int)) = ((sIx n d (some v) : Nat) : Int) := by
  show (if v < 0 then max (v + (n : Int)) 0 else min v (n : Int)) = (((if v < 0 then (v + (n : Int)).toNat else min v.toNat n) : Nat) : Int)
  by_cases hv : v < 0
  · simp only [if_pos hv]; omega
  · simp only [if_neg hv]; omega
theorem adjust_gen (lo hi : Option Int) (n : Nat) : Builtin.Slice.sliceAdjust lo hi 1 (n : Int) = (((sIx n 0 lo : Nat) : Int), ((sIx n n hi : Nat) : Int)) := by
  have h1 : ¬ ((1 : Int) < 0) := by omega
  unfold Builtin.Slice.sliceAdjust
  simp only [h1, if_false]
  refine Prod.ext ?_ ?_
  · cases lo with
    | none => rfl
    | some v => exact clip_eq v n 0
  · cases hi with
    | none => rfl
    | some v => exact clip_eq v n n
theorem places_gen (i j : Nat) : Builtin.Slice.slicePlaces (i : Int) (j : Int) 1 = j - i := by
  unfold Builtin.Slice.slicePlaces
  have h1 : (1 : Int) > 0 := by omega
  simp only [h1, if_true, Int.ediv_one]
  split <;> omega
theorem slicePart_ {v : Value} {o : Option Int} {Q : Option Int → Shared → Prop} (p : IsPart v o) (h : Q o s) : wpAny (model prog w) A (Builtin.Slice.slicePartIndex v) Q E s := by
  cases p with
  | none => exact slicePart_none h
  | int i t => exact slicePart_int h
theorem sliceApplied_gen {sl : Addr} {vl vu : Value} {lo hi : Option Int} {n : Nat} {Q : Int × Int × Nat → Shared → Prop} (hs : s.heap.IsSliceOf sl vl vu .none) (pl : IsPart vl lo) (pu : IsPart vu hi)
    (h : Q (((sIx n 0 lo : Nat) : Int), 1, sIx n n hi - sIx n 0 lo) s) : wpAny (model prog w) A (Builtin.Slice.sliceApplied (.ref sl) (pure (n : Int))) Q E s := by
  obtain ⟨os, hos, hcs, hds⟩ := id hs
  unfold Builtin.Slice.sliceApplied Builtin.Slice.sliceFields
  refine wpAny_bind (wpAny_bind (wpAny_field hos hds (x := vl) rfl (wpAny_bind (wpAny_field hos hds (x := vu) rfl (wpAny_bind (wpAny_field hos hds (x := .none) rfl (wpAny_pure ?_)))))))
  refine wpAny_bind (slicePart_none ?_)
  show wpAny _ _ (if ((1 : Int) == 0) = true then _ else _) _ _ s
  rw [if_neg (by decide)]
  refine wpAny_bind (slicePart_ pl (wpAny_bind (slicePart_ pu (wpAny_bind (wpAny_pure ?_)))))
  show wpAny _ _ (match Builtin.Slice.sliceAdjust lo hi 1 (n : Int) with | (lo, hi) => pure (lo, (1 : Int), Builtin.Slice.slicePlaces lo hi 1)) _ _ s
  rw [adjust_gen lo hi n]
  show wpAny _ _ (pure (((sIx n 0 lo : Nat) : Int), (1 : Int), Builtin.Slice.slicePlaces ((sIx n 0 lo : Nat) : Int) ((sIx n n hi : Nat) : Int) 1)) _ _ s
  rw [places_gen]
  exact wpAny_pure h
theorem pick_gen (xs : Array Value) (i k : Nat) : ((List.range k).filterMap fun (m : Nat) => xs[((i : Int) + (m : Int) * 1).toNat]?).toArray = ((xs.toList.drop i).take k).toArray := by
  have e : (fun (m : Nat) => xs[((i : Int) + (m : Int) * 1).toNat]?) = fun m => xs[i + m]? := by
    funext m
    have : ((i : Int) + (m : Int) * 1).toNat = i + m := by omega
    rw [this]
  rw [e]
  have := pick_run xs i k
  rw [List.filterMap_map] at this
  have e2 : ((fun x => xs[x]?) ∘ fun x => i + x) = fun m => xs[i + m]? := rfl
  rw [e2] at this
  rw [this]

theorem getItem_tuple_cut {t sl : Addr} {items : Array Value} {vl vu : Value} {lo hi : Option Int} {Q : Value → Shared → Prop} (ht : IsTup s.heap t items) (hs : s.heap.IsSliceOf sl vl vu .none) (pl : IsPart vl lo) (pu : IsPart vu hi)
    (hw : ¬ (sIx items.size 0 lo = 0 ∧ sIx items.size items.size hi = items.size))
    (h : Q (.ref s.heap.objs.size) { s with heap := s.heap.push { cls := .type "tuple", data := .seq ((items.toList.drop (sIx items.size 0 lo)).take (sIx items.size items.size hi - sIx items.size 0 lo)).toArray } })
    (hsz : items.size ≤ sizeLine) : wpAny (model prog w) A (getItem (.ref t) (.ref sl)) Q E s := by
  have htake : sizeOk (.seq ((items.toList.drop (sIx items.size 0 lo)).take (sIx items.size items.size hi - sIx items.size 0 lo)).toArray) := by
    show ((items.toList.drop (sIx items.size 0 lo)).take (sIx items.size items.size hi - sIx items.size 0 lo)).toArray.size ≤ sizeLine
    rw [List.size_toArray, List.length_take, List.length_drop, Array.length_toList]
    omega
  have hj : sIx items.size items.size hi ≤ items.size := sIx_le _ _ (Nat.le_refl _) hi
  obtain ⟨os, hos, hcs, hds⟩ := id hs
  have hTs : s.TypeIs (.ref sl) "slice" := ⟨os, hos, hcs⟩
  unfold getItem
  try with_reducible refine wpAny_holding ?_
  first | refine wpAny_bind (wpAny_pure ?_) | skip
  refine wpAny_bind (wpAny_sequenceKey ht.typeIs (by decide) ?_)
  refine wpAny_bind (wpAny_callSpecial?_slot (name := Str.ofString "__getitem__") ht.typeIs PyProof.Rows.slot_tuple_getitem
    (wpAny_call_entry PyProof.Rows.slot_tuple_getitem ht.typeIs entry_tuple_getitem ?_ (args_tuple_getitem _ _)))
  show wpAny _ _ (Builtin.Tuple.tupleItemsOf (.ref t) >>= _) _ _ s
  refine wpAny_bind (tupleItemsOf_ ht ?_)
  refine wpAny_bind (wpAny_typeOf hTs ?_)
  rw [if_pos (by decide)]
  refine wpAny_bind (sliceApplied_gen hs pl pu ?_)
  have hno : ¬ ((((sIx items.size 0 lo : Nat) : Int) == 0 && (1 : Int) == 1 && (sIx items.size items.size hi - sIx items.size 0 lo) == items.size) = true) := by
    intro q
    rw [Bool.and_eq_true, Bool.and_eq_true] at q
    have q1 : ((sIx items.size 0 lo : Nat) : Int) = 0 := eq_of_beq q.1.1
    have q2 : sIx items.size items.size hi - sIx items.size 0 lo = items.size := eq_of_beq q.2
    exact hw ⟨by omega, by omega⟩
  show wpAny _ _ (if (((sIx items.size 0 lo : Nat) : Int) == 0 && (1 : Int) == 1 && (sIx items.size items.size hi - sIx items.size 0 lo) == items.size) = true then _ else _) _ _ s
  rw [if_neg hno, pick_gen]
  first
    | exact wpAny_bind (m := Builtin.Tuple.tupleExact _) (wpAny_newObj_type (wpAny_pure ⟨_, rfl, wpAny_pure h⟩) htake)
    | exact wpAny_bind (m := Builtin.Tuple.tupleExact _) (wpAny_newObj_type (wpAny_bind (wpAny_pure (wpAny_pure ⟨_, rfl, wpAny_pure h⟩))) htake)
    | exact wpAny_bind (wpAny_bind (m := Builtin.Tuple.tupleExact _) (wpAny_newObj_type (wpAny_pure (wpAny_pure ⟨_, rfl, wpAny_pure h⟩)) htake))
    | exact wpAny_bind (wpAny_bind (m := Builtin.Tuple.tupleExact _) (wpAny_newObj_type (wpAny_pure ⟨_, rfl, wpAny_pure h⟩) htake))
end
end HT

namespace L2
open PySem PySem.Spec PyProof.Rows

/-! ### the parts of a slice -/
abbrev TO := St → Hp → (Option Int → Hp → Prop) → Prop
/-- a slice's part (left out, or an int) -/
def PO (X : Cx) (e : Option Expr) (t : TO) : Prop :=
  ∀ (pins : List (Addr × Obj)) (s : Shared) (σ : St) (H : Hp) (Q : Option Int → Hp → Prop), Inv X pins σ H s → t σ H Q →
    wpAny (model X.prog X.w) X.A (evalPart e X.env) (fun u s' => ∃ o H', Inv X pins σ H' s' ∧ IsPart u o ∧ Q o H') X.xe s
def tNoPart : TO := fun _ H Q => Q none H
def tPart (t : TE) : TO := fun σ H Q => t σ H fun x H1 => ∃ i, x = .int i ∧ Q (some i) H1


section
variable {X : Cx} {e : Expr} {te : TE} {lo hi : Option Expr} {tl th : TO} {pos p2 : Pos}

theorem po_none : PO X none tNoPart := by
  intro pins s σ H Q I h
  rw [evalPart_none]
  exact wpAny_pure ⟨none, H, I, .none, h⟩
theorem po_some (h : PE X e te) : PO X (some e) (tPart te) := by
  intro pins s σ H Q I hw
  rw [evalPart_some]
  refine thn (h pins s σ H _ I hw) fun u s1 ⟨x, H1, I1, r1, q1⟩ => ?_
  obtain ⟨i, rfl, q⟩ := q1
  obtain ⟨t, rfl⟩ := r1
  exact ⟨some i, H1, I1, .int i t, q⟩

/-- what a slice of a value is, by values: the slice object stands at sl -/
def SlR (X : Cx) (r : V → Option Int → Option Int → Hp → VK → Prop) : Prop :=
  ∀ (pins : List (Addr × Obj)) (s : Shared) (σ : St) (H : Hp) (x : V) (v vl vu : Value) (lo hi : Option Int) (sl : Addr) (Q : VK), Inv X pins σ H s → RelV x v → s.heap.IsSliceOf sl vl vu .none → IsPart vl lo → IsPart vu hi → r x lo hi H Q →
    ∃ T id, typeLookup (.type T) "__getitem__" = pure (some (.builtin id)) ∧ s.TypeIs v T ∧ wpAny (model X.prog X.w) X.A (getItem v (.ref sl)) (EP X pins σ Q) X.xe s
theorem SlR.or {r r' : V → Option Int → Option Int → Hp → VK → Prop} (h : SlR X r) (h' : SlR X r') : SlR X (fun x lo hi H Q => r x lo hi H Q ∨ r' x lo hi H Q) := by
  intro pins s σ H x v vl vu lo hi sl Q I rx hs pl pu q
  rcases q with q | q
  · exact h pins s σ H x v vl vu lo hi sl Q I rx hs pl pu q
  · exact h' pins s σ H x v vl vu lo hi sl Q I rx hs pl pu q
def tSl (r : V → Option Int → Option Int → Hp → VK → Prop) (te : TE) (tl th : TO) : TE := fun σ H Q => te σ H fun x H1 => tl σ H1 fun l H2 => th σ H2 fun u H3 => r x l u H3 Q
/-- a[lo:hi], any a -/
theorem pe_slice {r : V → Option Int → Option Int → Hp → VK → Prop} (hr : SlR X r) (he : PE X e te) (hl : PO X lo tl) (hu : PO X hi th) : PE X (.Subscript e (.Slice lo hi none p2) pos) (tSl r te tl th) := by
  intro pins s σ H Q I h
  refine Subscript_ (thn (he pins s σ H _ I h) fun v s1 ⟨x, H1, I1, r1, q1⟩ => ?_)
  refine wpAny_Slice (thn (hl pins s1 σ H1 _ I1 q1) fun vl s2 ⟨l, H2, I2, pl, q2⟩ => thn (hu pins s2 σ H2 _ I2 q2) fun vu s3 ⟨u, H3, I3, pu, q3⟩ => ?_)
  rw [evalPart_none]
  refine wpAny_pure ?_
  have I4 : Inv X pins σ H3 { s3 with heap := s3.heap.push { cls := .type "slice", data := .fields #[vl, vu, .none] } } := I3.kept (t' := s3.toks) fun b ob q => Heap.get?_push_of_some _ q
  obtain ⟨T, id, hT, ht, hg⟩ := hr pins { s3 with heap := s3.heap.push { cls := .type "slice", data := .fields #[vl, vu, .none] } } σ H3 x v vl vu l u s3.heap.objs.size Q I4 r1 (Heap.IsSliceOf.new ..) pl pu q3
  show wpAny (model X.prog X.w) X.A (subscriptTail e (.Slice lo hi none p2) v (.ref s3.heap.objs.size)) (EP X pins σ Q) X.xe { s3 with heap := s3.heap.push { cls := .type "slice", data := .fields #[vl, vu, .none] } }
  exact tail_any (ops := [.ref s3.heap.objs.size, v]) ht hT hg (by with_unfolding_all rfl)

/-- the items of xs[lo:hi] -/
def cutV (xs : List V) (lo hi : Option Int) : List V := (xs.drop (HT.sIx xs.length 0 lo)).take (HT.sIx xs.length xs.length hi - HT.sIx xs.length 0 lo)
theorem cutV_length (xs : List V) (lo hi : Option Int) : (cutV xs lo hi).length ≤ xs.length := by
  unfold cutV
  rw [List.length_take, List.length_drop]
  omega
/-- t[lo:hi], not the whole of it (the whole would be t itself) -/
def rSlT (K : PySem.W.Frag) : V → Option Int → Option Int → Hp → VK → Prop := fun x lo hi H Q => ∃ a xs, x = .ref a ∧ SqT K H a xs ∧
  ¬ (HT.sIx xs.length 0 lo = 0 ∧ HT.sIx xs.length xs.length hi = xs.length) ∧ ∀ p, H p = none → Q (.ref p) (upd H p (.tup (cutV xs lo hi)))
theorem sl_tup : SlR X (rSlT X.K) := by
  intro pins s σ H x v vl vu lo hi sl Q I rx hs pl pu h
  obtain ⟨a, xs, rfl, hx, hw, q⟩ := h
  cases rx
  obtain ⟨its, r, ht, hz⟩ := I.tuple hx
  have hlen : its.toArray.size = xs.length := by rw [List.size_toArray]; exact r.length.symm
  refine ⟨"tuple", _, PyProof.Rows.slot_tuple_getitem.lookup, ht.typeIs, ?_⟩
  refine HT.getItem_tuple_cut ht hs pl pu (by rw [hlen]; exact hw) ?_ (by rw [hlen]; exact hz)
  rw [hlen]
  refine ⟨.ref s.heap.objs.size, _, I.laid (t' := s.toks) (o := .tup (cutV xs lo hi)) (fun b ob q => Heap.get?_push_of_some _ q) (Nat.le_refl _) ?_, rfl, q _ (I.hok.fresh (Nat.le_refl _))⟩
  exact ⟨Nat.le_trans (cutV_length xs lo hi) hz, _, (r.drop (HT.sIx xs.length 0 lo)).take (HT.sIx xs.length xs.length hi - HT.sIx xs.length 0 lo), IsTup.new _ _⟩

/-! ### t < u, t + u -/
def rLtT (K : PySem.W.Frag) : R2 := fun x y H Q => ∃ a b ns ms, x = .ref a ∧ y = .ref b ∧ SqT K H a (ns.map V.int) ∧ SqT K H b (ms.map V.int) ∧ Q (.bl (HT.lexLt ns ms)) H
/-- t + u, t not empty: u empty gives t itself -/
def rCatT (K : PySem.W.Frag) : R2 := fun x y H Q => ∃ a b xs ys, x = .ref a ∧ y = .ref b ∧ SqT K H a xs ∧ SqT K H b ys ∧ xs ≠ [] ∧ xs.length + ys.length ≤ sizeLine ∧
  (ys = [] → Q (.ref a) H) ∧ (ys ≠ [] → ∀ p, H p = none → Q (.ref p) (upd H p (.tup (xs ++ ys))))
theorem Vals.nil_iff {xs : List V} {us : List Value} (r : Vals xs us) : us = [] ↔ xs = [] := by
  cases r with
  | nil => simp
  | cons _ _ => simp
theorem op_catT : OpR X (binaryOp .Add) (rCatT X.K) := by
  intro pins s σ H x y v u Q I rx ry h
  obtain ⟨a, b, xs, ys, rfl, rfl, ha, hb, hx, hz, q1, q2⟩ := h
  cases rx
  cases ry
  obtain ⟨its, r1, p1, _⟩ := I.tuple ha
  obtain ⟨its2, r2, p2, _⟩ := I.tuple hb
  refine HT.cat_tup p1 p2 (fun z => hx (r1.nil_iff.mp z)) (fun z => ⟨.ref a, H, I, rfl, q1 (r2.nil_iff.mp z)⟩) (fun z => ?_) (by rw [← r1.length, ← r2.length]; exact hz)
  refine ⟨.ref s.heap.objs.size, _, I.laid (t' := s.toks) (o := .tup (xs ++ ys)) (fun b ob q => Heap.get?_push_of_some _ q) (Nat.le_refl _) ?_, rfl, q2 (fun w => z (r2.nil_iff.mpr w)) _ (I.hok.fresh (Nat.le_refl _))⟩
  exact ⟨by rw [List.length_append]; exact hz, _, r1.append r2, IsTup.new _ _⟩
end
end L2

namespace L2
open PySem PySem.Spec PyProof.Rows

/-! ### places -/
/-- the place that an index of any sign means -/
def ixN (n : Nat) (i : Int) : Option Nat := if 0 ≤ i then (if i < n then some i.toNat else none) else if -(n : Int) ≤ i then some (i + n).toNat else none
def atI {α : Type} (xs : List α) (i : Int) : Option α := (ixN xs.length i).bind fun j => xs[j]?
theorem ixN_seq {n : Nat} {i : Int} {j : Nat} (h : ixN n i = some j) : seqIndex? i n = some j ∧ j < n ∧ -(n : Int) ≤ i ∧ i < n := by
  unfold ixN at h
  by_cases h0 : 0 ≤ i
  · rw [if_pos h0] at h
    by_cases h1 : i < n
    · rw [if_pos h1] at h
      have e : i.toNat = j := Option.some.inj h
      exact ⟨by rw [seqIndex_of h0 h1, e], by omega, by omega, h1⟩
    · rw [if_neg h1] at h; cases h
  · rw [if_neg h0] at h
    by_cases h1 : -(n : Int) ≤ i
    · rw [if_pos h1] at h
      have e : (i + n).toNat = j := Option.some.inj h
      exact ⟨by rw [seqIndex_neg (by omega) h1, e], by omega, h1, by omega⟩
    · rw [if_neg h1] at h; cases h
theorem atI_get {α : Type} {xs : List α} {i : Int} {v : α} (h : atI xs i = some v) : ∃ j, seqIndex? i xs.length = some j ∧ xs[j]? = some v ∧ j < xs.length ∧ -(xs.length : Int) ≤ i ∧ i < xs.length := by
  unfold atI at h
  cases e : ixN xs.length i with
  | none => rw [e] at h; cases h
  | some j =>
    rw [e] at h
    obtain ⟨h1, h2, h3, h4⟩ := ixN_seq e
    exact ⟨j, h1, h, h2, h3, h4⟩
theorem atI_nat {α : Type} {xs : List α} {j : Nat} {v : α} (h : xs[j]? = some v) : atI xs (j : Int) = some v := by
  have hj : j < xs.length := (List.getElem?_eq_some_iff.mp h).1
  have e : ixN xs.length (j : Int) = some j := by
    unfold ixN
    rw [if_pos (by omega), if_pos (by omega)]; simp
  unfold atI; rw [e]; exact h

/-! ### what may be subscripted -/
/-- what stands as an index of a plain subscript -/
def PlainIx (b : Expr) : Prop := ∀ o i, subscripted b false o i = operate [o, i] (getItem o i)
/-- a subscript by values -/
def IxR (X : Cx) (r : R2) : Prop :=
  ∀ (value slice : Expr) (pins : List (Addr × Obj)) (s : Shared) (σ : St) (H : Hp) (x y : V) (v u : Value) (Q : VK), Inv X pins σ H s → RelV x v → RelV y u → r x y H Q →
    subscripted slice false v u = operate [v, u] (getItem v u) → wpAny (model X.prog X.w) X.A (subscriptTail value slice v u) (EP X pins σ Q) X.xe s
/-- a call of a builtin's method by values: the receiver, the arguments -/
def MtR (X : Cx) (id : String) (r : V → List V → Hp → VK → Prop) : Prop :=
  ∀ (pins : List (Addr × Obj)) (s : Shared) (σ : St) (H : Hp) (x : V) (xs : List V) (v : Value) (us : List Value) (Q : VK), Inv X pins σ H s → RelV x v → Vals xs us → r x xs H Q →
    wpAny (model X.prog X.w) X.A (call (.builtin id) (v :: us)) (EP X pins σ Q) X.xe s
section
variable {X : Cx} {a b : Expr} {ta tb : TE} {pos : Pos}
theorem IxR.or {r r' : R2} (h : IxR X r) (h' : IxR X r') : IxR X (fun x y H Q => r x y H Q ∨ r' x y H Q) := by
  intro value slice pins s σ H x y v u Q I rx ry q hs
  rcases q with q | q
  · exact h value slice pins s σ H x y v u Q I rx ry q hs
  · exact h' value slice pins s σ H x y v u Q I rx ry q hs
theorem MtR.or {id : String} {r r' : V → List V → Hp → VK → Prop} (h : MtR X id r) (h' : MtR X id r') : MtR X id (fun x xs H Q => r x xs H Q ∨ r' x xs H Q) := by
  intro pins s σ H x xs v us Q I rx rs q
  rcases q with q | q
  · exact h pins s σ H x xs v us Q I rx rs q
  · exact h' pins s σ H x xs v us Q I rx rs q
/-- a[b] -/
theorem pe_ix {r : R2} (hr : IxR X r) (ha : PE X a ta) (hb : PE X b tb) (hs : PlainIx b) : PE X (.Subscript a b pos) (tOp r ta tb) := by
  intro pins s σ H Q I h
  exact Subscript_ (binT ha hb I h fun v u s2 x y H2 I2 rx ry q => hr a b pins s2 σ H2 x y v u Q I2 rx ry q (hs _ _))

def rIxL (K : PySem.W.Frag) : R2 := fun x y H Q => ∃ p xs i v, x = .ref p ∧ y = .int i ∧ SqL K H p xs ∧ atI xs i = some v ∧ Q v H
def rIxT (K : PySem.W.Frag) : R2 := fun x y H Q => ∃ p xs i v, x = .ref p ∧ y = .int i ∧ SqT K H p xs ∧ atI xs i = some v ∧ Q v H
def rIxS : R2 := fun x y H Q => ∃ z i c, x = .str z ∧ y = .int i ∧ z.length ≤ sizeLine ∧ atI z.cps.toList i = some c ∧ Q (.str ⟨#[c]⟩) H
theorem ix_list : IxR X (rIxL X.K) := by
  intro value slice pins s σ H x y v u Q I rx ry h hs
  obtain ⟨p, xs, i, z, rfl, rfl, hq, he, q⟩ := h
  cases rx
  obtain ⟨t, rfl⟩ := ry
  obtain ⟨its, r, pl, hz⟩ := I.list hq
  obtain ⟨j, h1, h2, h3, h4, h5⟩ := atI_get he
  obtain ⟨w, ew, rw'⟩ := r.get h2
  have hl := r.length
  have hn := line63
  have fin : EP X pins σ Q w s := ⟨z, H, I, rw', q⟩
  by_cases h0 : 0 ≤ i
  · have hj : i.toNat = j := by
      rw [seqIndex_of h0 h5] at h1
      exact Option.some.inj h1
    exact item_listR pl.isList h0 (by omega) (by rw [hj]; simpa using ew) fin hs
  · have hj : (i + (its.toArray.size : Int)).toNat = j := by
      rw [seqIndex_neg (by omega) h4] at h1
      rw [List.size_toArray, ← hl]
      exact Option.some.inj h1
    exact subscriptTail_builtinR (x := w) pl.isList.typeIs slot_list_getitem.lookup
      (wpAny_getItem_list_neg (Q := fun r s' => r = w ∧ EP X pins σ Q r s') pl.isList (by omega) (by rw [List.size_toArray] <;> omega) (by omega) (by rw [hj]; simpa using ew) ⟨rfl, fin⟩) hs
theorem ix_tup : IxR X (rIxT X.K) := by
  intro value slice pins s σ H x y v u Q I rx ry h hs
  obtain ⟨p, xs, i, z, rfl, rfl, hq, he, q⟩ := h
  cases rx
  obtain ⟨t, rfl⟩ := ry
  obtain ⟨its, r, pl, hz⟩ := I.tuple hq
  obtain ⟨j, h1, h2, h3, h4, h5⟩ := atI_get he
  obtain ⟨w, ew, rw'⟩ := r.get h2
  have hl := r.length
  have hn := line63
  have fin : EP X pins σ Q w s := ⟨z, H, I, rw', q⟩
  exact subscriptTail_builtinR (x := w) pl.typeIs slot_tuple_getitem.lookup
    (getItem_tuple (j := j) (Q := fun r s' => r = w ∧ EP X pins σ Q r s') pl (by omega) (by omega) (by rw [List.size_toArray, ← hl]; exact h1) (by simpa using ew) ⟨rfl, fin⟩) hs
/-- list, tuple or str -/
def rIx (K : PySem.W.Frag) : R2 := fun x y H Q => rIxL K x y H Q ∨ rIxT K x y H Q ∨ rIxS x y H Q

/-! ### xs[i] = v, any sign -/
/-- the list's object behind a store -/
theorem mapSeq_set (its : List Value) (n j : Nat) (u : Value) : Obj.mapSeq (·.setIfInBounds j u) { cls := .type "list", data := .seq its.toArray n } = { cls := .type "list", data := .seq (its.set j u).toArray n } := by
  simp [Obj.mapSeq]
theorem Inv.lst {pins : List (Addr × Obj)} {σ : St} {H : Hp} {s : Shared} {p : Addr} {xs : List V} (I : Inv X pins σ H s) (h : H p = some (.lst xs)) :
    ∃ (its : List Value) (n : Nat), Vals xs its ∧ s.heap.get? p = some { cls := .type "list", data := .seq its.toArray n } ∧ xs.length ≤ sizeLine := by
  obtain ⟨z, its, n, r, e⟩ := I.hok p _ h
  exact ⟨its, n, r, e, z⟩
/-- the list at p is written by an update of its object -/
theorem Inv.lstUpd {pins : List (Addr × Obj)} {σ : St} {H : Hp} {s : Shared} {p : Addr} {xs ys : List V} {its its' : List Value} {n n' : Nat} {f : Obj → Obj} (I : Inv X pins σ H s) (h : H p = some (.lst xs))
    (ho : s.heap.get? p = some { cls := .type "list", data := .seq its.toArray n }) (hf : f { cls := .type "list", data := .seq its.toArray n } = { cls := .type "list", data := .seq its'.toArray n' }) (r : Vals ys its') (hz : ys.length ≤ sizeLine) (t : Nat) :
    Inv X pins σ (upd H p (.lst ys)) { s with heap := s.heap.update p f, toks := t } := by
  have e : (s.heap.update p f).get? p = some { cls := .type "list", data := .seq its'.toArray n' } := by
    rw [Heap.get?_update_self f ho (by rw [hf] <;> rfl), hf]
  refine I.write (x := p) (e := p) (by rw [h]; trivial) (.inl rfl) (fun b u hb q => (Heap.get?_update_other _ _ (Ne.symm hb)).trans q) ⟨_, e⟩ ?_
  exact ⟨hz, its', n', r, e⟩
def rSetL : V → V → V → Hp → (Hp → Prop) → Prop := fun o i v H Q => ∃ p xs k j, o = .ref p ∧ i = .int k ∧ H p = some (.lst xs) ∧ ixN xs.length k = some j ∧ Q (upd H p (.lst (xs.set j v)))
theorem set_list : PSet X rSetL := by
  intro pins s σ H o i v ov iv u Q I ro ri rv h
  obtain ⟨p, xs, k, j, rfl, rfl, hp, hj, q⟩ := h
  cases ro
  obtain ⟨t, rfl⟩ := ri
  obtain ⟨its, n, r, ho, hz⟩ := I.lst hp
  obtain ⟨h1, h2, h3, h4⟩ := ixN_seq hj
  have hl := r.length
  have hn := line63
  have I' : Inv X pins σ (upd H p (.lst (xs.set j v))) { s with heap := s.heap.update p (Obj.mapSeq (·.setIfInBounds j u)) } :=
    I.lstUpd hp ho (mapSeq_set its n j u) (r.set rv j) (by rw [List.length_set]; exact hz) s.toks
  by_cases h0 : 0 ≤ k
  · have hk : k.toNat = j := by
      rw [seqIndex_of h0 h4] at h1
      exact Option.some.inj h1
    exact PySem.W.ki_setAt ho h0 (by omega) (by rw [List.size_toArray, ← hl]; exact h4) (by rw [hk]; exact ⟨_, I', q⟩)
  · have hk : (k + (its.toArray.size : Int)).toNat = j := by
      rw [seqIndex_neg (by omega) h3] at h1
      rw [List.size_toArray, ← hl]
      exact Option.some.inj h1
    exact PySem.W.ki_setBack ho (by omega) (by rw [List.size_toArray, ← hl]; exact h3) (by omega) (by rw [hk]; exact ⟨_, I', q⟩)

/-! ### slices -/
theorem slice_bounds (lo hi : Option Int) (n : Nat) : (sliceBounds lo hi none n).1 = ((HT.sIx n 0 lo : Nat) : Int) ∧ (sliceBounds lo hi none n).2.1 = ((HT.sIx n n hi : Nat) : Int) ∧ (sliceBounds lo hi none n).2.2 = 1 := by
  refine ⟨?_, ?_, rfl⟩
  · cases lo with
    | none => simp [sliceBounds, HT.sIx]
    | some i =>
      simp only [sliceBounds, HT.sIx, Option.getD_none, show (1 : Int) > 0 by decide, if_true]
      by_cases h : i < 0
      · simp only [h, if_true] <;> omega
      · simp only [h, if_false] <;> omega
  · cases hi with
    | none => simp [sliceBounds, HT.sIx]
    | some i =>
      simp only [sliceBounds, HT.sIx, Option.getD_none, show (1 : Int) > 0 by decide, if_true]
      by_cases h : i < 0
      · simp only [h, if_true] <;> omega
      · simp only [h, if_false] <;> omega
theorem slicePick_cut (its : List Value) (lo hi : Option Int) : slicePick its.toArray lo hi none = ((its.drop (HT.sIx its.length 0 lo)).take (HT.sIx its.length its.length hi - HT.sIx its.length 0 lo)).toArray := by
  obtain ⟨h1, h2, h3⟩ := slice_bounds lo hi its.toArray.size
  unfold slicePick
  rw [h1, h2, h3]
  simp only [sliceRange_one, pick_run, List.size_toArray] <;> rfl
/-- xs[lo:hi] of a list: a new list -/
def rSlL (K : PySem.W.Frag) : V → Option Int → Option Int → Hp → VK → Prop := fun x lo hi H Q => ∃ a xs, x = .ref a ∧ SqL K H a xs ∧ ∀ p, H p = none → Q (.ref p) (upd H p (.lst (cutV xs lo hi)))
theorem sl_list : SlR X (rSlL X.K) := by
  intro pins s σ H x v vl vu lo hi sl Q I rx hs pl pu h
  obtain ⟨a, xs, rfl, hx, q⟩ := h
  cases rx
  obtain ⟨its, r, ht, hz⟩ := I.list hx
  have hlen := r.length
  refine ⟨"list", _, slot_list_getitem.lookup, ht.isList.typeIs, ?_⟩
  refine wpAny_getItem_list_slice ht.isList hs pl pu .none (by simp) ?_ (by rw [List.size_toArray] <;> omega)
  rw [slicePick_cut, ← hlen]
  refine ⟨.ref s.heap.objs.size, _, I.laid (t' := s.toks) (o := .lst (cutV xs lo hi)) (fun b ob q => Heap.get?_push_of_some _ q) (Nat.le_refl _) ?_, rfl, q _ (I.hok.fresh (Nat.le_refl _))⟩
  exact ⟨Nat.le_trans (cutV_length xs lo hi) hz, _, 0, (r.drop (HT.sIx xs.length 0 lo)).take (HT.sIx xs.length xs.length hi - HT.sIx xs.length 0 lo), Heap.get?_push_size _ rfl⟩

/-! ### in, not in: flat items -/
def flatV : V → Bool
  | .non => true
  | .bl _ => true
  | .int _ => true
  | .str _ => true
  | _ => false
/-- == of flat values -/
def eqV : V → V → Bool
  | .non, .non => true
  | .bl a, .bl b => a == b
  | .bl a, .int b => (if a then 1 else 0) == b
  | .int a, .bl b => a == (if b then 1 else 0)
  | .int a, .int b => a == b
  | .str a, .str b => a == b
  | _, _ => false
/-- the items' answers, read off the values (a value's own answer does not lean on its token) -/
def eqU (x : V) (u : Value) : Bool := match u with
  | .none => eqV .non x
  | .bool b => eqV (.bl b) x
  | .int i _ => eqV (.int i) x
  | .str z _ => eqV (.str z) x
  | _ => false
def inV (x : V) (xs : List V) : Bool := xs.any fun y => eqV y x
/-- x in a list or tuple of flat items -/
def rIn (K : PySem.W.Frag) (neg : Bool) : R2 := fun x y H Q => ∃ p xs, y = .ref p ∧ (SqL K H p xs ∨ SqT K H p xs) ∧ flatV x = true ∧ xs.all flatV = true ∧ Q (.bl (if neg then !inV x xs else inV x xs)) H

/-! ### len, list(x), tuple(x) of any list or tuple that is read -/
theorem call_len_seq : CallR X (.builtin "len") (fun xs H Q => ∃ p ys, xs = [.ref p] ∧ (SqL X.K H p ys ∨ SqT X.K H p ys) ∧ Q (.int ys.length) H) := by
  intro pins s σ H xs us Q I r h
  obtain ⟨p, ys, rfl, hq, q⟩ := h
  obtain ⟨u, rfl, rx⟩ := vals1 r
  cases rx
  have hn := line63
  rcases hq with hq | hq
  · obtain ⟨its, r', pl, hz⟩ := I.list hq
    have hlen := r'.length
    exact Calls.call_len_list pl.isList (by simp only [List.size_toArray] <;> omega) ⟨.int ys.length, H, I.tok _, ⟨s.toks + 1, by rw [List.size_toArray, hlen]⟩, q⟩
  · obtain ⟨its, r', pl, hz⟩ := I.tuple hq
    have hlen := r'.length
    exact len_tuple pl (by simp only [List.size_toArray] <;> omega) ⟨.int ys.length, H, I.tok _, ⟨s.toks + 1, by rw [List.size_toArray, hlen]⟩, q⟩
theorem CallR.or {f : Value} {r r' : List V → Hp → VK → Prop} (h : CallR X f r) (h' : CallR X f r') : CallR X f (fun xs H Q => r xs H Q ∨ r' xs H Q) := by
  intro pins s σ H xs us Q I rs q
  rcases q with q | q
  · exact h pins s σ H xs us Q I rs q
  · exact h' pins s σ H xs us Q I rs q
theorem call_list_of : CallR X (.type "list") (fun xs H Q => ∃ p ys, xs = [.ref p] ∧ (SqL X.K H p ys ∨ SqT X.K H p ys) ∧ ∀ l, H l = none → Q (.ref l) (upd H l (.lst ys))) := by
  intro pins s σ H xs us Q I r h
  obtain ⟨p, ys, rfl, hq, q⟩ := h
  obtain ⟨u, rfl, rx⟩ := vals1 r
  cases rx
  have fin : ∀ (its : List Value), Vals ys its → ys.length ≤ sizeLine → ∀ (h' : Heap) (c' : Nat), (∀ b o', s.heap.get? b = some o' → h'.get? b = some o') →
      h'.get? s.heap.objs.size = some { cls := .type "list", dict := none, data := .seq its.toArray c', slots := #[] } → EP X pins σ Q (.ref s.heap.objs.size) { s with heap := h' } := fun its r' hz h' c' kp e =>
    ⟨.ref s.heap.objs.size, _, I.laid (t' := s.toks) kp (Nat.le_refl _) (show ObjOk X.prog X.w _ h' _ (.lst ys) from ⟨hz, its, c', r', e⟩), rfl, q _ (I.hok.fresh (Nat.le_refl _))⟩
  rcases hq with hq | hq
  · obtain ⟨its, r', pl, hz⟩ := I.list hq
    have hlen := r'.length
    obtain ⟨o, ho, hc, n, hd⟩ := pl.isList
    exact call_list_seq p (.inl rfl) ho hc hd (fun h' c' kp e => fin its r' hz h' c' kp e) (by simp only [List.size_toArray] <;> omega)
  · obtain ⟨its, r', pl, hz⟩ := I.tuple hq
    have hlen := r'.length
    obtain ⟨o, ho, hc, n, hd⟩ := pl
    exact call_list_seq p (.inr rfl) ho hc hd (fun h' c' kp e => fin its r' hz h' c' kp e) (by simp only [List.size_toArray] <;> omega)
theorem call_tuple_of : CallR X (.type "tuple") (fun xs H Q => ∃ p ys, xs = [.ref p] ∧ ((SqL X.K H p ys ∧ ∀ l, H l = none → Q (.ref l) (upd H l (.tup ys))) ∨ (SqT X.K H p ys ∧ Q (.ref p) H))) := by
  intro pins s σ H xs us Q I r h
  obtain ⟨p, ys, rfl, h⟩ := h
  obtain ⟨u, rfl, rx⟩ := vals1 r
  cases rx
  rcases h with ⟨hq, q⟩ | ⟨hq, q⟩
  · obtain ⟨its, r', pl, hz⟩ := I.list hq
    have hlen := r'.length
    refine call_tuple_list pl.isList (fun h' kp => ?_) (by simp only [List.size_toArray] <;> omega)
    have I1 : Inv X pins σ H { s with heap := h' } := I.kept (t' := s.toks) kp
    have I2 : Inv X pins σ (upd H h'.objs.size (.tup ys)) { s with heap := h'.push { cls := .type "tuple", data := .seq its.toArray } } :=
      I1.laid (t' := s.toks) (fun b o e => Heap.get?_push_of_some _ e) (Nat.le_refl _) (show ObjOk X.prog X.w _ _ _ (.tup ys) from ⟨hz, its, r', IsTup.new _ _⟩)
    exact ⟨.ref h'.objs.size, _, I2, rfl, q _ (I1.hok.fresh (Nat.le_refl _))⟩
  · obtain ⟨its, r', pl, hz⟩ := I.tuple hq
    exact call_tuple_same pl ⟨.ref p, H, I, rfl, q⟩

/-! ### the call of a builtin's method: o.m(..) -/
/-- the value is of that builtin type -/
def tyV (K : PySem.W.Frag) (T : String) (x : V) (H : Hp) : Prop := match x with
  | .str _ => T = "str"
  | .int _ => T = "int"
  | .ref p => (T = "list" ∧ ∃ xs, SqL K H p xs) ∨ (T = "tuple" ∧ ∃ o, K.lookup p = some o ∧ o.cls = .type "tuple" ∧ o.dict = none) ∨
      (T = "dict" ∧ ((∃ kvs, H p = some (.dK kvs)) ∨ ∃ kvs, H p = some (.dT kvs))) ∨ (T = "set" ∧ ∃ S n, H p = some (.set S n))
  | _ => False
theorem tyV_is {pins : List (Addr × Obj)} {σ : St} {H : Hp} {s : Shared} {T : String} {x : V} {v : Value} (I : Inv X pins σ H s) (r : RelV x v) (ty : tyV X.K T x H) :
    s.TypeIs v T ∧ ∀ a, v = .ref a → ∃ ob, s.heap.get? a = some ob ∧ ob.dict = none := by
  cases x with
  | str z =>
    obtain ⟨t, rfl⟩ := r
    cases (show T = "str" from ty)
    exact ⟨typeIs_str s z t, fun _ e => nomatch e⟩
  | int i =>
    obtain ⟨t, rfl⟩ := r
    cases (show T = "int" from ty)
    exact ⟨typeIs_int s i t, fun _ e => nomatch e⟩
  | ref p =>
    cases r
    rcases ty with ⟨rfl, xs, hq⟩ | ⟨rfl, o, hk, hc, hd⟩ | ⟨rfl, hk⟩ | ⟨rfl, S, n, hk⟩
    · obtain ⟨its, _, pl, _⟩ := I.list hq
      refine ⟨pl.isList.typeIs, fun a e => ?_⟩
      cases e
      obtain ⟨o, n, e, c, hd, _⟩ := pl
      exact ⟨o, e, hd⟩
    · refine ⟨⟨o, I.kIn p o hk, hc⟩, fun a e => ?_⟩
      cases e
      exact ⟨o, I.kIn _ o hk, hd⟩
    · have z : ∃ o, s.heap.get? p = some o ∧ o.ExactDict := by
        rcases hk with ⟨kvs, hk⟩ | ⟨kvs, hk⟩
        · obtain ⟨_, _, _, _, o, _, _, e, ex, _⟩ := I.hok p _ hk
          exact ⟨o, e, ex⟩
        · obtain ⟨_, _, _, _, o, _, _, e, ex, _⟩ := I.hok p _ hk
          exact ⟨o, e, ex⟩
      obtain ⟨o, e, ex⟩ := z
      refine ⟨⟨o, e, ex.1⟩, fun a e2 => ?_⟩
      cases e2
      exact ⟨o, e, ex.2.1⟩
    · obtain ⟨o, _, _, _, e, ex, _⟩ := I.hok p _ hk
      refine ⟨⟨o, e, ex.1⟩, fun a e2 => ?_⟩
      cases e2
      exact ⟨o, e, ex.2.1⟩
  | _ => exact False.elim ty
def tBM0 (K : PySem.W.Frag) (T : String) (r : V → List V → Hp → VK → Prop) (to : TE) : TE := fun σ H Q => to σ H fun x H1 => tyV K T x H1 ∧ r x [] H1 Q
def tBM (K : PySem.W.Frag) (T : String) (r : V → List V → Hp → VK → Prop) (to : TE) (t : TA) : TE := fun σ H Q => to σ H fun x H1 => tyV K T x H1 ∧ t σ H1 fun xs H2 => r x xs H2 Q
variable {o e : Expr} {es : List Expr} {to : TE} {t : TA} {name : Str} {apos cpos : Pos} {T id : String} {r : V → List V → Hp → VK → Prop}
theorem pe_bm0 (pa : PlainAttrs T) (slot : Slot T name id) (hty : typeOf (.builtin id) = pure (.type "method_descriptor")) (hm : MtR X id r) (ho : PE X o to)
    (hbase : attributeBase o name X.env (eval o X.env) = eval o X.env := by rfl) (hline : (apos.endLine == cpos.line) = true := by rfl) : PE X (.Call (.Attribute o name apos) [] [] cpos) (tBM0 X.K T r to) := by
  intro pins s σ H Q I h
  refine wpAny_Call_method0_late hbase hline (thn (ho pins s σ H _ I h) fun v s1 ⟨x, H1, I1, r1, ty, q1⟩ => ?_)
  obtain ⟨h1, h2⟩ := tyV_is I1 r1 ty
  exact ⟨T, id, pa, slot, hty, h1, h2, Calls.callWith_builtin rfl (PySem.evalArgs_none (hm pins s1 σ H1 x [] v [] Q I1 r1 .nil q1))⟩
theorem pe_bm (pa : PlainAttrs T) (slot : Slot T name id) (hty : typeOf (.builtin id) = pure (.type "method_descriptor")) (hm : MtR X id r) (ho : PE X o to) (ha : PA X (e :: es) t)
    (hbase : attributeBase o name X.env (eval o X.env) = eval o X.env := by rfl)
    (hfew : ((backTo cpos (starEach (e :: es) X.env)).all (fun x => !x.1) && (backToKw cpos (keywordEach [] X.env)).all (fun x => x.1.isSome)
      && decide ((e :: es).length + ([] : List Keyword).length + (if ([] : List Keyword).isEmpty then 0 else 1) < 30)) = true := by rfl)
    (hline : (apos.endLine == cpos.line) = true := by rfl) (hs : starEach (e :: es) X.env = (false, eval e X.env) :: starEach es X.env := by rfl) (hplain : (backTo cpos (starEach es X.env)).any (·.1) = false := by rfl) :
    PE X (.Call (.Attribute o name apos) (e :: es) [] cpos) (tBM X.K T r to t) := by
  intro pins s σ H Q I h
  refine wpAny_Call_method_late hbase hfew hline rfl (thn (ho pins s σ H _ I h) fun v s1 ⟨x, H1, I1, r1, ty, q1⟩ => ?_)
  obtain ⟨h1, h2⟩ := tyV_is I1 r1 ty
  refine ⟨T, id, pa, slot, hty, h1, h2, ?_⟩
  have hA := ha cpos pins s1 σ H1 _ I1 q1
  rw [hs] at hA ⊢
  refine Calls.callWith_builtin (by show (false || (backTo cpos (starEach es X.env)).any (·.1)) = false; rw [hplain] <;> rfl) (Calls.evalArgs_plain ?_)
  exact thn hA fun us s2 ⟨vs, H2, I2, r2, q2⟩ => hm pins s2 σ H2 x vs v us Q I2 r1 r2 q2
/- xs.append(e), list.index on a module's tuple .. are MtR facts of 06m -/
end
end L2

namespace L2
open PySem PySem.Spec PyProof.Rows

def MtM (X : Cx) (id : String) (r : V → List V → Hp → VK → Prop) : Prop :=
  ∀ (pins : List (Addr × Obj)) (s : Shared) (σ : St) (H : Hp) (x : V) (xs : List V) (v : Value) (us : List Value) (Q : VK), Inv X pins σ H s → RelV x v → Vals xs us → r x xs H Q →
    wpAny (model X.prog X.w) X.A (call (.builtin id) (v :: us)) (EP X pins σ Q) X.xe s

/-! ### lists of values -/
theorem Vals.one : ∀ {x : V} {us : List Value}, Vals [x] us → ∃ u, us = [u] ∧ RelV x u
  | _, _, .cons r .nil => ⟨_, rfl, r⟩
theorem Vals.two : ∀ {x y : V} {us : List Value}, Vals [x, y] us → ∃ u v, us = [u, v] ∧ RelV x u ∧ RelV y v
  | _, _, _, .cons r (.cons q .nil) => ⟨_, _, rfl, r, q⟩
theorem Vals.zero : ∀ {us : List Value}, Vals [] us → us = []
  | _, .nil => rfl
theorem Vals.dropLast {xs : List V} {us : List Value} (h : Vals xs us) : Vals xs.dropLast us.dropLast := by
  induction h with
  | nil => exact .nil
  | cons r t ih =>
    cases t with
    | nil => exact .nil
    | cons q t' => exact .cons r ih
theorem Vals.eraseIdx : ∀ {xs : List V} {us : List Value} (i : Nat), Vals xs us → Vals (xs.eraseIdx i) (us.eraseIdx i)
  | _, _, _, .nil => .nil
  | _, _, 0, .cons _ t => t
  | _, _, i + 1, .cons r t => .cons r (Vals.eraseIdx i t)
theorem Vals.reverse {xs : List V} {us : List Value} (h : Vals xs us) : Vals xs.reverse us.reverse := by
  induction h with
  | nil => exact .nil
  | cons r t ih => rw [List.reverse_cons, List.reverse_cons]; exact Vals.append ih (.cons r .nil)
theorem Vals.rep {xs : List V} {us : List Value} (h : Vals xs us) : ∀ k : Nat, Vals (List.replicate k xs).flatten (List.replicate k us).flatten
  | 0 => .nil
  | k + 1 => by
    rw [List.replicate_succ, List.replicate_succ, List.flatten_cons, List.flatten_cons]
    exact Vals.append h (Vals.rep h k)
theorem erase_last {α : Type} (l : List α) : l.eraseIdx (l.length - 1) = l.dropLast := by
  induction l with
  | nil => rfl
  | cons a r ih =>
    cases r with
    | nil => rfl
    | cons b r =>
      have e : (a :: b :: r).length - 1 = ((b :: r).length - 1) + 1 := by
        have h1 : (a :: b :: r).length = r.length + 2 := rfl
        have h2 : (b :: r).length = r.length + 1 := rfl
        omega
      rw [e, List.eraseIdx_cons_succ, ih]
      all_goals rfl
theorem foldl_rep (its : List Value) : ∀ (k : Nat) (acc : List Value),
    List.foldl (fun x1 x2 => x1 ++ x2) acc.toArray (List.replicate k its.toArray) = (acc ++ (List.replicate k its).flatten).toArray
  | 0, acc => by simp
  | k + 1, acc => by
    have e : acc.toArray ++ its.toArray = (acc ++ its).toArray := by simp
    have e2 : (acc ++ its) ++ (List.replicate k its).flatten = acc ++ (List.replicate (k + 1) its).flatten := by
      rw [List.replicate_succ, List.flatten_cons, List.append_assoc]
    rw [← e2, ← foldl_rep its k (acc ++ its), ← e, List.replicate_succ, List.foldl_cons]

section
variable {X : Cx} {pins : List (Addr × Obj)} {σ : St} {H : Hp} {s : Shared} {l b : Addr} {xs ys zs : List V}

/-! ### the two steps: a tracked list is rewritten, a new list is laid -/
theorem Inv.lset {its its' : List Value} {n : Nat} {f : Array Value → Array Value} {t' : Nat} (I : Inv X pins σ H s) (hH : H l = some (.lst xs))
    (e : s.heap.get? l = some { cls := .type "list", data := .seq its.toArray n }) (hf : f its.toArray = its'.toArray) (hv : Vals ys its') (hz : ys.length ≤ sizeLine) :
    Inv X pins σ (upd H l (.lst ys)) { s with heap := s.heap.update l (Obj.mapSeq f), toks := t' } := by
  have q := PySem.IsL.update e f
  rw [hf] at q
  refine I.write (x := l) (e := l) (by rw [hH]; exact trivial) (.inl rfl) (fun b' u hb hu => (Heap.get?_update_other s.heap (Obj.mapSeq f) (Ne.symm hb)).trans hu) ⟨_, q⟩ ?_
  exact ⟨hz, its', _, hv, q⟩
theorem Inv.lnew {its : List Value} {t' : Nat} (I : Inv X pins σ H s) (hv : Vals ys its) (hz : ys.length ≤ sizeLine) :
    Inv X pins σ (upd H s.heap.objs.size (.lst ys)) { s with heap := s.heap.push { cls := .type "list", data := .seq its.toArray }, toks := t' } :=
  I.laid (fun _ _ q => Heap.get?_push_of_some _ q) (Nat.le_refl _) ⟨hz, its, 0, hv, Heap.get?_push_size _ rfl⟩
theorem Inv.fresh (I : Inv X pins σ H s) : H s.heap.objs.size = none := I.hok.fresh (Nat.le_refl _)
theorem Inv.lstM (I : Inv X pins σ H s) (hH : H l = some (.lst xs)) : xs.length ≤ sizeLine ∧ ∃ (its : List Value) (n : Nat), Vals xs its ∧ xs.length = its.length ∧ s.heap.get? l = some { cls := .type "list", data := .seq its.toArray n } := by
  obtain ⟨z, its, n, r, e⟩ := I.hok l _ hH
  exact ⟨z, its, n, r, r.length, e⟩

theorem notLongL {n : Nat} (h : n ≤ sizeLine) : Builtin.List.listTooLong n = false := by
  unfold Builtin.List.listTooLong
  exact decide_eq_false (by omega)
end

section
variable {X : Cx}

/-! ### methods -/
def rAppend : V → List V → Hp → VK → Prop := fun x vs H Q => ∃ l xs y, x = .ref l ∧ vs = [y] ∧ H l = some (.lst xs) ∧ xs.length < sizeLine ∧ Q .non (upd H l (.lst (xs ++ [y])))
theorem mt_append : MtM X "list.append" rAppend := by
  intro pins s σ H x vs v us Q I rx rv h
  obtain ⟨l, xs, y, rfl, rfl, hH, hz, q⟩ := h
  cases rx
  obtain ⟨u, rfl, ru⟩ := rv.one
  obtain ⟨z, its, n, r, hl, e⟩ := I.lstM hH
  refine call_meets F.slot_list_append ⟨_, e, rfl⟩ F.entry_list_append (F.args_list_append_2 _ _) (PySem.list_append l its.toArray n u (by rw [List.size_toArray]; omega)) ⟨e, ?_⟩
  refine ⟨.non, _, I.lset (its' := its ++ [u]) hH e (by simp) (r.append (.cons ru .nil)) ?_, rfl, q⟩
  rw [List.length_append, List.length_singleton]
  omega

def rExtend : V → List V → Hp → VK → Prop := fun x vs H Q => ∃ l b xs zs, x = .ref l ∧ vs = [.ref b] ∧ H l = some (.lst xs) ∧ H b = some (.lst zs) ∧ xs.length + zs.length ≤ sizeLine ∧ Q .non (upd H l (.lst (xs ++ zs)))
theorem mt_extend : MtM X "list.extend" rExtend := by
  intro pins s σ H x vs v us Q I rx rv h
  obtain ⟨l, b, xs, zs, rfl, rfl, hH, hB, hz, q⟩ := h
  cases rx
  obtain ⟨u, rfl, ru⟩ := rv.one
  cases ru
  obtain ⟨z, its, n, r, hl, e⟩ := I.lstM hH
  obtain ⟨z2, its2, n2, r2, hl2, e2⟩ := I.lstM hB
  have hsz : its.toArray.size + its2.toArray.size ≤ sizeLine := by rw [List.size_toArray, List.size_toArray]; omega
  have hlong : ¬ (!its.toArray.isEmpty && Builtin.List.listTooLong (its.toArray.size + its2.toArray.size)) = true := by
    rw [notLongL hsz, Bool.and_false]
    exact Bool.false_ne_true
  refine call_meets F.slot_list_extend ⟨_, e, rfl⟩ F.entry_list_extend (F.args_list_extend_2 _ _)
    (AutoSeq1.list_extend_list_list_0 l its.toArray n b its2.toArray n2 hlong (by rw [List.size_toArray]; omega) (by omega)) ⟨e, e2, ?_⟩
  refine ⟨.non, _, I.lset (its' := its ++ its2) hH e (by simp) (r.append r2) ?_, rfl, q⟩
  rw [List.length_append]
  omega

def rPop : V → List V → Hp → VK → Prop := fun x vs H Q => ∃ l xs y, x = .ref l ∧ vs = [] ∧ H l = some (.lst xs) ∧ xs[xs.length - 1]? = some y ∧ Q y (upd H l (.lst xs.dropLast))
theorem mt_pop : MtM X "list.pop" rPop := by
  intro pins s σ H x vs v us Q I rx rv h
  obtain ⟨l, xs, y, rfl, rfl, hH, hy, q⟩ := h
  cases rx
  have hus := rv.zero
  subst hus
  obtain ⟨z, its, n, r, hl, e⟩ := I.lstM hH
  obtain ⟨u, hu, ru⟩ := r.get hy
  have hy' : its.toArray[its.toArray.size - 1]? = some u := by
    show its.toArray[its.length - 1]? = some u
    rw [← Array.getElem?_toList, ← hl]
    exact hu
  refine call_meets F.slot_list_pop ⟨_, e, rfl⟩ F.entry_list_pop (F.args_list_pop_1 _) (MeetsSeq.list_pop_last l its.toArray n u hy' (by rw [List.size_toArray]; omega)) ⟨e, ?_⟩
  refine ⟨y, _, I.lset (its' := its.dropLast) hH e ?_ r.dropLast ?_, ru, q⟩
  · show its.toArray.eraseIdxIfInBounds (its.toArray.size - 1) = its.dropLast.toArray
    rw [List.size_toArray, List.eraseIdxIfInBounds_toArray, erase_last]
  · rw [List.length_dropLast]
    omega

def rPopAt : V → List V → Hp → VK → Prop := fun x vs H Q => ∃ l xs i k y, x = .ref l ∧ vs = [.int i] ∧ H l = some (.lst xs) ∧ -(2 ^ 63) ≤ i ∧ i < 2 ^ 63 ∧ seqIndex? i xs.length = some k ∧ xs[k]? = some y ∧ Q y (upd H l (.lst (xs.eraseIdx k)))

def rReverse : V → List V → Hp → VK → Prop := fun x vs H Q => ∃ l xs, x = .ref l ∧ vs = [] ∧ H l = some (.lst xs) ∧ Q .non (upd H l (.lst xs.reverse))

def rClear : V → List V → Hp → VK → Prop := fun x vs H Q => ∃ l xs, x = .ref l ∧ vs = [] ∧ H l = some (.lst xs) ∧ Q .non (upd H l (.lst []))

/-! ### list + list, list += list, list * int -/
def rCat : R2 := fun x y H Q => ∃ l b xs zs, x = .ref l ∧ y = .ref b ∧ H l = some (.lst xs) ∧ H b = some (.lst zs) ∧ xs.length + zs.length ≤ sizeLine ∧ ∀ p, H p = none → Q (.ref p) (upd H p (.lst (xs ++ zs)))
theorem op_cat : OpR X (binaryOp .Add) rCat := by
  intro pins s σ H x y v u Q I rx ry h
  obtain ⟨l, b, xs, zs, rfl, rfl, hH, hB, hz, q⟩ := h
  cases rx
  cases ry
  obtain ⟨z, its, n, r, hl, e⟩ := I.lstM hH
  obtain ⟨z2, its2, n2, r2, hl2, e2⟩ := I.lstM hB
  refine PySem.P.add_list e e2 ?_ (by rw [List.size_toArray, List.size_toArray]; omega)
  have ea : its.toArray ++ its2.toArray = (its ++ its2).toArray := by simp
  rw [ea]
  exact ⟨.ref _, _, I.lnew (t' := s.toks) (r.append r2) (by rw [List.length_append]; omega), rfl, q _ I.fresh⟩
/-- a list times an int (a negative one is nothing) -/
def rRep : R2 := fun x y H Q => ∃ l k xs, x = .ref l ∧ y = .int k ∧ H l = some (.lst xs) ∧ -(2 ^ 63) ≤ k ∧ k < 2 ^ 63 ∧ xs.length * k.toNat ≤ sizeLine ∧
  ∀ p, H p = none → Q (.ref p) (upd H p (.lst (List.replicate k.toNat xs).flatten))
theorem len_rep {α : Type} (xs : List α) (k : Nat) : (List.replicate k xs).flatten.length = k * xs.length := by
  induction k with
  | zero => simp
  | succ k ih => rw [List.replicate_succ, List.flatten_cons, List.length_append, ih, Nat.succ_mul, Nat.add_comm]
theorem op_rep : OpR X (binaryOp .Mult) rRep := by
  intro pins s σ H x y v u Q I rx ry h
  obtain ⟨l, k, xs, rfl, rfl, hH, h1, h2, hz, q⟩ := h
  cases rx
  obtain ⟨t, rfl⟩ := ry
  obtain ⟨z, its, n, r, hl, e⟩ := I.lstM hH
  have hlen : its.toArray.size * k.toNat ≤ sizeLine := by rw [List.size_toArray, ← hl]; exact hz
  have hcap : ¬ its.toArray.size * k.toNat > (2 ^ 63 - 1) / 8 := by
    have : (sizeLine : Nat) ≤ (2 ^ 63 - 1) / 8 := by decide
    omega
  have hfit : ¬ (!Builtin.List.listFitsIndex k) = true := by
    rw [fitsIndex_both h1 h2]
    exact Bool.false_ne_true
  have hlong : ¬ Builtin.List.listTooLong (its.toArray.size * k.toNat) = true := by
    rw [notLongL hlen]
    exact Bool.false_ne_true
  have hnew : List.foldl (fun x1 x2 => x1 ++ x2) #[] (List.replicate (if its.toArray.isEmpty = true then 0 else k.toNat) its.toArray) = (List.replicate k.toNat its).flatten.toArray := by
    have f0 : ∀ m : Nat, List.foldl (fun x1 x2 => x1 ++ x2) #[] (List.replicate m its.toArray) = (List.replicate m its).flatten.toArray := fun m => by
      have := foldl_rep its m []
      rw [List.nil_append] at this
      exact this
    rw [f0]
    cases its with
    | nil => simp
    | cons a r' => rw [if_neg (by simp)]
  refine wpAny_binaryOp_repeat_ref (T := "list") (U := "int") (by decide) ⟨_, e, rfl⟩ (fun s' => typeIs_int s' k t) noFill_list_mul F.fills_int_mul F.slot_int_rmul repeat_list F.slot_int_index.lookup
    (call_meets F.slot_int_rmul (typeIs_int s k t) F.entry_int_rmul (F.args_int_rmul_2 _ _) (int___rmul___int_list k t l its.toArray n)
      ⟨e, rfl, ⟨_, e, rfl⟩, call_meets F.slot_list_mul ⟨_, e, rfl⟩ F.entry_list_mul (F.args_list_mul_2 _ _) (AutoListH.list___mul___list_int_3 l its.toArray n k t hfit hcap hlong) ⟨e, ?_⟩⟩)
  rw [hnew]
  exact ⟨.ref _, _, I.lnew (t' := s.toks) (r.rep k.toNat) (by rw [len_rep, Nat.mul_comm]; exact hz), rfl, q _ I.fresh⟩

/-! ### del xs[i] -/
end

/-! ### xs[a:b] = ys -/
section
variable {prog : Program} {w : World} {A : Around} {E : Value → Shared → Prop} {s : Shared}
theorem bounds_run {a c n : Nat} (hac : a ≤ c) (hc : c ≤ n) : sliceBounds (some (a : Int)) (some (c : Int)) none n = ((a : Int), (c : Int), 1) := by
  simp only [sliceBounds, Option.getD_none]
  have h1 : ¬ ((a : Int) < 0) := by omega
  have h2 : ¬ ((c : Int) < 0) := by omega
  simp only [h1, h2, if_false, show (1 : Int) > 0 by decide, if_true]
  congr 1
  · omega
  · congr 1; omega
set_option maxRecDepth 100000 in
end

section
variable {X : Cx}
end
end L2

namespace L2
open PySem PySem.Spec PyProof.Rows

theorem Vals.ints : ∀ {ns : List Int} {us : List Value}, Vals (ns.map V.int) us → IntsAre us ns
  | [], us, h => by
    rw [List.map_nil] at h
    cases h
    exact IntsAre.nil
  | n :: ns, us, h => by
    rw [List.map_cons] at h
    cases h with
    | cons r t =>
      obtain ⟨k, rfl⟩ := r
      exact IntsAre.cons n k (Vals.ints t)
theorem vals_of_ints : ∀ {us : List Value} {ns : List Int}, IntsAre us ns → Vals (ns.map V.int) us
  | _, _, .nil => by rw [List.map_nil]; exact Paired.nil
  | _, _, .cons n t h => by rw [List.map_cons]; exact Paired.cons (show RelV (V.int n) (Value.int n t) from ⟨t, rfl⟩) (vals_of_ints h)
theorem Vals.strs : ∀ {xs : List Str} {us : List Value}, Vals (xs.map V.str) us → StrsAre us xs
  | [], us, h => by
    rw [List.map_nil] at h
    cases h
    exact StrsAre.nil
  | x :: xs, us, h => by
    rw [List.map_cons] at h
    cases h with
    | cons r t =>
      obtain ⟨k, rfl⟩ := r
      exact StrsAre.cons x k (Vals.strs t)
theorem Vals.bls : ∀ {bs : List Bool} {us : List Value}, Vals (bs.map V.bl) us → us = bs.map Value.bool
  | [], us, h => by
    rw [List.map_nil] at h
    cases h
    rfl
  | b :: bs, us, h => by
    rw [List.map_cons] at h
    cases h with
    | cons r t =>
      cases r
      rw [Vals.bls t, List.map_cons]
theorem Vals.ref1 {a : Addr} {us : List Value} (r : Vals [V.ref a] us) : us = [Value.ref a] := by
  cases r with
  | cons r t =>
    cases t
    cases r
    rfl

/-! ### the library's walks over a list of ints, kept objects alone -/
section
variable {prog : Program} {w : World} {A : Around} {E : Value → Shared → Prop} {s : Shared} {l : Addr} {its : List Value} {ns : List Int} {Q : Value → Shared → Prop}
theorem sum_raw (hh : A.handled = none) (hl : s.heap.IsList l its.toArray) (hi : IntsAre its ns)
    (h : ∀ h' tk t', (∀ b o, s.heap.get? b = some o → h'.get? b = some o) → Q (.int ns.sum t') { s with heap := h', toks := tk }) : wpAny (model prog w) A (call (.builtin "sum") [.ref l]) Q E s := by
  obtain ⟨xs, e⟩ := hi.allInts.items
  have hn : numsOf (intItems xs).toList = ns := by rw [← e]; exact hi.numsOf
  rw [nums_intItems] at hn
  rw [e] at hl
  refine PySem.sum_intListG hh hl fun h' tk t' hk => ?_
  have := h h' tk t' hk
  rw [preSum_eq, List.take_of_length_le (by simp), hn]; exact this
end

/-! ### the calls, by values (CallR of 03t; MtR of 06l) -/
section
variable {X : Cx}
/-- sum(xs) of a list of ints -/
def rSum (K : PySem.W.Frag) : List V → Hp → VK → Prop := fun vs H Q => ∃ (a : Addr) (ns : List Int), vs = [V.ref a] ∧ SqL K H a (ns.map V.int) ∧ Q (.int ns.sum) H
/-- max(xs), min(xs) of a list of ints -/
def rMax (K : PySem.W.Frag) : List V → Hp → VK → Prop := fun vs H Q => ∃ (a : Addr) (ns : List Int), vs = [V.ref a] ∧ SqL K H a (ns.map V.int) ∧ 0 < ns.length ∧ ∀ m, m ∈ ns → (∀ y, y ∈ ns → y ≤ m) → Q (.int m) H
def rMin (K : PySem.W.Frag) : List V → Hp → VK → Prop := fun vs H Q => ∃ (a : Addr) (ns : List Int), vs = [V.ref a] ∧ SqL K H a (ns.map V.int) ∧ 0 < ns.length ∧ ∀ m, m ∈ ns → (∀ y, y ∈ ns → m ≤ y) → Q (.int m) H
theorem cr_sum (hc : X.calm = true) : CallR X (.builtin "sum") (rSum X.K) := by
  intro pins s σ H vs us Q I r h
  obtain ⟨a, ns, rfl, hs, q⟩ := h
  obtain ⟨its, rv, hl, _⟩ := I.list hs
  rw [Vals.ref1 r]
  exact sum_raw (I.ok.hd hc) hl.isList rv.ints fun h' tk t' hk => ⟨.int _, H, I.kept hk, ⟨_, rfl⟩, q⟩

/-! sorted, sort (fewer than 64 items: the library's own bound) -/
def rSorted (K : PySem.W.Frag) : List V → Hp → VK → Prop := fun vs H Q => ∃ (a : Addr) (ns : List Int), vs = [V.ref a] ∧ SqL K H a (ns.map V.int) ∧ ns.length < 64 ∧
  ∀ (ns' : List Int) (p : Addr), ns'.Perm ns → ns'.Pairwise (· ≤ ·) → H p = none → Q (.ref p) (upd H p (.lst (ns'.map V.int)))
def rSortedS (K : PySem.W.Frag) : List V → Hp → VK → Prop := fun vs H Q => ∃ (a : Addr) (xs : List Str), vs = [V.ref a] ∧ SqL K H a (xs.map V.str) ∧ xs.length < 64 ∧
  ∀ (ys : List Str) (p : Addr), ys.Perm xs → sortedS ys = true → H p = none → Q (.ref p) (upd H p (.lst (ys.map V.str)))
/-- xs.sort(), ints -/
def rSort : V → List V → Hp → VK → Prop := fun x xs H Q => ∃ (a : Addr) (ns : List Int), x = V.ref a ∧ xs = [] ∧ H a = some (.lst (ns.map V.int)) ∧ ns.length < 64 ∧
  ∀ ns' : List Int, ns'.Perm ns → ns'.Pairwise (· ≤ ·) → Q .non (upd H a (.lst (ns'.map V.int)))
end

/-! ### list.index, flat items -/
section
variable {X : Cx}
def rIndex (K : PySem.W.Frag) : V → List V → Hp → VK → Prop := fun x xs H Q => ∃ (a : Addr) (ys : List V) (y : V) (j : Nat) (z : V), x = V.ref a ∧ xs = [y] ∧ SqL K H a ys ∧ flatV y = true ∧ ys.all flatV = true ∧ ys[j]? = some z ∧ eqV z y = true ∧
  (∀ (m : Nat) (z' : V), m < j → ys[m]? = some z' → eqV z' y = false) ∧ Q (.int (j : Nat)) H
end

/-! ### type(x) of an own instance; is, is not of a module's class -/
section
variable {X : Cx}
end

/-! ### any(xs), all(xs) of a list of bools -/
theorem iter_any {prog : Program} {w : World} {A : Around} {E : Value → Shared → Prop} {s : Shared} {l : Addr} {items : Array Value} {Q : Value → Shared → Prop} (hl : s.heap.IsList l items)
    (h : ∀ s₂ : Shared, s₂ = { s with heap := s.heap.push { cls := .type "list_iterator", data := .fields #[.ref l, .int 0 0] } } →
      (s₂.heap.IsListIter s.heap.objs.size l 0 ∧ s₂.heap.IsList l items) → l ≠ s.heap.objs.size → Q (.ref s.heap.objs.size) s₂) : wpAny (model prog w) A (pyIter (.ref l)) Q E s := by
  have hlt : l < s.heap.objs.size := by obtain ⟨_, e, _⟩ := hl; exact Heap.lt_size e
  exact wpAny_pyIter_list hl (h _ rfl ⟨⟨_, Heap.get?_push_size _ rfl, rfl, rfl⟩, hl.push _⟩ (Nat.ne_of_lt hlt))
theorem truth_bools {prog : Program} {w : World} {A : Around} {bs : List Bool} {its : List Value} (e : its = bs.map Value.bool) :
    TruthOf prog w A (fun i v => its.toArray[i]? = some v) (fun i => bs.getD i false) := fun i v s Q E hv hq => by
  have hv' : its[i]? = some v := by simpa using hv
  rw [e, List.getElem?_map] at hv'
  obtain ⟨b, hb, rfl⟩ := Option.map_eq_some_iff.mp hv'
  have hg : bs.getD i false = b := by rw [List.getD_eq_getElem?_getD, hb] <;> rfl
  have hq' : Q (bs.getD i false) s := hq
  rw [hg] at hq'
  exact wpAny_truthy_bool hq'
theorem any_range : ∀ bs : List Bool, (List.range bs.length).any (fun i => bs.getD i false) = bs.any id
  | [] => rfl
  | b :: bs => by
    rw [List.length_cons, List.range_succ_eq_map, List.any_cons, List.any_map, List.any_cons, ← any_range bs]
    all_goals rfl
theorem all_range : ∀ bs : List Bool, (List.range bs.length).all (fun i => bs.getD i false) = bs.all id
  | [] => rfl
  | b :: bs => by
    rw [List.length_cons, List.range_succ_eq_map, List.all_cons, List.all_map, List.all_cons, ← all_range bs]
    all_goals rfl
section
variable {X : Cx}
def rAny (K : PySem.W.Frag) : List V → Hp → VK → Prop := fun vs H Q => ∃ (a : Addr) (bs : List Bool), vs = [V.ref a] ∧ SqL K H a (bs.map V.bl) ∧ Q (.bl (bs.any id)) H
def rAll (K : PySem.W.Frag) : List V → Hp → VK → Prop := fun vs H Q => ∃ (a : Addr) (bs : List Bool), vs = [V.ref a] ∧ SqL K H a (bs.map V.bl) ∧ Q (.bl (bs.all id)) H
theorem cr_any (hc : X.calm = true) : CallR X (.builtin "any") (rAny X.K) := by
  intro pins s σ H vs us Q I r h
  obtain ⟨a, bs, rfl, hs, q⟩ := h
  obtain ⟨its, rv, hl, _⟩ := I.list hs
  rw [Vals.ref1 r]
  have hb := rv.bls
  refine call_any_walk (iter_any hl.isList fun s₂ e2 st hne => ?_)
  subst e2
  refine ⟨_, _, _, _, _, _, _, rfl, Walks.list (A := X.A.in1) (I.ok.hd hc) _ a hne its.toArray, st, truth_bools hb, fun h' tk hk => ?_⟩
  refine ⟨.bl _, H, I.kept fun b o eo => hk b o (fun hmem => ?_) (Heap.get?_push_of_some _ eo), ?_, q⟩
  · rcases List.mem_cons.mp hmem with e1 | hmem
    · exact absurd (e1 ▸ Heap.lt_size eo) (Nat.lt_irrefl _)
    · cases hmem
  · show Value.bool _ = Value.bool _
    rw [← any_range, hb, List.size_toArray, List.length_map]
theorem cr_all (hc : X.calm = true) : CallR X (.builtin "all") (rAll X.K) := by
  intro pins s σ H vs us Q I r h
  obtain ⟨a, bs, rfl, hs, q⟩ := h
  obtain ⟨its, rv, hl, _⟩ := I.list hs
  rw [Vals.ref1 r]
  have hb := rv.bls
  refine call_all_walk (iter_any hl.isList fun s₂ e2 st hne => ?_)
  subst e2
  refine ⟨_, _, _, _, _, _, _, rfl, Walks.list (A := X.A.in1) (I.ok.hd hc) _ a hne its.toArray, st, truth_bools hb, fun h' tk hk => ?_⟩
  refine ⟨.bl _, H, I.kept fun b o eo => hk b o (fun hmem => ?_) (Heap.get?_push_of_some _ eo), ?_, q⟩
  · rcases List.mem_cons.mp hmem with e1 | hmem
    · exact absurd (e1 ▸ Heap.lt_size eo) (Nat.lt_irrefl _)
    · cases hmem
  · show Value.bool _ = Value.bool _
    rw [← all_range, hb, List.size_toArray, List.length_map]
end

/-! ### == and != of data at any depth: none, bools, ints, texts, lists, tuples -/
mutual
inductive Dp (K : PySem.W.Frag) (H : Hp) : V → PyData → Prop
  | non : Dp K H .non .none
  | bl (b : Bool) : Dp K H (.bl b) (.bool b)
  | int (i : Int) : Dp K H (.int i) (.int i)
  | str (x : Str) : Dp K H (.str x) (.str x)
  | lst {a : Addr} {xs : List V} {ds : List PyData} : SqL K H a xs → DpAll K H xs ds → Dp K H (.ref a) (.list ds)
  | tup {a : Addr} {xs : List V} {ds : List PyData} : SqT K H a xs → DpAll K H xs ds → Dp K H (.ref a) (.tuple ds)
inductive DpAll (K : PySem.W.Frag) (H : Hp) : List V → List PyData → Prop
  | nil : DpAll K H [] []
  | cons {v : V} {vs : List V} {d : PyData} {ds : List PyData} : Dp K H v d → DpAll K H vs ds → DpAll K H (v :: vs) (d :: ds)
end
section
variable {X : Cx} {pins : List (Addr × Obj)} {σ : St} {H : Hp} {s : Shared}
mutual
theorem Dp.reads (I : Inv X pins σ H s) : ∀ (d : PyData) (v : V) (u : Value), Dp X.K H v d → RelV v u → ∃ as, Reads s.heap u d as
  | .none, _, _, h, r => by
    cases h
    cases r
    exact ⟨_, Reads.none⟩
  | .bool b, _, _, h, r => by
    cases h
    cases r
    exact ⟨_, Reads.bool b⟩
  | .int i, _, _, h, r => by
    cases h
    obtain ⟨t, rfl⟩ := r
    exact ⟨_, Reads.int i t⟩
  | .str x, _, _, h, r => by
    cases h
    obtain ⟨t, rfl⟩ := r
    exact ⟨_, Reads.str x t⟩
  | .list ds, _, _, h, r => by
    cases h with
    | lst hs ha =>
      cases r
      obtain ⟨its, rv, ⟨o, n, ho, hc, _, hd⟩, _⟩ := I.list hs
      obtain ⟨as, hr⟩ := Dp.readsAll I ds _ its ha rv
      exact ⟨_, Reads.list ho hc hd hr⟩
  | .tuple ds, _, _, h, r => by
    cases h with
    | tup hs ha =>
      cases r
      obtain ⟨its, rv, ⟨o, ho, hc, n, hd⟩, _⟩ := I.tuple hs
      obtain ⟨as, hr⟩ := Dp.readsAll I ds _ its ha rv
      exact ⟨_, Reads.tuple ho hc hd hr⟩
  | .dict _, _, _, h, _ => by cases h
theorem Dp.readsAll (I : Inv X pins σ H s) : ∀ (ds : List PyData) (vs : List V) (us : List Value), DpAll X.K H vs ds → Vals vs us → ∃ as, ReadsAll s.heap us ds as
  | [], _, _, h, r => by
    cases h
    cases r
    exact ⟨_, ReadsAll.nil⟩
  | d :: ds, _, _, h, r => by
    cases h with
    | cons h1 h2 =>
      cases r with
      | cons r1 r2 =>
        obtain ⟨as, q1⟩ := Dp.reads I d _ _ h1 r1
        obtain ⟨bs, q2⟩ := Dp.readsAll I ds _ _ h2 r2
        exact ⟨_, ReadsAll.cons q1 q2⟩
end
end
section
variable {X : Cx}
def rEqD (K : PySem.W.Frag) : R2 := fun x y H Q => ∃ d e, Dp K H x d ∧ Dp K H y e ∧ SeqAt.shaped d = true ∧ SeqAt.shaped e = true ∧ Q (.bl (PyData.eqv d e)) H
def rNeD (K : PySem.W.Frag) : R2 := fun x y H Q => ∃ d e, Dp K H x d ∧ Dp K H y e ∧ SeqAt.shaped d = true ∧ SeqAt.shaped e = true ∧ Q (.bl (!PyData.eqv d e)) H
theorem op_eqD (hu : X.A.units + 64 < cLine) : OpR X (compareOp .Eq) (rEqD X.K) := by
  intro pins s σ H x y v u Q I rx ry h
  obtain ⟨d, e, hd, he, sd, se, q⟩ := h
  obtain ⟨as, r1⟩ := Dp.reads I d x v hd rx
  obtain ⟨bs, r2⟩ := Dp.reads I e y u he ry
  exact SeqAt.compareEq_shaped r1 r2 sd se hu ⟨.bl _, H, I, rfl, q⟩
theorem op_neD (hu : X.A.units + 64 < cLine) : OpR X (compareOp .NotEq) (rNeD X.K) := by
  intro pins s σ H x y v u Q I rx ry h
  obtain ⟨d, e, hd, he, sd, se, q⟩ := h
  obtain ⟨as, r1⟩ := Dp.reads I d x v hd rx
  obtain ⟨bs, r2⟩ := Dp.reads I e y u he ry
  exact SeqAt.compareNe_shaped r1 r2 sd se hu ⟨.bl _, H, I, rfl, q⟩
end
end L2

namespace L2
open PySem PySem.Spec PyProof.Rows
abbrev CellAt (h : Heap) (c : Addr) (v : Option Value) : Prop := h.IsCell c v
def relS (scope sc : Scope) : Scope :=
  { scope with names := scope.names.map fun (n, k) => if (k == .free && sc.kind == .function && sc.names.lookup n == some .cell) then (n, .cell) else (n, k) }

def cloFrom (cells : List (Str × Addr)) : List (Str × NameKind) → List (Str × Addr) → List (Str × Addr)
  | [], acc => acc
  | (n, k) :: r, acc => if k == .free then cloFrom cells r ((n, (cells.lookup n).getD 0) :: acc) else cloFrom cells r acc

theorem closure_loop (env : Env) (f : Str × NameKind → List (Str × Addr) → Sem (ForInStep (List (Str × Addr))))
    (hf : ∀ n k c, f (n, k) c = if k == .free then (do let a ← cellOf env n; pure (.yield ((n, a) :: c))) else pure (.yield c)) :
    ∀ (names : List (Str × NameKind)) (acc : List (Str × Addr)), (∀ y ∈ names, y.2 = .free → ∃ c, env.cells.lookup y.1 = some c) → forIn names acc f = pure (cloFrom env.cells names acc)
  | [], acc, _ => by rw [List.forIn_nil]; rfl
  | (n, k) :: r, acc, h => by
    rw [List.forIn_cons, hf]
    have ih := fun acc => closure_loop env f hf r acc fun y hy => h y (List.mem_cons_of_mem _ hy)
    unfold cloFrom
    by_cases hk : (k == NameKind.free) = true
    · rw [if_pos hk, if_pos hk]
      obtain ⟨c, hc⟩ := h (n, k) List.mem_cons_self (by simpa using hk)
      have e : cellOf env n = pure c := by unfold cellOf; rw [hc]
      rw [e]
      have e2 : (env.cells.lookup n).getD 0 = c := by rw [hc]; rfl
      rw [e2]
      exact ih _
    · rw [if_neg hk, if_neg hk]
      exact ih _
theorem closure_ok {scope : Scope} {env : Env} (h : ∀ y ∈ scope.names, y.2 = .free → ∃ c, env.cells.lookup y.1 = some c) : closureFor scope env = pure (cloFrom env.cells scope.names []) := by
  simp only [closureFor]
  rw [closure_loop env _ (fun n k c => rfl) scope.names [] h]
  rfl

theorem mem_lookup {α : Type} : ∀ {l : List (Str × α)} {n : Str} {c : α}, (n, c) ∈ l → ∃ c', l.lookup n = some c'
  | (k, v) :: r, n, c, h => by
    rw [List.lookup_cons]
    cases hb : n == k with
    | true => exact ⟨_, rfl⟩
    | false =>
      rcases List.mem_cons.mp h with e | h
      · cases e; simp at hb
      · exact mem_lookup h

theorem cloFrom_mem {cells : List (Str × Addr)} : ∀ {names : List (Str × NameKind)} {acc : List (Str × Addr)} {n : Str} {c : Addr}, (n, c) ∈ cloFrom cells names acc → (n, c) ∈ acc ∨ ((n, .free) ∈ names ∧ c = (cells.lookup n).getD 0)
  | [], _, _, _, h => .inl h
  | (m, k) :: r, acc, n, c, h => by
    unfold cloFrom at h
    split at h
    · rename_i hk
      have hk : k = .free := by simpa using hk
      rcases cloFrom_mem h with h | ⟨h1, h2⟩
      · rcases List.mem_cons.mp h with e | h
        · cases e; exact .inr ⟨hk ▸ List.mem_cons_self, rfl⟩
        · exact .inl h
      · exact .inr ⟨List.mem_cons_of_mem _ h1, h2⟩
    · rcases cloFrom_mem h with h | ⟨h1, h2⟩
      · exact .inl h
      · exact .inr ⟨List.mem_cons_of_mem _ h1, h2⟩
theorem cloFrom_acc {cells : List (Str × Addr)} : ∀ {names : List (Str × NameKind)} {acc : List (Str × Addr)} {p : Str × Addr}, p ∈ acc → p ∈ cloFrom cells names acc
  | [], _, _, h => h
  | (m, k) :: r, acc, p, h => by
    unfold cloFrom
    split
    · exact cloFrom_acc (List.mem_cons_of_mem _ h)
    · exact cloFrom_acc h
theorem cloFrom_has {cells : List (Str × Addr)} : ∀ {names : List (Str × NameKind)} {acc : List (Str × Addr)} {n : Str}, (n, .free) ∈ names → (n, (cells.lookup n).getD 0) ∈ cloFrom cells names acc
  | (m, k) :: r, acc, n, h => by
    unfold cloFrom
    rcases List.mem_cons.mp h with e | h
    · cases e
      exact cloFrom_acc List.mem_cons_self
    · split
      · exact cloFrom_has h
      · exact cloFrom_has h

theorem cells_mem : ∀ {names : List (Str × NameKind)} {h : Heap} {acc : List (Str × Addr)} {x : Str} {c : Addr}, (x, c) ∈ cellsFrom h.objs.size names acc →
    (x, c) ∈ acc ∨ ((x, .cell) ∈ names ∧ h.objs.size ≤ c ∧ CellAt (pushCells h names) c none)
  | [], _, _, _, _, h => .inl h
  | (n, k) :: r, h, acc, x, c, hm => by
    unfold cellsFrom at hm
    unfold pushCells
    split at hm
    · rename_i hk
      rw [if_pos hk]
      have hk : k = .cell := by simpa using hk
      rw [← Heap.size_push h { cls := .type "cell", data := .cell none }] at hm
      rcases cells_mem hm with hm | ⟨h1, h2, h3⟩
      · rcases List.mem_cons.mp hm with e | hm
        · cases e
          exact .inr ⟨hk ▸ List.mem_cons_self, Nat.le_refl _, _, pushCells_keeps r _ _ _ (Heap.get?_push_size _ rfl), rfl⟩
        · exact .inl hm
      · rw [Heap.size_push] at h2
        exact .inr ⟨List.mem_cons_of_mem _ h1, Nat.le_of_succ_le h2, h3⟩
    · rename_i hk
      rw [if_neg hk]
      rcases cells_mem hm with hm | ⟨h1, h2, h3⟩
      · exact .inl hm
      · exact .inr ⟨List.mem_cons_of_mem _ h1, h2, h3⟩
theorem cells_acc : ∀ {names : List (Str × NameKind)} {n : Nat} {acc : List (Str × Addr)} {p : Str × Addr}, p ∈ acc → p ∈ cellsFrom n names acc
  | [], _, _, _, h => h
  | (m, k) :: r, n, acc, p, h => by
    unfold cellsFrom
    split
    · exact cells_acc (List.mem_cons_of_mem _ h)
    · exact cells_acc h
theorem cells_has : ∀ {names : List (Str × NameKind)} {n : Nat} {acc : List (Str × Addr)} {x : Str}, (x, .cell) ∈ names → ∃ c, (x, c) ∈ cellsFrom n names acc
  | (m, k) :: r, n, acc, x, h => by
    unfold cellsFrom
    rcases List.mem_cons.mp h with e | h
    · cases e
      exact ⟨n, cells_acc List.mem_cons_self⟩
    · split
      · exact cells_has h
      · exact cells_has h
theorem cells_inj : ∀ {names : List (Str × NameKind)} {h : Heap} {acc : List (Str × Addr)} {x y : Str} {c : Addr}, (∀ p ∈ acc, p.2 < h.objs.size) → (∀ x y c, (x, c) ∈ acc → (y, c) ∈ acc → x = y) →
    (x, c) ∈ cellsFrom h.objs.size names acc → (y, c) ∈ cellsFrom h.objs.size names acc → x = y
  | [], _, _, _, _, _, _, hi, h1, h2 => hi _ _ _ h1 h2
  | (n, k) :: r, h, acc, x, y, c, hl, hi, h1, h2 => by
    unfold cellsFrom at h1 h2
    split at h1
    · rename_i hk
      rw [if_pos hk] at h2
      rw [← Heap.size_push h { cls := .type "cell", data := .cell none }] at h1 h2
      refine cells_inj (h := h.push _) (fun p hp => ?_) (fun x y c a b => ?_) h1 h2
      · rw [Heap.size_push]
        rcases List.mem_cons.mp hp with rfl | hp
        · exact Nat.lt_succ_self _
        · exact Nat.lt_succ_of_lt (hl p hp)
      · rcases List.mem_cons.mp a with e | a <;> rcases List.mem_cons.mp b with e' | b
        · cases e; cases e'; rfl
        · cases e; exact absurd (hl _ b) (Nat.lt_irrefl _)
        · cases e'; exact absurd (hl _ a) (Nat.lt_irrefl _)
        · exact hi _ _ _ a b
    · rename_i hk
      rw [if_neg hk] at h2
      exact cells_inj hl hi h1 h2

theorem newEnv_comp {M : Model} {A : Around} {E : Value → Shared → Prop} {s : Shared} {scope : Scope} {globals : Addr} {closure : List (Str × Addr)} {qual : Str} {func : Option Addr} {code : Value} {around : Env} {builtins : Addr} {Q : Env → Shared → Prop}
    (h : Q (newEnv scope s.heap.objs.size globals (cellsFrom (s.heap.objs.size + 1) scope.names closure) qual func code (some around) builtins)
      { s with heap := pushCells (s.heap.push { cls := .type "dict", data := .dict #[] }) scope.names }) :
    wpAny M A (newFunctionEnv scope globals closure [] qual func code (some around) builtins) Q E s := by
  simp only [newFunctionEnv, Option.isSome_some, if_true]
  refine wpAny_bind (wpAny_alloc ?_)
  refine wpAny_bind (wpAny_layCells _ (fun n k c => rfl) scope.names closure _ _ ?_)
  rw [show ({ s with heap := s.heap.push { cls := .type "dict", data := .dict #[] } } : Shared).heap.objs.size = s.heap.objs.size + 1 from Heap.size_push ..]
  rw [List.forIn_nil]
  exact wpAny_bind (wpAny_pure (wpAny_pure h))

/-- every name of the written scope, in the scope that runs -/
theorem lookup_relS {sc : Scope} : ∀ {names : List (Str × NameKind)} {x : Str} {k : NameKind},
    (names.map fun (n, k) => if (k == NameKind.free && sc.kind == .function && sc.names.lookup n == some .cell) then (n, NameKind.cell) else (n, k)).lookup x = some k →
    ∃ k', names.lookup x = some k' ∧ (k = k' ∨ (k' = .free ∧ k = .cell))
  | [], _, _, h => by simp at h
  | (n, k₀) :: r, x, k, h => by
    have ih := @lookup_relS sc r x k
    have h' : List.lookup x ((if (k₀ == NameKind.free && sc.kind == .function && sc.names.lookup n == some .cell) = true then (n, NameKind.cell) else (n, k₀)) :: (r.map _)) = some k := h
    cases hx : x == n with
    | true =>
      simp only [List.lookup_cons, hx]
      by_cases hc : (k₀ == NameKind.free && sc.kind == .function && sc.names.lookup n == some .cell) = true
      · rw [if_pos hc] at h'
        simp only [List.lookup_cons, hx] at h'
        cases h'
        simp only [Bool.and_eq_true, beq_iff_eq] at hc
        exact ⟨k₀, rfl, .inr ⟨hc.1.1, rfl⟩⟩
      · rw [if_neg hc] at h'
        simp only [List.lookup_cons, hx] at h'
        cases h'
        exact ⟨_, rfl, .inl rfl⟩
    | false =>
      simp only [List.lookup_cons, hx]
      by_cases hc : (k₀ == NameKind.free && sc.kind == .function && sc.names.lookup n == some .cell) = true
      · rw [if_pos hc] at h'
        simp only [List.lookup_cons, hx] at h'
        exact ih h'
      · rw [if_neg hc] at h'
        simp only [List.lookup_cons, hx] at h'
        exact ih h'



/-- the names of a comprehension's block: its own (with their places in N), or captured -/
structure BlkOk (N : List Str) (sc scope : Scope) (own : List (Str × Nat)) : Prop where
  kind : scope.kind = .function
  uniq : ∀ y ∈ scope.names, scope.names.lookup y.1 = some y.2
  ix : ∀ p ∈ own, N[p.2]? = some p.1
  free : ∀ y ∈ scope.names, y.2 = .free → sc.names.lookup y.1 = some .cell ∨ sc.names.lookup y.1 = some .free
  own : ∀ y ∈ scope.names, y.2 = .local ∨ y.2 = .cell → y.1 ∈ own.map (·.1) ∨ y.1 ∉ N
/-- the slots of the block's own names forgotten -/
def wipe (σ : St) : List Nat → St
  | [] => σ
  | v :: vs => (wipe σ vs).set v none
theorem wipe_length (σ : St) : ∀ vs : List Nat, (wipe σ vs).length = σ.length
  | [] => rfl
  | v :: vs => by unfold wipe; rw [List.length_set, wipe_length σ vs]
theorem wipe_some {σ : St} {i : Nat} {x : V} : ∀ {vs : List Nat}, (wipe σ vs)[i]? = some (some x) → σ[i]? = some (some x) ∧ i ∉ vs
  | [], h => ⟨h, by simp⟩
  | v :: vs, h => by
    unfold wipe at h
    by_cases hi : v = i
    · subst hi
      by_cases hv : v < (wipe σ vs).length
      · rw [List.getElem?_set_self hv] at h; cases h
      · rw [List.getElem?_eq_none (by simpa using hv)] at h; cases h
    · rw [List.getElem?_set_ne hi] at h
      obtain ⟨h1, h2⟩ := wipe_some h
      exact ⟨h1, by simp only [List.mem_cons, not_or]; exact ⟨fun e => hi e.symm, h2⟩⟩

/-- the context of a block that starts at s, its iterator's objects at fp -/
abbrev Cx.blk (X : Cx) (s : Shared) (H : Hp) (scope : Scope) (cenv : Env) (fp : List Addr) : Cx := { X with s_0 := s, H_0 := H, env := cenv, outer := X.stack, ex := fp, fn := fun x => scope.names.lookup x == some .cell, pn := [], xe := fun _ _ => False }
section
variable {X : Cx} {pins : List (Addr × Obj)} {σ : St} {H : Hp} {s : Shared}
theorem block_start {scope : Scope} {own : List (Str × Nat)} {fp : List Addr} (I : Inv X pins σ H s) (ok : BlkOk X.N X.env.scope scope own) (hN : X.N.Nodup) (hfp : ∀ b ∈ fp, FpOk X pins H b ∧ b < s.heap.objs.size) :
    Inv (X.blk s H scope (compEnvC scope (cellsFrom (s.heap.objs.size + 1) scope.names (cloFrom X.env.cells scope.names [])) s.heap.objs.size X.env) fp) [] (wipe σ (own.map (·.2))) H { s with heap := pushCells (s.heap.push { cls := .type "dict", data := .dict #[] }) scope.names } := by
  have hfree : ∀ y ∈ scope.names, y.2 = .free → ∃ c, X.env.cells.lookup y.1 = some c := fun y hy e => by
    rcases ok.free y hy e with k | k
    · exact I.ok.has _ (.inl k)
    · exact I.ok.has _ (.inr k)
  generalize hcenv : compEnvC scope (cellsFrom (s.heap.objs.size + 1) scope.names (cloFrom X.env.cells scope.names [])) s.heap.objs.size X.env = cenv
  have kp : ∀ b o, s.heap.get? b = some o → (pushCells (s.heap.push { cls := .type "dict", data := .dict #[] }) scope.names).get? b = some o := fun b o e => pushCells_keeps _ _ _ _ (Heap.get?_push_of_some _ e)
  have hL : cenv.locals = s.heap.objs.size := by rw [← hcenv]; rfl
  have hcl : cenv.cells = cellsFrom (s.heap.objs.size + 1) scope.names (cloFrom X.env.cells scope.names []) := by rw [← hcenv]; rfl
  have hsc : cenv.scope = relS scope X.env.scope := by rw [← hcenv]; rfl
  rw [← Heap.size_push s.heap { cls := .type "dict", data := .dict #[] }] at hcl
  have cm : ∀ {y c}, (y, c) ∈ cloFrom X.env.cells scope.names [] → X.env.cells.lookup y = some c ∧ c < s.heap.objs.size := fun {y c} hm => by
    rcases cloFrom_mem hm with hm | ⟨h1, rfl⟩
    · cases hm
    · obtain ⟨c, hc⟩ := hfree _ h1 rfl
      rw [hc]
      obtain ⟨w, z⟩ := I.cell _ _ hc
      exact ⟨rfl, z.lt⟩
  have mem : ∀ {y c}, cenv.cells.lookup y = some c → (X.env.cells.lookup y = some c ∧ c < s.heap.objs.size) ∨ (s.heap.objs.size + 1 ≤ c ∧ CellAt (pushCells (s.heap.push { cls := .type "dict", data := .dict #[] }) scope.names) c none) := fun {y c} e => by
    rw [hcl] at e
    rcases cells_mem (PySem.mem_of_lookup e) with hm | ⟨_, h2, h3⟩
    · exact .inl (cm hm)
    · rw [Heap.size_push] at h2; exact .inr ⟨h2, h3⟩
  have look : ∀ {y}, scope.names.lookup y = some .free → ∃ c, cenv.cells.lookup y = some c ∧ X.env.cells.lookup y = some c := fun {y} hl => by
    have hy : (y, NameKind.free) ∈ scope.names := PySem.mem_of_lookup hl
    obtain ⟨c', e'⟩ := mem_lookup (cells_acc (names := scope.names) (n := (s.heap.push { cls := .type "dict", data := .dict #[] }).objs.size) (cloFrom_has (cells := X.env.cells) (acc := []) hy))
    rw [← hcl] at e'
    refine ⟨c', e', ?_⟩
    rw [hcl] at e'
    rcases cells_mem (PySem.mem_of_lookup e') with hm | ⟨h1, _, _⟩
    · exact (cm hm).1
    · have := ok.uniq _ h1
      rw [hl] at this; cases this
  have okB : (X.blk s H scope cenv fp).Ok := by
    refine ⟨I.ok.mod, by show cenv.scope.kind = _; rw [hsc]; exact ok.kind, by show cenv.globals = _; rw [← hcenv]; exact I.ok.glob, by show cenv.builtins = _; rw [← hcenv]; exact I.ok.blt, by show s.heap.objs.size ≤ cenv.locals; rw [hL]; exact Nat.le_refl _,
      fun y z c e1 e2 => ?_, fun y hy => ?_, fun y c z e => ?_, I.ok.hd, I.ok.frames, .inl rfl, fun b hb => ⟨?_, fun y c e z => ?_⟩, I.bs, Nat.le_trans I.ok.bsz I.sz, fun b o e hb => ?_, fun b hb z => ?_, I.stack, I.stkFree⟩
    · have e1 : cenv.cells.lookup y = some c := e1
      have e2 : cenv.cells.lookup z = some c := e2
      rw [hcl] at e1 e2
      refine cells_inj (fun p hp => ?_) (fun y z c a b => I.ok.inj y z c (cm a).1 (cm b).1) (PySem.mem_of_lookup e1) (PySem.mem_of_lookup e2)
      rw [Heap.size_push]
      exact Nat.lt_succ_of_lt (cm (y := p.1) (c := p.2) hp).2
    · show ∃ c, cenv.cells.lookup y = some c
      have key : ∀ k, cenv.kindOf y = some k → (k = .cell ∨ k = .free) → ∃ c, cenv.cells.lookup y = some c := fun k hk hk' => by
        unfold Env.kindOf at hk
        rw [hsc] at hk
        obtain ⟨k', e, r⟩ := lookup_relS hk
        have : k' = .cell ∨ k' = .free := by
          rcases r with rfl | ⟨rfl, _⟩
          · exact hk'
          · exact .inr rfl
        rcases this with rfl | rfl
        · obtain ⟨c, hm⟩ := cells_has (n := (s.heap.push { cls := .type "dict", data := .dict #[] }).objs.size) (acc := cloFrom X.env.cells scope.names []) (PySem.mem_of_lookup e)
          obtain ⟨c', e'⟩ := mem_lookup hm
          exact ⟨c', by rw [hcl]; exact e'⟩
        · obtain ⟨c, h1, _⟩ := look e
          exact ⟨c, h1⟩
      rcases hy with hy | hy
      · exact key _ hy (.inl rfl)
      · exact key _ hy (.inr rfl)
    · have z : (scope.names.lookup y == some NameKind.cell) = true := z
      have z : scope.names.lookup y = some .cell := by simpa using z
      have e : cenv.cells.lookup y = some c := e
      rw [hcl] at e
      rcases cells_mem (PySem.mem_of_lookup e) with hm | ⟨_, h2, _⟩
      · rcases cloFrom_mem hm with hm | ⟨h1, _⟩
        · cases hm
        · have q := ok.uniq _ h1
          rw [z] at q; cases q
      · rw [Heap.size_push] at h2
        exact Nat.le_of_succ_le h2
    · show b ≠ cenv.locals
      rw [hL]; exact Nat.ne_of_lt (hfp b hb).2
    · have e : cenv.cells.lookup y = some c := e
      rcases mem e with ⟨h1, _⟩ | ⟨h1, _⟩
      · exact (hfp b hb).1.2.2.2.2.1 y c h1 z
      · have h2 : s.heap.objs.size + 1 ≤ b := by rw [← z]; exact h1
        exact absurd (Nat.lt_of_lt_of_le (hfp b hb).2 (Nat.le_of_succ_le h2)) (Nat.lt_irrefl _)
    · rcases (hfp b hb).1.2.2.2.1 with z | z
      · exact I.ok.noex b o e z
      · exact absurd (Nat.lt_of_lt_of_le (Heap.lt_size e) (Nat.le_trans I.ok.bsz z)) (Nat.lt_irrefl _)
    · rcases List.mem_cons.mp (I.stkSub b z) with z | z
      · exact (hfp b hb).1.2.1 z
      · exact (hfp b hb).1.2.2.1 z
  refine ⟨okB, rfl, I.bare, Un.kept kp, ⟨fun _ => none, ?_, fun i y av e1 e2 e3 => ?_⟩, fun y c e => ?_, ?_, fun y c e => ?_, fun p hp => ?_, I.hok.kept kp, by rw [wipe_length]; exact I.len⟩
  · show Heap.Ns _ cenv.locals _
    rw [hL]
    exact Heap.Ns.keeps (Heap.Ns.new ..) fun b o e => pushCells_keeps _ _ _ _ e
  · obtain ⟨e2, hne⟩ := wipe_some e2
    have hfr : scope.names.lookup y = some .free ∧ (cenv.kindOf y = some .cell ∨ cenv.kindOf y = some .free) := by
      have key : ∀ k, cenv.scope.names.lookup y = some k → k = .local ∨ k = .cell ∨ k = .free → scope.names.lookup y = some .free ∧ (cenv.kindOf y = some .cell ∨ cenv.kindOf y = some .free) := fun k hk hk' => by
        have hk0 := hk
        rw [hsc] at hk
        obtain ⟨k', e, r⟩ := lookup_relS hk
        have no : ¬ (k' = .local ∨ k' = .cell) := fun hh => by
          rcases ok.own _ (PySem.mem_of_lookup e) hh with e' | e'
          · obtain ⟨p, hp, hpy⟩ := List.mem_map.mp e'
            have e3 := ok.ix p hp
            have : p.1 = y := hpy
            rw [this] at e3
            exact hne (List.mem_map.mpr ⟨p, hp, nodup_ix hN e3 e1⟩)
          · exact e' (List.mem_of_getElem? e1)
        rcases r with rfl | ⟨rfl, rfl⟩
        · rcases hk' with rfl | rfl | rfl
          · exact absurd (.inl rfl) no
          · exact absurd (.inr rfl) no
          · exact ⟨e, .inr hk0⟩
        · exact ⟨e, .inl hk0⟩
      have e3 : Vis cenv.scope y := e3
      rcases e3 with e3 | e3 | e3
      · exact key _ e3 (.inl rfl)
      · exact key _ e3 (.inr (.inl rfl))
      · exact key _ e3 (.inr (.inr rfl))
    obtain ⟨m, hn, hl⟩ := I.loc
    have hvis : Vis X.env.scope y := (ok.free _ (PySem.mem_of_lookup hfr.1) rfl).elim (fun k => .inr (.inl k)) (fun k => .inr (.inr k))
    obtain ⟨w, r, q⟩ := hl i y av e1 e2 hvis
    refine ⟨w, r, .inr ⟨hfr.2, ?_⟩⟩
    obtain ⟨c, h1, h2⟩ := look hfr.1
    rcases q with ⟨k, _⟩ | ⟨_, c', e', z⟩
    · have k : X.env.scope.names.lookup y = some .local := k
      rcases ok.free _ (PySem.mem_of_lookup hfr.1) rfl with k' | k' <;> rw [show X.env.scope.names.lookup y = _ from k'] at k <;> cases k
    · rw [h2] at e'; cases e'
      exact ⟨c, h1, z.keeps kp⟩
  · have e : cenv.cells.lookup y = some c := e
    rcases mem e with ⟨h1, _⟩ | ⟨_, z⟩
    · obtain ⟨w, z⟩ := I.cell y c h1
      exact ⟨w, z.keeps kp⟩
    · exact ⟨_, z⟩
  · show H cenv.locals = none
    rw [hL]; exact I.hok.fresh (Nat.le_refl _)
  · have e : cenv.cells.lookup y = some c := e
    rcases mem e with ⟨h1, _⟩ | ⟨h1, _⟩
    · exact I.freeC y c h1
    · exact I.hok.fresh (Nat.le_of_succ_le h1)
  · exact absurd (show p ∈ ([] : List (Addr × Obj)) ++ [] from hp) (by simp)

/-- an item appended to a tracked list -/
theorem app_ok {E : Value → Shared → Prop} {D : Addr} {xs : List V} {y : V} {v : Value} {Q : Value → Shared → Prop} (I : Inv X pins σ H s) (hD : H D = some (.lst xs)) (hz : xs.length < sizeLine) (r : RelV y v)
    (h : ∀ s', Inv X pins σ (upd H D (.lst (xs ++ [y]))) s' → Q .none s') : wpAny (model X.prog X.w) X.A (call (.builtin "list.append") [.ref D, v]) Q E s := by
  obtain ⟨hz', its, n, ri, e⟩ := I.hok D _ hD
  have hl := ri.length
  refine append_at (hsz := by rw [List.size_toArray]; omega) e fun h' sb ho' => ?_
  refine h { s with heap := h' } (I.write (t' := s.toks) (by rw [hD]; trivial) (.inl rfl) (fun b u hb q => (sb.2 b hb).trans q) ⟨_, ho'⟩ ⟨by rw [List.length_append]; exact hz, its ++ [v], n + 1, ri.append (.cons r .nil), ?_⟩)
  rw [ho']
  simp

/-- a clause's tests -/
def PTs (X : Cx) (ifs : List Expr) (t : TT) : Prop :=
  ∀ (pins : List (Addr × Obj)) (s : Shared) (σ : St) (H : Hp) (Q : Bool → Hp → Prop), Inv X pins σ H s → t σ H Q →
    wpAny (model X.prog X.w) X.A (forIn ifs true fun c r => if r = true then do let ok ← isTrue c X.env (eval c X.env); pure (ForInStep.yield ok) else pure (ForInStep.yield r)) (TP X pins σ Q) X.xe s
def tYes : TT := fun _ H Q => Q true H
theorem pts_nil : PTs X [] tYes := fun _ _ _ H _ I h => wpAny_tests_nil ⟨H, I, h⟩
theorem pts_one {c : Expr} {t : TT} (h : PT X c t) : PTs X [c] t := fun pins s σ H Q I hw => wpAny_tests_one (h pins s σ H Q I hw)
end

theorem thnF {α : Type} {t : Sem α} {Q Q' : α → Shared → Prop} {M : Model} {A : Around} {E : Value → Shared → Prop} {s : Shared} (h : wpAny M A t Q (fun _ _ => False) s) (hQ : ∀ a s, Q a s → Q' a s) : wpAny M A t Q' E s := wpAny_mono h hQ fun _ _ z => False.elim z

/-- the loop of a list comprehension's block, the target of any form (codeAny_compLoop_tests asks a target that no tuple goes to; statement and proof follow it, PyProof/CompMap.lean:41-61, with the step letOwnedTupleGo kept) -/
theorem compLoop_any {prog : Program} {w : World} {A : Around} {R : Result → Shared → Prop} {s : Shared} {elt target iter : Expr} {ifs : List Expr} {scope : Scope} {pos : Pos} {it acc : Value} {env : Env} (I : Nat → Shared → Prop)
    (turn : ∀ n s, I n s → wpAny (model prog w) A (pyNext it) (fun r s₁ => match r with
      | none => R (.ok .next) s₁
      | some v => wpAny (model prog w) A (letOwnedTupleGo target it v) (fun _ s₁' => wpAny (model prog w) A (assign target env v) (fun _ s₂ =>
          wpAny (model prog w) A (forIn ifs true fun c r => if r = true then do let ok ← isTrue c env (eval c env); pure (ForInStep.yield ok) else pure (ForInStep.yield r)) (fun ok s₃ =>
            if ok = true then wpAny (model prog w) A (eval elt env) (fun x s₄ =>
              wpAny (model prog w) A (call (.builtin "list.append") [acc, x]) (fun _ s₅ => ∃ m, m < n ∧ I m s₅) (notedBy (model prog w) A env fun e s' => R (.error e) s') s₄) (notedBy (model prog w) A env fun e s' => R (.error e) s') s₃
            else ∃ m, m < n ∧ I m s₃) (notedBy (model prog w) A env fun e s' => R (.error e) s') s₂) (notedBy (model prog w) A env fun e s' => R (.error e) s') s₁') (notedBy (model prog w) A env fun e s' => R (.error e) s') s₁) (notedBy (model prog w) A env fun e s' => R (.error e) s') s)
    (n : Nat) (h : I n s) :
    codeAny (model prog w) A (.compLoop (.ListComp elt [⟨target, iter, ifs, 0⟩] scope pos) 0 it acc env) R s := by
  refine codeAny_loop rfl I (fun n s hI => ?_) n h
  show wpAny _ A ((compTurn (.ListComp elt [⟨target, iter, ifs, 0⟩] scope pos) 0 it acc env).onRaise (fun x => do noteFrame x env; theTreesLotGoes x)) _ _ s
  refine wpAny_noted ?_
  rw [compTurn_list]
  refine wpAny_bind (wpAny_standAt (wpAny_bind (wpAny_mono (turn n s hI) (fun r s₁ h₁ => ?_) fun _ _ h' => h')))
  cases r with
  | none => exact wpAny_pure h₁
  | some v =>
    refine wpAny_bind (wpAny_mono h₁ (fun _ s₁' h₁' => ?_) fun _ _ h' => h')
    refine wpAny_bind (wpAny_mono h₁' (fun _ s₂ h₂ => wpAny_bind (wpAny_mono h₂ (fun ok s₃ h₃ => ?_) fun _ _ h' => h')) fun _ _ h' => h')
    cases ok with
    | false => exact wpAny_pure ⟨rfl, h₃⟩
    | true =>
      exact wpAny_bind (wpAny_bind (wpAny_mono h₃ (fun x s₄ h₄ => wpAny_bind (wpAny_mono h₄ (fun _ s₅ h₅ => wpAny_pure (wpAny_pure ⟨rfl, h₅⟩)) fun _ _ h' => h')) fun _ _ h' => h'))

section
variable {X : Cx}
/-- [elt for target in iter if ..]: D the new list; W by the turn and a measure, Nx what a turn is to reach -/
def tLc (wi : TI) (g : TG) (tt : TT) (te : TE) (vs : List Nat) : TE := fun σ H Q => wi σ H fun J H1 => ∀ D, H1 D = none → ∃ W : Nat → Nat → Hp → Prop, (∃ m, W 0 m (upd H1 D (.lst []))) ∧ ∀ i m H, W i m H →
  (J.stop i H ∧ Q (.ref D) H) ∨ (J.go i H ∧ ∃ Nx : Hp → Prop, (∀ H', Nx H' → ∃ m', m' < m ∧ W (i + 1) m' H') ∧ ∀ x H', J.yld i H x H' → g x (wipe σ vs) H' fun σ2 H2 => wipe σ2 vs = wipe σ vs ∧ tt σ2 H2 fun b H3 =>
    if b = true then te σ2 H3 fun y H4 => ∃ acc, H4 D = some (.lst acc) ∧ acc.length < sizeLine ∧ Nx (upd H4 D (.lst (acc ++ [y]))) else Nx H3)
theorem lc_core {pins : List (Addr × Obj)} {s : Shared} {σ : St} {H : Hp} {Q : VK} {elt tg iter : Expr} {ifs : List Expr} {scope : Scope} {own : List (Str × Nat)} {pos pos' : Pos} {wi : TI} {g : TG} {tt : TT} {te : TE} {use : Option (Value → Sem Unit)} {Qf : Value → Shared → Prop}
    (hc : X.calm = true) (hN : X.N.Nodup) (I : Inv X pins σ H s) (hi : PI X tg iter wi) (ok : BlkOk X.N X.env.scope scope own)
    (hg : ∀ (s : Shared) (H : Hp) (C : Addr) (cl : List (Str × Addr)) (fp : List Addr), PG (X.blk s H scope (compEnvC scope cl C X.env) fp) tg g) (ht : ∀ (s : Shared) (H : Hp) (C : Addr) (cl : List (Str × Addr)) (fp : List Addr), PTs (X.blk s H scope (compEnvC scope cl C X.env) fp) ifs tt)
    (he : ∀ (s : Shared) (H : Hp) (C : Addr) (cl : List (Str × Addr)) (fp : List Addr), PE (X.blk s H scope (compEnvC scope cl C X.env) fp) elt te) (hs : ∀ x, foldedSetIterable iter X.env x = pure x)
    (h : tLc wi g tt te (own.map (·.2)) σ H Q)
    (hRR : ∀ D C s' m H', Inv X pins σ H' s' → Q (.ref D) H' → s'.heap.Ns C m → FpOk X pins H' C → compPost (model X.prog X.w) X.A X.xe use Qf (.ref D) C (.ok .next) s') :
    wpAny (model X.prog X.w) X.A (comprehension (.ListComp elt [⟨tg, iter, ifs, 0⟩] scope pos) scope X.env pos' (newList []) false (eval iter X.env) use) Qf X.xe s := by
  have hfree : ∀ y ∈ scope.names, y.2 = .free → ∃ c, X.env.cells.lookup y.1 = some c := fun y hy e => by
    rcases ok.free y hy e with k | k
    · exact I.ok.has _ (.inl k)
    · exact I.ok.has _ (.inr k)
  refine wpAny_comprehension_free (use := use) rfl hs (closure_ok hfree) ok.kind (fun y hy e => by rw [ok.uniq y hy, e])
    (thn (hi pins s σ H _ I h) fun xv s1 hx => thn hx fun itv s2 h2 => ?_)
  obtain ⟨it, fp, tn, J, H2, e, I2, T, st2, f2, q⟩ := h2
  subst e
  refine wpAny_newObj_type (newEnv_comp ?_) (by show 0 ≤ sizeLine; decide)
  generalize hD : s2.heap.objs.size = D
  have hDn : H2 D = none := I2.hok.fresh (Nat.le_of_eq hD)
  obtain ⟨W, ⟨m0, w0⟩, turn⟩ := q D hDn
  -- the new list
  generalize hs3 : ({ s2 with heap := s2.heap.push { cls := .type "list", data := .seq ([] : List Value).toArray } } : Shared) = s3
  have I3 : Inv X pins σ (upd H2 D (.lst [])) s3 := by
    rw [← hs3]
    refine I2.laid (t' := s2.toks) (fun b o e => Heap.get?_push_of_some _ e) (Nat.le_of_eq hD) ⟨Nat.zero_le _, [], 0, .nil, ?_⟩
    rw [← hD]
    exact Heap.get?_push_size _ rfl
  have h3 : s3.heap = s2.heap.push { cls := .type "list", data := .seq ([] : List Value).toArray } := by rw [← hs3]
  have sz : ∀ b ∈ fp, b < s2.heap.objs.size := fun b hb => by
    obtain ⟨o, e, _⟩ := T.obj _ _ st2 b hb
    exact Heap.lt_size e
  have f3 : ∀ b ∈ fp, FpOk X pins (upd H2 D (.lst [])) b ∧ b < s3.heap.objs.size := fun b hb => by
    have hlt := sz b hb
    refine ⟨⟨?_, (f2 b hb).2⟩, by rw [h3, Heap.size_push]; exact Nat.lt_succ_of_lt hlt⟩
    rw [upd_ne (by rw [← hD]; exact Nat.ne_of_lt hlt)]
    exact (f2 b hb).1
  have st3 : tn 0 s3.heap := T.keep _ _ _ st2 fun b _ o e => by rw [h3]; exact Heap.get?_push_of_some _ e
  have I4 := block_start I3 ok hN f3
  have pg := hg s3 (upd H2 D (.lst [])) s3.heap.objs.size (cellsFrom (s3.heap.objs.size + 1) scope.names (cloFrom X.env.cells scope.names [])) fp
  have pt := ht s3 (upd H2 D (.lst [])) s3.heap.objs.size (cellsFrom (s3.heap.objs.size + 1) scope.names (cloFrom X.env.cells scope.names [])) fp
  have pe := he s3 (upd H2 D (.lst [])) s3.heap.objs.size (cellsFrom (s3.heap.objs.size + 1) scope.names (cloFrom X.env.cells scope.names [])) fp
  show codeAny _ _ (.compStart (.ListComp elt [⟨tg, iter, ifs, 0⟩] scope pos) 0 (.ref it) (.ref D) (compEnvC scope (cellsFrom (s3.heap.objs.size + 1) scope.names (cloFrom X.env.cells scope.names [])) s3.heap.objs.size X.env)) (compPost (model X.prog X.w) X.A X.xe use Qf (.ref D) s3.heap.objs.size) { s3 with heap := pushCells (s3.heap.push { cls := .type "dict", data := .dict #[] }) scope.names }
  have nfp : ∀ b ∈ fp, (upd H2 D (.lst [])) b = none := fun b hb => (f3 b hb).1.1
  generalize hce : compEnvC scope (cellsFrom (s3.heap.objs.size + 1) scope.names (cloFrom X.env.cells scope.names [])) s3.heap.objs.size X.env = ce at I4 pg pt pe ⊢
  have cL : ce.locals = s3.heap.objs.size := by subst hce; rfl
  generalize hH3 : upd H2 D (.lst []) = H3 at I3 I4 pg pt pe w0 nfp f3
  generalize hs4 : ({ s3 with heap := pushCells (s3.heap.push { cls := .type "dict", data := .dict #[] }) scope.names } : Shared) = s4 at I4 ⊢
  have st4 : tn 0 s4.heap := T.keep _ _ _ st3 fun b _ o e => by rw [← hs4]; exact pushCells_keeps _ _ _ _ (Heap.get?_push_of_some _ e)
  have stat : ∀ {σ' : St} {H' : Hp} {s' : Shared}, Inv (X.blk s3 H3 scope ce fp) [] σ' H' s' → (∀ b ∈ fp, H' b = none) → ∀ b ∈ fp, FpOk (X.blk s3 H3 scope ce fp) [] H' b := fun {σ' H' s'} I' hn b hb =>
    ⟨hn b hb, (I'.ok.exf b hb).1, I'.ok.exfs b hb, .inl hb, fun x c e => (I'.ok.exf b hb).2 x c e, fun p hp => absurd (show p ∈ ([] : List (Addr × Obj)) ++ [] from hp) (by simp)⟩
  have loop : codeAny (model X.prog X.w) X.A (.compLoop (.ListComp elt [⟨tg, iter, ifs, 0⟩] scope pos) 0 (.ref it) (.ref D) ce) (compPost (model X.prog X.w) X.A X.xe use Qf (.ref D) s3.heap.objs.size) s4 := by
    refine compLoop_any (fun n s' => ∃ i H', Inv (X.blk s3 H3 scope ce fp) [] (wipe σ (own.map (·.2))) H' s' ∧ tn i s'.heap ∧ (∀ b ∈ fp, H' b = none) ∧ W i n H') ?_ m0 ⟨0, H3, I4, st4, nfp, w0⟩
    rintro n s5 ⟨i, H5, I5, st5, n5, w5⟩
    rcases turn i n H5 w5 with ⟨stop, qq⟩ | ⟨go, Nx, hNx, step⟩
    · have td := T.done (X.blk s3 H3 scope ce fp) rfl rfl rfl hc i [] s5 _ H5 (fun _ _ => False) I5 (stat I5 n5) st5 stop
      refine thnF td fun r s6 ⟨hr, I6⟩ => ?_
      subst hr
      -- back in the def's context
      have I7 : Inv X pins σ H5 s6 := I3.call' (ch := fp) I6.os I6.base I6.hok I6.bare fun b hb => ⟨(f3 b hb).1.2.2.2.1, (f3 b hb).1.2.1, (f3 b hb).1.2.2.2.2.1, (f3 b hb).1.2.2.2.2.2⟩
      have nC : H5 s3.heap.objs.size = none := by
        have z : H5 ce.locals = none := I6.free
        rw [cL] at z
        exact z
      obtain ⟨m, hn, _⟩ := I6.loc
      have hn : s6.heap.Ns ce.locals m := hn
      rw [cL] at hn
      exact hRR D s3.heap.objs.size s6 m H5 I7 qq hn (I3.fpOk (Nat.le_refl _) nC)
    · have ti := T.item (X.blk s3 H3 scope ce fp) rfl rfl rfl hc i [] s5 _ H5 (fun _ _ => False) I5 (stat I5 n5) st5 go
      refine thnF ti fun r s6 ⟨u, hr, h6⟩ => ?_
      subst hr
      refine thnF h6 fun _ s7 ⟨x, H7, I7, r7, y7, st7, n7⟩ => ?_
      have I7' := I7.pinned (stat I7 n7) (T.obj _ _ st7)
      refine thnF (pg _ s7 _ H7 x u _ I7' r7 (step x H7 y7)) fun _ s8 ⟨σ8, H8, I8, hw8, q8⟩ => ?_
      refine thnF (pt _ s8 σ8 H8 _ I8 q8) fun b s9 ⟨H9, I9, q9⟩ => ?_
      -- the turn's end
      have fin : ∀ {s' : Shared} {H' : Hp}, Inv (X.blk s3 H3 scope ce fp) ([] ++ pinsAt fp s7.heap) σ8 H' s' → Nx H' → ∃ m, m < n ∧ ∃ i H', Inv (X.blk s3 H3 scope ce fp) [] (wipe σ (own.map (·.2))) H' s' ∧ tn i s'.heap ∧ (∀ b ∈ fp, H' b = none) ∧ W i m H' := fun {s' H'} I' nx => by
        obtain ⟨m', hm, w'⟩ := hNx H' nx
        have pin' : ∀ b ∈ fp, ∀ o, s7.heap.get? b = some o → s'.heap.get? b = some o ∧ H' b = none := fun b hb o e =>
          let z := I'.pin (b, o) (List.mem_append_right _ (List.mem_append_right _ (mem_pinsAt hb e)))
          ⟨z.1, z.2.1⟩
        have hl : (wipe σ (own.map (·.2))).length = σ8.length := by rw [← hw8, wipe_length]
        refine ⟨m', hm, i + 1, H', (I'.unpinned (pins := [])).weak hl (fun j v e => ?_), T.keep _ _ _ st7 fun b hb o e => (pin' b hb o e).1, fun b hb => ?_, w'⟩
        · rw [← hw8] at e
          exact (wipe_some e).1
        · obtain ⟨o, e, _⟩ := T.obj _ _ st7 b hb
          exact (pin' b hb o e).2
      cases b with
      | false =>
        simp only [Bool.false_eq_true, if_false] at q9 ⊢
        exact fin I9 q9
      | true =>
        simp only [if_true] at q9 ⊢
        refine thnF (pe _ s9 σ8 H9 _ I9 q9) fun z s10 ⟨yv, H10, I10, r10, acc, hD10, hz10, nx⟩ => ?_
        exact app_ok (X := X.blk s3 H3 scope ce fp) I10 hD10 hz10 r10 fun s11 I11 => fin I11 nx
  exact codeAny_compStart_list loop (T.self X.A 0 _ _ _ st4 loop)
/-- as a value -/
theorem pe_lc {elt tg iter : Expr} {ifs : List Expr} {scope : Scope} {own : List (Str × Nat)} {pos : Pos} {wi : TI} {g : TG} {tt : TT} {te : TE} (hc : X.calm = true) (hN : X.N.Nodup) (hi : PI X tg iter wi) (ok : BlkOk X.N X.env.scope scope own)
    (hg : ∀ (s : Shared) (H : Hp) (C : Addr) (cl : List (Str × Addr)) (fp : List Addr), PG (X.blk s H scope (compEnvC scope cl C X.env) fp) tg g) (ht : ∀ (s : Shared) (H : Hp) (C : Addr) (cl : List (Str × Addr)) (fp : List Addr), PTs (X.blk s H scope (compEnvC scope cl C X.env) fp) ifs tt)
    (he : ∀ (s : Shared) (H : Hp) (C : Addr) (cl : List (Str × Addr)) (fp : List Addr), PE (X.blk s H scope (compEnvC scope cl C X.env) fp) elt te) (hs : ∀ x, foldedSetIterable iter X.env x = pure x := by intro _; rfl) :
    PE X (.ListComp elt [⟨tg, iter, ifs, 0⟩] scope pos) (tLc wi g tt te (own.map (·.2))) := by
  intro pins s σ H Q I h
  rw [eval_ListComp]
  refine lc_core hc hN I hi ok hg ht he hs h fun D C s' m H' I' q hn f => ⟨m, hn, fun h'' sb => ?_⟩
  obtain ⟨f0, f1, f2, f3, f4, f5⟩ := f
  exact ⟨.ref D, H', I'.turned (t' := s'.toks) (fun b o hb e => (sb.2 b hb).trans e) f0 f1 f3 f4 f5, rfl, q⟩
/-- name = [..] on one line, the name a local -/
theorem ps_setLc {i : Nat} {y : Str} {py : Pos} {elt tg iter : Expr} {ifs : List Expr} {scope : Scope} {own : List (Str × Nat)} {pos spos : Pos} {wi : TI} {g : TG} {tt : TT} {te : TE} (hc : X.calm = true) (hN : X.N.Nodup) (hy : X.N[i]? = some y) (hyl : X.env.scope.names.lookup y = some .local)
    (hsw : swapsWith (.ListComp elt [⟨tg, iter, ifs, 0⟩] scope pos) (some (.Name y py)) spos.line X.env = pure true) (hi : PI X tg iter wi) (ok : BlkOk X.N X.env.scope scope own)
    (hg : ∀ (s : Shared) (H : Hp) (C : Addr) (cl : List (Str × Addr)) (fp : List Addr), PG (X.blk s H scope (compEnvC scope cl C X.env) fp) tg g) (ht : ∀ (s : Shared) (H : Hp) (C : Addr) (cl : List (Str × Addr)) (fp : List Addr), PTs (X.blk s H scope (compEnvC scope cl C X.env) fp) ifs tt)
    (he : ∀ (s : Shared) (H : Hp) (C : Addr) (cl : List (Str × Addr)) (fp : List Addr), PE (X.blk s H scope (compEnvC scope cl C X.env) fp) elt te) (hs : ∀ x, foldedSetIterable iter X.env x = pure x := by intro _; rfl) :
    PS X (.Assign [.Name y py] (.ListComp elt [⟨tg, iter, ifs, 0⟩] scope pos) spos) (tAsg (tLc wi g tt te (own.map (·.2))) (gName i)) := by
  intro pins s σ H D I h
  rw [exec_Assign_Name_used _ _ _ _ hsw]
  refine wpAny_bind (wpAny_standAt (wpAny_bind ?_))
  show wpAny _ X.A (do let _ ← comprehension (.ListComp elt [⟨tg, iter, ifs, 0⟩] scope pos) scope X.env (firstIterPos [⟨tg, iter, ifs, 0⟩] pos) (newList []) false (eval iter X.env) (some (assign (.Name y py) X.env))) _ _ s
  have h : tLc wi g tt te (own.map (·.2)) σ H (fun x H1 => gName i x σ H1 D.nx) := h
  refine wpAny_bind (thn (lc_core (Qf := fun _ s' => SP X pins D .next s') hc hN I hi ok hg ht he hs h fun L C s' m H' I' q hn f => ?_) fun _ s' hq => wpAny_pure (wpAny_pure hq))
  show wpAny _ _ (assign (.Name y py) X.env (.ref L)) _ _ _
  refine wpAny_assign_Name (store_ok2 (v := V.ref L) I' hN hy (.inl hyl) rfl (fun s2 I2 ⟨a, sb, ha⟩ => ?_) (.inr hyl))
  obtain ⟨f0, f1, f2, f3, f4, f5⟩ := f
  have haC : C ≠ a := by
    rcases ha with z | z
    · rw [z]; exact f1
    · exact fun e => f4 y a z e.symm
  refine ⟨m, hn.sameBut sb haC, fun h3 sb3 => ?_⟩
  exact ⟨_, H', I2.turned (t' := s2.toks) (fun b o hb e => (sb3.2 b hb).trans e) f0 f1 f3 f4 f5, q⟩
theorem sw_true {elt : Expr} {gs : List Comprehension} {scope : Scope} {pos py : Pos} {y : Str} {l : Nat} {env : Env} (hk : env.scope.kind = .function) (hy : env.scope.names.lookup y = some .local) (hl : (py.line == pos.line) = true)
    (ha : (scope.names.any fun (n, k) => n == y && (k == .local || k == .cell)) = false) : swapsWith (.ListComp elt gs scope pos) (some (.Name y py)) l env = pure true := by
  have ky : env.kindOf y = some .local := hy
  have hb : env.blockKind = .function := by unfold Env.blockKind; rw [hk]; rfl
  unfold swapsWith
  simp only [hb, ky, ha, Expr.pos, hl]
  rfl
end

/-! ### the forms one uses -/
def blkC (N : List Str) (sc scope : Scope) (own : List (Str × Nat)) : Bool :=
  (match scope.kind with | .function => true | _ => false) && (scope.names.all fun y => decide (scope.names.lookup y.1 = some y.2)) && (own.all fun p => decide (N[p.2]? = some p.1)) &&
    (scope.names.all fun y => match y.2 with
      | .free => (match sc.names.lookup y.1 with | some .cell => true | some .free => true | _ => false)
      | .local => decide (y.1 ∈ own.map (·.1)) || decide (y.1 ∉ N)
      | .cell => decide (y.1 ∈ own.map (·.1)) || decide (y.1 ∉ N)
      | _ => true)
theorem blkOk_by {N : List Str} {sc scope : Scope} {own : List (Str × Nat)} (h : blkC N sc scope own = true) : BlkOk N sc scope own := by
  unfold blkC at h
  simp only [Bool.and_eq_true, List.all_eq_true, decide_eq_true_eq] at h
  obtain ⟨⟨⟨h1, h2⟩, h3⟩, h4⟩ := h
  refine ⟨?_, h2, h3, fun y hy e => ?_, fun y hy e => ?_⟩
  · split at h1
    · assumption
    · cases h1
  · have q := h4 y hy
    simp only [e] at q
    split at q <;> first | exact .inl (by assumption) | exact .inr (by assumption) | cases q
  · have q := h4 y hy
    rcases e with e | e <;> (simp only [e, Bool.or_eq_true, decide_eq_true_eq] at q; exact q)
end L2

namespace L2
open PySem PySem.Spec PyProof.Rows


section
variable {prog : Program} {w : World} {A : Around} {R : Result → Shared → Prop} {s : Shared} {elt t0 i0 t1 i1 : Expr} {ifs0 ifs1 : List Expr} {scope : Scope} {pos : Pos} {it acc : Value} {env : Env}
end

section
variable {X : Cx}
/-- [elt for tg in iter if .. for tg1 in iter1 if ..]: behind the first clause's store and tests the second source's own loop, from which Nx is reached. vs: the block's names; vs1: those of the second target -/
def tLc2 (wi : TI) (g : TG) (tt : TT) (wi1 : TI) (g1 : TG) (tt1 : TT) (te : TE) (vs vs1 : List Nat) : TE := fun σ H Q => wi σ H fun J H1 => ∀ D, H1 D = none → ∃ W : Nat → Nat → Hp → Prop, (∃ m, W 0 m (upd H1 D (.lst []))) ∧ ∀ i m H, W i m H →
  (J.stop i H ∧ Q (.ref D) H) ∨ (J.go i H ∧ ∃ Nx : Hp → Prop, (∀ H', Nx H' → ∃ m', m' < m ∧ W (i + 1) m' H') ∧ ∀ x H', J.yld i H x H' → g x (wipe σ vs) H' fun σ2 H2 => wipe σ2 vs = wipe σ vs ∧ tt σ2 H2 fun b H3 =>
    if b = true then wi1 σ2 H3 fun J1 H4 => ∃ W1 : Nat → Nat → Hp → Prop, (∃ m, W1 0 m H4) ∧ ∀ j k H, W1 j k H →
      (J1.stop j H ∧ Nx H) ∨ (J1.go j H ∧ ∃ Nx1 : Hp → Prop, (∀ H', Nx1 H' → ∃ k', k' < k ∧ W1 (j + 1) k' H') ∧ ∀ x H', J1.yld j H x H' → g1 x (wipe σ2 vs1) H' fun σ3 H5 => wipe σ3 vs1 = wipe σ2 vs1 ∧ tt1 σ3 H5 fun b H6 =>
        if b = true then te σ3 H6 fun y H7 => ∃ acc, H7 D = some (.lst acc) ∧ acc.length < sizeLine ∧ Nx1 (upd H7 D (.lst (acc ++ [y]))) else Nx1 H6)
    else Nx H3)
end
end L2

namespace L2
open PySem PySem.Spec PyProof.Rows

/-! ### lists of pairs as tables -/
section
variable {κ : Type} [DecidableEq κ]
def valV (kvs : List (κ × V)) (k : κ) : Option V := (kvs.find? fun kv => decide (kv.1 = k)).map (·.2)
/-- in its place, or at the end -/
def putK (kvs : List (κ × V)) (k : κ) (v : V) : List (κ × V) :=
  if (kvs.any fun kv => decide (kv.1 = k)) = true then kvs.map (fun kv => if kv.1 = k then (kv.1, v) else kv) else kvs ++ [(k, v)]
def dropK (kvs : List (κ × V)) (k : κ) : List (κ × V) := kvs.filter fun kv => decide (kv.1 ≠ k)

theorem valV_pos {p : κ × V} {r : List (κ × V)} {k : κ} (e : p.1 = k) : valV (p :: r) k = some p.2 := by simp [valV, List.find?_cons, e]
theorem valV_neg {p : κ × V} {r : List (κ × V)} {k : κ} (e : ¬ p.1 = k) : valV (p :: r) k = valV r k := by simp [valV, List.find?_cons, e]
theorem valV_any (k : κ) : ∀ kvs : List (κ × V), (kvs.any fun kv => decide (kv.1 = k)) = (valV kvs k).isSome
  | [] => rfl
  | p :: r => by
    rw [List.any_cons]
    by_cases e : p.1 = k
    · simp only [valV_pos e, decide_eq_true e, Bool.true_or, Option.isSome_some]
    · rw [valV_neg e, decide_eq_false e, Bool.false_or]; exact valV_any k r
theorem length_putK (kvs : List (κ × V)) (k : κ) (v : V) : (putK kvs k v).length ≤ kvs.length + 1 := by
  unfold putK
  split
  · rw [List.length_map]; omega
  · rw [List.length_append, List.length_cons, List.length_nil]; omega

theorem RelO.isSome_eq {o : Option V} {u : Option Value} (r : RelO o u) : o.isSome = u.isSome := by
  cases o with
  | none => cases u with
    | none => rfl
    | some _ => exact (show False from r).elim
  | some _ => cases u with
    | none => exact (show False from r).elim
    | some _ => rfl
theorem RelO.getD {o : Option V} {u : Option Value} {d : V} {d' : Value} (r : RelO o u) (rd : RelV d d') : RelV (o.getD d) (u.getD d') := by
  cases o with
  | none => cases u with
    | none => exact rd
    | some _ => exact (show False from r).elim
  | some _ => cases u with
    | none => exact (show False from r).elim
    | some _ => exact r

/-- raw tables of the same keys -/
theorem KV.val {kvs : List (κ × V)} {vs : List (κ × Value)} (r : KV kvs vs) (k : κ) : RelO (valV kvs k) (valueAt vs k) := by
  unfold KV at r
  induction r with
  | nil => exact True.intro
  | @cons p q ps qs h t ih =>
    obtain ⟨h1, h2⟩ := h
    by_cases e : p.1 = k
    · have e' : q.1 = k := h1.symm.trans e
      have b : valueAt (q :: qs) k = some q.2 := by simp [valueAt, List.find?_cons, e']
      rw [valV_pos e, b]; exact h2
    · have e' : ¬ q.1 = k := fun z => e (h1.trans z)
      have b : valueAt (q :: qs) k = valueAt qs k := by simp [valueAt, List.find?_cons, e']
      rw [valV_neg e, b]; exact ih
theorem KV.any {kvs : List (κ × V)} {vs : List (κ × Value)} (r : KV kvs vs) (k : κ) : (kvs.any fun kv => decide (kv.1 = k)) = vs.any fun kv => decide (kv.1 = k) := by
  unfold KV at r
  induction r with
  | nil => rfl
  | cons h t ih => rw [List.any_cons, List.any_cons, ih, h.1]
theorem KV.repl {kvs : List (κ × V)} {vs : List (κ × Value)} (r : KV kvs vs) (k : κ) {y : V} {u : Value} (ry : RelV y u) :
    KV (kvs.map fun kv => if kv.1 = k then (kv.1, y) else kv) (vs.map fun kv => if kv.1 = k then (kv.1, u) else kv) := by
  unfold KV at r ⊢
  induction r with
  | nil => exact .nil
  | @cons p q ps qs h t ih =>
    rw [List.map_cons, List.map_cons]
    refine .cons ?_ ih
    obtain ⟨h1, h2⟩ := h
    by_cases e : p.1 = k
    · rw [if_pos e, if_pos (h1.symm.trans e)]; exact ⟨h1, ry⟩
    · rw [if_neg e, if_neg (fun z => e (h1.trans z))]; exact ⟨h1, h2⟩
theorem KV.put {kvs : List (κ × V)} {vs : List (κ × Value)} (r : KV kvs vs) (k : κ) {y : V} {u : Value} (ry : RelV y u) : KV (putK kvs k y) (stored vs k u) := by
  unfold putK stored
  rw [r.any k]
  by_cases e : (vs.any fun kv => decide (kv.1 = k)) = true
  · rw [if_pos e, if_pos e]; exact r.repl k ry
  · rw [if_neg e, if_neg e]; exact Paired.snoc r ⟨rfl, ry⟩
theorem KV.drop {kvs : List (κ × V)} {vs : List (κ × Value)} (r : KV kvs vs) (k : κ) : KV (dropK kvs k) (without vs k) := by
  unfold KV at r ⊢
  unfold dropK without
  induction r with
  | nil => exact .nil
  | @cons p q ps qs h t ih =>
    obtain ⟨h1, h2⟩ := h
    rw [List.filter_cons, List.filter_cons]
    by_cases e : p.1 = k
    · have a : ¬ decide (p.1 ≠ k) = true := by simp [e]
      have b : ¬ decide (q.1 ≠ k) = true := by simp [h1.symm.trans e]
      rw [if_neg a, if_neg b]; exact ih
    · have e' : ¬ q.1 = k := fun z => e (h1.trans z)
      have a : decide (p.1 ≠ k) = true := by simp [e]
      have b : decide (q.1 ≠ k) = true := by simp [e']
      rw [if_pos a, if_pos b]; exact .cons ⟨h1, h2⟩ ih
theorem KV.keys {kvs : List (κ × V)} {vs : List (κ × Value)} (r : KV kvs vs) : kvs.map (·.1) = vs.map (·.1) := by
  unfold KV at r
  induction r with
  | nil => rfl
  | cons h t ih => rw [List.map_cons, List.map_cons, ih, h.1]
theorem KV.length {kvs : List (κ × V)} {vs : List (κ × Value)} (r : KV kvs vs) : kvs.length = vs.length := Paired.length r
end


/-! ### a tracked dict, its keys ints and texts or tuples of these -/
theorem kV_is {P : Program} {w : World} {k : Key} {u : Value} (r : RelV (kV k) u) : (mixKind P w).is k u = true := by
  cases k with
  | inl i => obtain ⟨t, e⟩ := (show ∃ t, u = Value.int i t from r); subst e; exact mixKind_int P w i t
  | inr x => obtain ⟨t, e⟩ := (show ∃ t, u = Value.str x t from r); subst e; exact mixKind_str P w x t
theorem items_are {P : Program} {w : World} : ∀ {ks : List Key} {us : List Value}, Vals (ks.map kV) us → ItemsAre (mixKind P w) ks us
  | [], _, r => by rw [List.map_nil] at r; cases r; exact .nil
  | k :: ks, _, r => by
    rw [List.map_cons] at r
    cases r with
    | cons h t => exact .cons (kV_is h) (items_are t)

/-- raw entries of a dict with tuple keys -/
abbrev KT (H : Hp) : List (List Key × V) → List (List Key × Addr × Value) → Prop := Paired fun p q => p.1 = q.1 ∧ H q.2.1 = some (.tup (p.1.map kV)) ∧ RelV p.2 q.2.2
theorem KT.val {H : Hp} {kvs : List (List Key × V)} {xs : List (List Key × Addr × Value)} (r : KT H kvs xs) (k : List Key) : RelO (valV kvs k) ((atKey xs k).map (·.2)) := by
  induction r with
  | nil => exact True.intro
  | @cons p q ps qs h t ih =>
    obtain ⟨h1, _, h2⟩ := h
    by_cases e : p.1 = k
    · have e' : q.1 = k := h1.symm.trans e
      have b : atKey (q :: qs) k = some q.2 := by simp [atKey, List.find?_cons, e']
      rw [valV_pos e, b]; exact h2
    · have e' : ¬ q.1 = k := fun z => e (h1.trans z)
      have b : atKey (q :: qs) k = atKey qs k := by simp [atKey, List.find?_cons, e']
      rw [valV_neg e, b]; exact ih
theorem KT.repl {H : Hp} {kvs : List (List Key × V)} {xs : List (List Key × Addr × Value)} (r : KT H kvs xs) (k : List Key) {y : V} {u : Value} (ry : RelV y u) :
    KT H (kvs.map fun kv => if kv.1 = k then (kv.1, y) else kv) (xs.map (putAt k u)) := by
  induction r with
  | nil => exact .nil
  | @cons p q ps qs h t ih =>
    rw [List.map_cons, List.map_cons]
    refine .cons ?_ ih
    obtain ⟨h1, h2, h3⟩ := h
    unfold putAt
    by_cases e : p.1 = k
    · rw [if_pos e, if_pos (h1.symm.trans e)]; exact ⟨h1, h2, ry⟩
    · rw [if_neg e, if_neg (fun z => e (h1.trans z))]; exact ⟨h1, h2, h3⟩
theorem KT.put {H : Hp} {kvs : List (List Key × V)} {xs : List (List Key × Addr × Value)} (r : KT H kvs xs) (k : List Key) {b : Addr} {y : V} {u : Value} (hb : H b = some (.tup (k.map kV))) (ry : RelV y u) :
    KT H (putK kvs k y) (storedH xs k b u) := by
  have e : (kvs.any fun kv => decide (kv.1 = k)) = (atKey xs k).isSome := by
    rw [valV_any, (r.val k).isSome_eq, Option.isSome_map]
  unfold putK storedH
  rw [e]
  by_cases q : (atKey xs k).isSome = true
  · rw [if_pos q, if_pos q]; exact r.repl k ry
  · rw [if_neg q, if_neg q]; exact Paired.snoc r ⟨rfl, hb, ry⟩
theorem KT.keeps {H H' : Hp} {kvs : List (List Key × V)} {xs : List (List Key × Addr × Value)} (r : KT H kvs xs) (ht : ∀ b ys, H b = some (.tup ys) → H' b = some (.tup ys)) : KT H' kvs xs :=
  Paired.mapP r fun _ _ z => ⟨z.1, ht _ _ z.2.1, z.2.2⟩

section
variable {P : Program} {w : World} {H : Hp} {h : Heap} {a : Addr}
theorem rd_of {u : HO} (ok : HOk P w H h) (e : Rd H a u) : ObjOk P w H h a u := e.ok ok
theorem dk_rd {kvs : List (Key × V)} (ok : HOk P w H h) (e : Rd H a (.dK kvs)) : kvs.length ≤ sizeLine ∧ (a == sysModules) = false ∧ ∃ vs, KV kvs vs ∧ h.DictOf (mixKind P w) a vs :=
  show ObjOk P w H h a (.dK kvs) from rd_of ok e
theorem dk_of {kvs : List (Key × V)} (ok : HOk P w H h) (e : H a = some (.dK kvs)) : kvs.length ≤ sizeLine ∧ (a == sysModules) = false ∧ ∃ vs, KV kvs vs ∧ h.DictOf (mixKind P w) a vs := dk_rd ok (.inl e)
/-- a tracked tuple of ints and texts is a key -/
theorem key_of {ks : List Key} (ok : HOk P w H h) (e : H a = some (.tup (ks.map kV))) : (tupleKind (mixKind P w)).is h ks a := by
  obtain ⟨_, its, r, o, h1, h2, n, h3⟩ := (show ObjOk P w H h a (.tup (ks.map kV)) from ok a _ e)
  exact ⟨o, its.toArray, n, h1, h2, h3, by simpa using items_are r⟩
theorem dt_rd {kvs : List (List Key × V)} (ok : HOk P w H h) (e : Rd H a (.dT kvs)) : kvs.length ≤ sizeLine ∧ (a == sysModules) = false ∧
    ∃ xs, KT H kvs xs ∧ h.DictOfH (tupleKind (mixKind P w)) a xs := by
  obtain ⟨z, y, xs, r, o, es, ep, h1, h2, h3, h4, h5⟩ := (show ObjOk P w H h a (.dT kvs) from rd_of ok e)
  refine ⟨z, y, xs, r, o, es, ep, h1, h2, h3, h4, fun x hx => ?_, h5⟩
  have all : ∀ {l : List (List Key × V)} {m : List (List Key × Addr × Value)}, KT H l m → ∀ x ∈ m, (tupleKind (mixKind P w)).is h x.1 x.2.1 := by
    intro l m q
    induction q with
    | nil => intro x hx; exact nomatch hx
    | @cons p q ps qs hq t ih =>
      intro x hx
      rcases List.mem_cons.mp hx with e | hx
      · subst e
        exact key_of ok (by rw [← hq.1]; exact hq.2.1)
      · exact ih x hx
  exact all r x hx
theorem dt_of {kvs : List (List Key × V)} (ok : HOk P w H h) (e : H a = some (.dT kvs)) : kvs.length ≤ sizeLine ∧ (a == sysModules) = false ∧
    ∃ xs, KT H kvs xs ∧ h.DictOfH (tupleKind (mixKind P w)) a xs := dt_rd ok (.inl e)
end

/-- what the dict at a holds at the key y -/
def DGet (H : Hp) (a : Addr) (y : V) (r : Option V) : Prop :=
  (∃ kvs k, Rd H a (.dK kvs) ∧ y = kV k ∧ r = valV kvs k) ∨ ∃ kvs k b, Rd H a (.dT kvs) ∧ y = .ref b ∧ H b = some (.tup (k.map kV)) ∧ r = valV kvs k
/-- the heap behind a[y] = v -/
def DPut (H : Hp) (a : Addr) (y v : V) (H' : Hp) : Prop :=
  (∃ kvs k, H a = some (.dK kvs) ∧ y = kV k ∧ kvs.length < sizeLine ∧ H' = upd H a (.dK (putK kvs k v))) ∨
  ∃ kvs k b, H a = some (.dT kvs) ∧ y = .ref b ∧ H b = some (.tup (k.map kV)) ∧ kvs.length < sizeLine ∧ H' = upd H a (.dT (putK kvs k v))
theorem DGet.k {H : Hp} {a : Addr} {kvs : List (Key × V)} {k : Key} (e : H a = some (.dK kvs)) : DGet H a (kV k) (valV kvs k) := .inl ⟨kvs, k, .inl e, rfl, rfl⟩
theorem DGet.t {H : Hp} {a b : Addr} {kvs : List (List Key × V)} {k : List Key} (e : H a = some (.dT kvs)) (eb : H b = some (.tup (k.map kV))) : DGet H a (.ref b) (valV kvs k) := .inr ⟨kvs, k, b, .inl e, rfl, eb, rfl⟩
theorem DPut.k {H : Hp} {a : Addr} {kvs : List (Key × V)} {k : Key} {v : V} (e : H a = some (.dK kvs)) (hl : kvs.length < sizeLine) : DPut H a (kV k) v (upd H a (.dK (putK kvs k v))) := .inl ⟨kvs, k, e, rfl, hl, rfl⟩
theorem DPut.t {H : Hp} {a b : Addr} {kvs : List (List Key × V)} {k : List Key} {v : V} (e : H a = some (.dT kvs)) (eb : H b = some (.tup (k.map kV))) (hl : kvs.length < sizeLine) :
    DPut H a (.ref b) v (upd H a (.dT (putK kvs k v))) := .inr ⟨kvs, k, b, e, rfl, eb, hl, rfl⟩


section
variable {X : Cx} {pins : List (Addr × Obj)} {σ : St} {H : Hp} {s : Shared} {a : Addr} {y v : V} {u r : Value} {o : Option V} {A : Around} {E : Value → Shared → Prop}

theorem Inv.big (I : Inv X pins σ H s) : sysModules < s.heap.objs.size := by
  have h : mainGlobals < s.heap.objs.size := (I.mod.glob.keeps I.bk).lt
  exact Nat.lt_trans (by decide) h

/-- d[y], there -/
theorem d_getItem {Q : Value → Shared → Prop} (hu : A.units + 1 < cLine) (I : Inv X pins σ H s) (g : DGet H a y (some v)) (ry : RelV y u) (h : ∀ w' s', Inv X pins σ H s' → RelV v w' → Q w' s') :
    wpAny (model X.prog X.w) A (getItem (.ref a) u) Q E s := by
  rcases g with ⟨kvs, k, e, ey, l⟩ | ⟨kvs, k, b, e, ey, eb, l⟩
  · subst ey
    obtain ⟨z, hd, vs, rel, dd⟩ := dk_rd I.hok e
    obtain ⟨w', hw, rw'⟩ := RelO.some_of (v := v) (o := valueAt vs k) (by rw [l]; exact rel.val k)
    exact wpAny_getItem_of (kV_is ry) dd.mapOf hw (h w' _ (I.tok _) rw')
  · subst ey
    cases (show u = Value.ref b from ry)
    obtain ⟨z, hd, xs, rel, dd⟩ := dt_rd I.hok e
    obtain ⟨w', hw, rw'⟩ := RelO.some_of (v := v) (o := (atKey xs k).map (·.2)) (by rw [l]; exact rel.val k)
    obtain ⟨p, hp, hp2⟩ := Option.map_eq_some_iff.mp hw
    refine wpAny_getItem_heap (tupleKind_room_in1 hu) (key_of I.hok eb) dd hp ?_
    rw [hp2]
    exact h w' _ (I.tok _) rw'
/-- a dict's object is replaced -/
theorem d_write {h' : Heap} {t' : Nat} {ob : HO} (I : Inv X pins σ H s) (mu : Mut (H a)) (hs : Heap.SameBut a s.heap h') (he : ∃ q, h'.get? a = some q) (new : ObjOk X.prog X.w (upd H a ob) h' a ob) :
    Inv X pins σ (upd H a ob) { s with heap := h', toks := t' } :=
  I.write (x := a) (e := a) mu (.inl rfl) (fun b q hb z => (hs.2 b hb).trans z) he new
theorem dk_new {P : Program} {w : World} {H' : Hp} {h' : Heap} {kvs : List (Key × V)} {vs : List (Key × Value)} (z : kvs.length ≤ sizeLine) (hd : (a == sysModules) = false) (rel : KV kvs vs) (dd : h'.DictOf (mixKind P w) a vs) :
    ObjOk P w H' h' a (.dK kvs) := ⟨z, hd, vs, rel, dd⟩
/-- d[y] = v -/
theorem d_setItem {H' : Hp} {Q : Unit → Shared → Prop} (hu : A.units + 1 < cLine) (I : Inv X pins σ H s) (g : DPut H a y v H') (ry : RelV y u) (rv : RelV v r) (h : ∀ s', Inv X pins σ H' s' → Q () s') :
    wpAny (model X.prog X.w) A (setItem (.ref a) u r) Q E s := by
  rcases g with ⟨kvs, k, e, ey, l, eH⟩ | ⟨kvs, k, b, e, ey, eb, l, eH⟩
  · subst ey eH
    obtain ⟨z, hd, vs, rel, dd⟩ := dk_of I.hok e
    have hz : vs.length ≤ sizeLine := by rw [← rel.length]; exact z
    have hl : (putK kvs k v).length ≤ sizeLine := by have := length_putK kvs k v; omega
    refine wpAny_setItem_pairs (hsz := hz) (kV_is ry) dd fun h' dd' hs => h _ ?_
    have he : ∃ q, h'.get? a = some q := let ⟨q, _, _, hq, _⟩ := dd'; ⟨q, hq⟩
    exact d_write I (by rw [e]; exact True.intro) hs he (dk_new hl hd (rel.put k rv) dd')
  · subst ey eH
    cases (show u = Value.ref b from ry)
    obtain ⟨z, hd, xs, rel, dd⟩ := dt_of I.hok e
    have hz : xs.length ≤ sizeLine := by rw [← Paired.length rel]; exact z
    have hl : (putK kvs k v).length ≤ sizeLine := by have := length_putK kvs k v; omega
    refine wpAny_setItem_heap (hsz := hz) (tupleKind_room_in1 hu) (key_of I.hok eb) dd fun h' dd' hs => h _ ?_
    obtain ⟨q, es, ep, hq, h2, h3, h4, _, h5⟩ := dd'
    refine d_write I (by rw [e]; exact True.intro) hs ⟨q, hq⟩ ⟨hl, hd, _, (rel.put k eb rv).keeps fun c ys ec => ?_, q, es, ep, hq, h2, h3, h4, h5⟩
    rw [upd_ne (ne_of ec e (fun z => nomatch z))]
    exact ec
end

section
variable {X : Cx} {pins : List (Addr × Obj)} {σ : St} {H : Hp} {s : Shared} {a : Addr} {kvs : List (Key × V)} {k : Key} {u : Value} {A : Around} {E : Value → Shared → Prop}
end


/-! ### readings and rules -/
/-- the element of a subscription, not a slice -/
def NoSl (i : Expr) : Prop := ∀ ov iv, subscripted i false ov iv = operate [ov, iv] (getItem ov iv)

theorem dict_typeIs {X : Cx} {pins : List (Addr × Obj)} {σ : St} {H : Hp} {s : Shared} {a : Addr} {y : V} {o : Option V} (I : Inv X pins σ H s) (g : DGet H a y o) : s.TypeIs (.ref a) "dict" := by
  rcases g with ⟨kvs, k, e, _, _⟩ | ⟨kvs, k, b, e, _, _, _⟩
  · obtain ⟨_, _, vs, _, dd⟩ := dk_rd I.hok e
    exact dd.typeIs
  · obtain ⟨_, _, xs, _, dd⟩ := dt_rd I.hok e
    exact dd.typeIs

/-- d[y] -/
def tDGet (td ty : TE) : TE := fun σ H Q => td σ H fun x H1 => ty σ H1 fun y H2 => ∃ a v, x = .ref a ∧ DGet H2 a y (some v) ∧ Q v H2
/-- y in d, y not in d -/
def tDIn (ty td : TE) : TE := fun σ H Q => ty σ H fun y H1 => td σ H1 fun x H2 => ∃ a o, x = .ref a ∧ DGet H2 a y o ∧ Q (.bl o.isSome) H2
def tDNotIn (ty td : TE) : TE := fun σ H Q => ty σ H fun y H1 => td σ H1 fun x H2 => ∃ a o, x = .ref a ∧ DGet H2 a y o ∧ Q (.bl (!o.isSome)) H2
/-- d[y] = v -/
def sDPut (td ty tv : TE) : TS := fun D σ H => tv σ H fun v H1 => td σ H1 fun x H2 => ty σ H2 fun y H3 => ∃ a H4, x = .ref a ∧ DPut H3 a y v H4 ∧ D.nx σ H4
/-- d[y] op= v -/
def sDAug (td ty tv : TE) (rd : V → V → Hp → VK → Prop) : TS := fun D σ H => td σ H fun x H1 => ty σ H1 fun y H2 => ∃ a v, x = .ref a ∧ DGet H2 a y (some v) ∧
  tv σ H2 fun y2 H3 => rd v y2 H3 fun z H4 => ∃ H5, DPut H4 a y z H5 ∧ D.nx σ H5
/-- del d[y] -/
def sDDel (td ty : TE) : TS := fun D σ H => td σ H fun x H1 => ty σ H1 fun y H2 => ∃ a kvs k, x = .ref a ∧ H2 a = some (.dK kvs) ∧ y = kV k ∧ (valV kvs k).isSome = true ∧ D.nx σ (upd H2 a (.dK (dropK kvs k)))

section
variable {X : Cx} {o i e value : Expr} {pos pos' tpos : Pos} {td ty tv : TE}
end


/-! ### displays -/
/-- {}, to be a dict of the kind that is wanted -/
def tDNewK : TE := fun _ H Q => ∀ p, H p = none → Q (.ref p) (upd H p (.dK []))
def tDNewT : TE := fun _ H Q => ∀ p, H p = none → Q (.ref p) (upd H p (.dT []))
section
variable {X : Cx} {pos : Pos}
end

/-- the pairs of a display, from the left -/
def tPairs : List (TE × TE) → St → Hp → (List (V × V) → Hp → Prop) → Prop
  | [], _, H, Q => Q [] H
  | (tk, tv) :: r, σ, H, Q => tk σ H fun x H1 => tv σ H1 fun y H2 => tPairs r σ H2 fun ps H3 => Q ((x, y) :: ps) H3
abbrev VV : List (V × V) → List (Value × Value) → Prop := Paired fun p q => RelV p.1 q.1 ∧ RelV p.2 q.2
def PPs (X : Cx) (pos : Pos) (keys : List (Option Expr)) (values : List Expr) (trs : List (TE × TE)) : Prop :=
  ∀ (pins : List (Addr × Obj)) (s : Shared) (σ : St) (H : Hp) (Q : List (V × V) → Hp → Prop), Inv X pins σ H s → tPairs trs σ H Q →
    wpAny (model X.prog X.w) X.A (evalPairs (pairTrees keys values X.env pos)) (fun vs s' => ∃ ps H', Inv X pins σ H' s' ∧ VV ps vs ∧ Q ps H') X.xe s

def mergeK (kvs more : List (Key × V)) : List (Key × V) := more.foldl (fun acc kv => putK acc kv.1 kv.2) kvs
theorem KV.merge : ∀ {more : List (Key × V)} {rs : List (Key × Value)} {kvs : List (Key × V)} {vs : List (Key × Value)}, KV more rs → KV kvs vs → KV (mergeK kvs more) (merged vs rs) := by
  intro more rs kvs vs r
  unfold KV at r
  induction r generalizing kvs vs with
  | nil => intro q; exact q
  | @cons p q ps qs h t ih =>
    intro r0
    have e : KV (putK kvs p.1 p.2) (stored vs q.1 q.2) := by
      have := r0.put p.1 h.2
      rw [← h.1]; exact this
    exact ih e
/-- {k: v, ..} with keys ints and texts; the new dict stands empty while the pairs are made -/
def tDisp (trs : List (TE × TE)) : TE := fun σ H Q => ∀ p, H p = none → tPairs trs σ (upd H p (.dK [])) fun ps H2 => H2 p = some (.dK []) ∧ ∃ kvs : List (Key × V), ps = kvs.map (fun kv => (kV kv.1, kv.2)) ∧ kvs.length ≤ 15 ∧ Q (.ref p) (upd H2 p (.dK (mergeK [] kvs)))


/-! ### methods -/
/-- a method call o.m(e) of a built-in, with one argument: what must be seen of the text -/
structure M1 (X : Cx) (o : Expr) (m : Str) (apos : Pos) (e : Expr) (cpos : Pos) : Prop where
  base : attributeBase o m X.env (eval o X.env) = eval o X.env
  few : ((backTo cpos (starEach [e] X.env)).all (fun x => !x.1) && (backToKw cpos (keywordEach [] X.env)).all (fun x => x.1.isSome)
    && decide (([e] : List Expr).length + ([] : List Keyword).length + (if ([] : List Keyword).isEmpty then 0 else 1) < 30)) = true
  line : (apos.endLine == cpos.line) = true
  trees : backTo cpos (starEach [e] X.env) = [(false, eval e X.env)]
structure M2 (X : Cx) (o : Expr) (m : Str) (apos : Pos) (e f : Expr) (cpos : Pos) : Prop where
  base : attributeBase o m X.env (eval o X.env) = eval o X.env
  few : ((backTo cpos (starEach [e, f] X.env)).all (fun x => !x.1) && (backToKw cpos (keywordEach [] X.env)).all (fun x => x.1.isSome)
    && decide (([e, f] : List Expr).length + ([] : List Keyword).length + (if ([] : List Keyword).isEmpty then 0 else 1) < 30)) = true
  line : (apos.endLine == cpos.line) = true
  trees : backTo cpos (starEach [e, f] X.env) = [(false, eval e X.env), (false, eval f X.env)]

/-- a is a dict, whatever its keys -/
def IsD (H : Hp) (a : Addr) : Prop := (∃ kvs, Rd H a (.dK kvs)) ∨ ∃ kvs, Rd H a (.dT kvs)

section
variable {X : Cx} {pins : List (Addr × Obj)} {σ : St} {H : Hp} {s : Shared} {a : Addr} {y d : V} {u r : Value} {o : Option V} {A : Around} {E : Value → Shared → Prop}
end

def tDGet1 (td ty : TE) : TE := fun σ H Q => td σ H fun x H1 => ∃ a, x = .ref a ∧ IsD H1 a ∧ ty σ H1 fun y H2 => ∃ o, DGet H2 a y o ∧ Q (o.getD .non) H2
def tDGet2 (td ty tx : TE) : TE := fun σ H Q => td σ H fun x H1 => ∃ a, x = .ref a ∧ IsD H1 a ∧ ty σ H1 fun y H2 => tx σ H2 fun z H3 => ∃ o, DGet H3 a y o ∧ Q (o.getD z) H3
/-- d.pop(k): there; d.pop(k, x): there or not -/
def tDPop1 (td ty : TE) : TE := fun σ H Q => td σ H fun x H1 => ∃ a, x = .ref a ∧ IsD H1 a ∧ ty σ H1 fun y H2 => ∃ kvs k v, H2 a = some (.dK kvs) ∧ y = kV k ∧ valV kvs k = some v ∧ Q v (upd H2 a (.dK (dropK kvs k)))
def tDPop2 (td ty tx : TE) : TE := fun σ H Q => td σ H fun x H1 => ∃ a, x = .ref a ∧ IsD H1 a ∧ ty σ H1 fun y H2 => tx σ H2 fun z H3 => ∃ kvs k, H3 a = some (.dK kvs) ∧ y = kV k ∧
  (∀ v, valV kvs k = some v → Q v (upd H3 a (.dK (dropK kvs k)))) ∧ (valV kvs k = none → Q z H3)
section
variable {X : Cx} {o e f : Expr} {apos cpos : Pos} {td ty tx : TE}
end

/-! ### dict(d): a copy -/
section
variable {X : Cx} {pins : List (Addr × Obj)} {σ : St} {H : Hp} {s : Shared} {a : Addr} {kvs : List (Key × V)} {A : Around} {E : Value → Shared → Prop}
end


section
variable {X : Cx} {pins : List (Addr × Obj)} {σ : St} {H : Hp} {s : Shared} {a : Addr} {y : V} {u : Value} {A : Around} {E : Value → Shared → Prop}
end
end L2

namespace L2
open PySem PySem.Spec PyProof.Rows


section
variable {prog : Program} {w : World} {A : Around} {E : Value → Shared → Prop}


end

section
variable {X : Cx}
end
end L2

namespace L2
open PySem PySem.Spec PyProof.Rows


section
variable {X : Cx} {pins : List (Addr × Obj)} {σ : St} {H : Hp} {s : Shared} {h' : Heap}
/-- .. and one new object is laid -/
theorem Inv.turnedNew {t' : Nat} {ch : List Addr} {T : Addr} {ob : HO} (I : Inv X pins σ H s) (k : ∀ b o, b ∉ ch → s.heap.get? b = some o → h'.get? b = some o) (hf : ∀ b ∈ ch, FpOk X pins H b) (hT : s.heap.objs.size ≤ T)
    (new : ObjOk X.prog X.w (upd H T ob) h' T ob) : Inv X pins σ (upd H T ob) { s with heap := h', toks := t' } := by
  have hn : H T = none := I.hok.fresh hT
  have nit : ∀ b u, H b = some u → b ∉ ch := fun b u e z => by
    have q := (hf b z).1
    rw [q] at e; cases e
  refine I.step (g' := s.gens) (d' := s.drawn) (ch := ch) (fun b hb => ⟨(hf b hb).2.2.2.1, (hf b hb).2.1, (hf b hb).2.2.2.2.1, (hf b hb).2.2.2.2.2⟩) (fun b o _ _ hc e _ => k b o hc e) (fun b o _ _ hc e _ => ⟨o.slots, k b o hc e⟩)
    (fun b o _ e n => ?_) (fun b o hc e => ⟨o, k b o hc e⟩) (fun b xs e => ?_) (fun b o u e => ?_) (fun b ps e => ⟨#[], ?_⟩) (fun m hm => ?_) (fun b u e => ?_) I.bare
  · rw [upd_ne (Nat.ne_of_lt (Nat.lt_of_lt_of_le (Heap.lt_size e) hT))]; exact n
  · rw [upd_ne (ne_of_none e hn)]; exact e
  · rw [upd_ne (ne_of_none e hn)]; exact e
  · rw [upd_ne (ne_of_none e hn), e]; simp
  · obtain ⟨o, es, ep, ho, r⟩ := hm
    exact ⟨o, es, ep, k _ o (fun z => (hf _ z).2.1 rfl) ho, r⟩
  · by_cases hb : b = T
    · subst hb
      rw [upd_same] at e
      cases e
      exact new
    · rw [upd_ne hb] at e
      refine (I.hok b u e).stay (fun c v hc q => k c v ?_ q) (fun c q => by rw [upd_ne (ne_of_none q hn)]; exact q) fun c xs q => by rw [upd_ne (ne_of_none q hn)]; exact q
      rcases hc with z | z
      · rw [z]; exact nit b u e
      · exact nit c _ z

/-! ### locking a thing while a statement runs -/
end
/-- the statement runs while the thing at d is locked (read, not written); d and what stands there are the reading's choice -/
def tLock (t : TS) : TS := fun D σ H => ∃ d u, H d = some u ∧ Mut (some u) ∧ ∀ od, t ⟨fun σ' H' => H' d = some (.frz od u) ∧ D.nx σ' (upd H' d u), fun v H' => H' d = some (.frz od u) ∧ D.rt v (upd H' d u), fun σ' H' => H' d = some (.frz od u) ∧ D.bk σ' (upd H' d u), fun σ' H' => H' d = some (.frz od u) ∧ D.ct σ' (upd H' d u)⟩ σ (upd H d (.frz od u))
def tLockE (t : TE) : TE := fun σ H Q => ∃ d u, H d = some u ∧ Mut (some u) ∧ ∀ od, t σ (upd H d (.frz od u)) fun v H' => H' d = some (.frz od u) ∧ Q v (upd H' d u)
section
variable {X : Cx}

/-! ### one iterator just laid -/
end

/-! ### range with a step -/
/-- lo, lo + c, .. (n of them) -/
def Itc (lo c : Int) (n : Nat) : It := ⟨fun i _ => i < n, fun i H x H' => H' = H ∧ x = .int (lo + (i : Nat) * c), fun i _ => n ≤ i⟩
/-- range(i, j, c): small bounds, n items -/
def RgC (i j c : Int) (n : Nat) : Prop := c ≠ 0 ∧ c.natAbs < 1073741824 ∧ Builtin.Range.small i j c = true ∧ Builtin.Range.rangeSize i j c = n
theorem RgC.neg {i j : Int} (ha : -(2 ^ 62) ≤ i) (ha' : i < 2 ^ 62) (hb : -(2 ^ 62) ≤ j) (hb' : j < 2 ^ 62) : RgC i j (-1) (i - j).toNat :=
  ⟨by decide, by decide, PySem.W.small_down ha ha' hb hb', PySem.W.rangeSize_downNat i j⟩
def iRng3 (ta : TA) : TI := fun σ H R => ta σ H fun vs H1 => ∃ (i j c : Int) (n : Nat), vs = [.int i, .int j, .int c] ∧ RgC i j c n ∧ R (Itc i c n) H1
section
variable {X : Cx} {tg : Expr}
end

/-! ### reversed(list) -/
/-- the list at a (n items at the start, which the loop leaves there), from its end -/
def Itv (K : PySem.W.Frag) (a : Addr) (n : Nat) : It :=
  ⟨fun i H => i < n ∧ ∃ (xs : List V) (x : V), SqL K H a xs ∧ xs[n - 1 - i]? = some x, fun i H x H' => H' = H ∧ ∀ xs, SqL K H a xs → xs[n - 1 - i]? = some x, fun i _ => n ≤ i⟩
def iRev (K : PySem.W.Frag) (ta : TA) : TI := fun σ H R => ta σ H fun vs H1 => ∃ (a : Addr) (xs : List V), vs = [.ref a] ∧ SqL K H1 a xs ∧ R (Itv K a xs.length) H1
section
variable {X : Cx} {tg : Expr}
end

/-! ### a str -/
def Its (x : Str) : It := ⟨fun i _ => i < x.cps.size, fun i H v H' => H' = H ∧ ∃ c, x.cps[i]? = some c ∧ v = .str ⟨#[c]⟩, fun i _ => x.cps.size ≤ i⟩
def iStr (te : TE) : TI := fun σ H R => te σ H fun v H1 => ∃ x, v = .str x ∧ R (Its x) H1

/-! ### a dict's keys: any dict's entries -/
section
variable {prog : Program} {w : World} {A : Around} {E : Value → Shared → Prop} {s : Shared}
end

/-! ### a locked dict -/
section
variable {X : Cx} {pins : List (Addr × Obj)} {σ : St} {H : Hp} {s : Shared} {d : Addr} {o : Obj}
end

/-- the keys of the locked dict at d, in their order -/
def Itk (d : Addr) (o : Obj) (kvs : List (Key × V)) : It :=
  ⟨fun i H => H d = some (.frz o (.dK kvs)) ∧ i < kvs.length, fun i H x H' => H' = H ∧ ∃ k v, kvs[i]? = some (k, v) ∧ x = kV k, fun i H => H d = some (.frz o (.dK kvs)) ∧ kvs.length ≤ i⟩
/-- .. of tuple keys: the key's own tuple -/
def Itkt (d : Addr) (o : Obj) (kvs : List (List Key × V)) : It :=
  ⟨fun i H => H d = some (.frz o (.dT kvs)) ∧ i < kvs.length, fun i H x H' => H' = H ∧ ∃ (k : List Key) (v : V) (q : Addr), kvs[i]? = some (k, v) ∧ x = .ref q ∧ H q = some (.tup (k.map kV)), fun i H => H d = some (.frz o (.dT kvs)) ∧ kvs.length ≤ i⟩
/-- the values -/
def Itd (d : Addr) (o : Obj) (kvs : List (Key × V)) : It :=
  ⟨fun i H => H d = some (.frz o (.dK kvs)) ∧ i < kvs.length, fun i H x H' => H' = H ∧ ∃ k, kvs[i]? = some (k, x), fun i H => H d = some (.frz o (.dK kvs)) ∧ kvs.length ≤ i⟩
/-- the pairs, each a new tuple -/
def Iti (d : Addr) (o : Obj) (kvs : List (Key × V)) : It :=
  ⟨fun i H => H d = some (.frz o (.dK kvs)) ∧ i < kvs.length, fun i H x H' => ∃ T k v, kvs[i]? = some (k, v) ∧ x = .ref T ∧ H T = none ∧ H' = upd H T (.tup [kV k, v]), fun i H => H d = some (.frz o (.dK kvs)) ∧ kvs.length ≤ i⟩
section
variable {P : Program} {w : World} {K : PySem.W.Frag} {tg : Expr} {d : Addr} {o : Obj} {es : Array DictEntry} {ep : Nat}
end

/-! ### for k in d, d.keys(), d.values(), d.items() -/
/-- the dict is locked (tLock, or by the caller) -/
def iKeys (td : TE) : TI := fun σ H R => td σ H fun x H1 => ∃ d o, x = .ref d ∧ ((∃ kvs, H1 d = some (.frz o (.dK kvs)) ∧ R (Itk d o kvs) H1) ∨ ∃ kvs, H1 d = some (.frz o (.dT kvs)) ∧ R (Itkt d o kvs) H1)
def iVals (td : TE) : TI := fun σ H R => td σ H fun x H1 => ∃ d o kvs, x = .ref d ∧ H1 d = some (.frz o (.dK kvs)) ∧ R (Itd d o kvs) H1
def iItems (td : TE) : TI := fun σ H R => td σ H fun x H1 => ∃ d o kvs, x = .ref d ∧ H1 d = some (.frz o (.dK kvs)) ∧ R (Iti d o kvs) H1
def iKeysM (td : TE) : TI := fun σ H R => td σ H fun x H1 => ∃ d o kvs, x = .ref d ∧ H1 d = some (.frz o (.dK kvs)) ∧ R (Itk d o kvs) H1
section
variable {X : Cx} {tg e : Expr} {td : TE} {apos cpos : Pos}
end

/-! ### enumerate(list) -/
/-- the list at a as it stands at each turn, each item in a new pair -/
def Ite (K : PySem.W.Frag) (a : Addr) : It :=
  ⟨fun i H => ∃ (xs : List V) (x : V), SqL K H a xs ∧ xs[i]? = some x, fun i H v H' => ∃ T x, v = .ref T ∧ H T = none ∧ H' = upd H T (.tup [.int (i : Nat), x]) ∧ ∀ xs, SqL K H a xs → xs[i]? = some x, fun i H => ∃ xs : List V, SqL K H a xs ∧ xs.length ≤ i⟩
def iEnum (K : PySem.W.Frag) (ta : TA) : TI := fun σ H R => ta σ H fun vs H1 => ∃ a xs, vs = [.ref a] ∧ SqL K H1 a xs ∧ R (Ite K a) H1
/-! ### zip(list, list) -/
/-- the lists at a and b as they stand at each turn, the items in new pairs -/
def Itz (K : PySem.W.Frag) (a b : Addr) : It :=
  ⟨fun i H => ∃ (xs ys : List V) (x y : V), SqL K H a xs ∧ SqL K H b ys ∧ xs[i]? = some x ∧ ys[i]? = some y,
    fun i H v H' => ∃ T x y, v = .ref T ∧ H T = none ∧ H' = upd H T (.tup [x, y]) ∧ (∀ xs, SqL K H a xs → xs[i]? = some x) ∧ ∀ ys, SqL K H b ys → ys[i]? = some y,
    fun i H => ∃ xs ys : List V, SqL K H a xs ∧ SqL K H b ys ∧ (xs.length ≤ i ∨ ys.length ≤ i)⟩
def iZip (K : PySem.W.Frag) (ta : TA) : TI := fun σ H R => ta σ H fun vs H1 => ∃ a b xs ys, vs = [.ref a, .ref b] ∧ SqL K H1 a xs ∧ SqL K H1 b ys ∧ R (Itz K a b) H1
end L2

section 
namespace Bits
open PySem PyProof.Rows








end Bits
end 

section 
namespace TL
open PySem PySem.Builtin PySem.Builtin.Str PySem.StrLaws

abbrev tl (x : Str) : List Nat := x.cps.toList

/-! ### the list functions -/
/-- S stands at the head of l -/
def pre (S l : List Nat) : Bool := l.take S.length == S
/-- l cut at each S from the left; k signs are still to be passed over -/
def spl (S : List Nat) : Nat → List Nat → List Nat → List (List Nat)
  | _, acc, [] => [acc]
  | 0, acc, c :: r => if pre S (c :: r) = true then acc :: spl S (S.length - 1) [] r else spl S 0 (acc ++ [c]) r
  | k + 1, acc, _ :: r => spl S k acc r
/-- what stands before the first S, and behind it -/
def par (S : List Nat) : List Nat → List Nat → Option (List Nat × List Nat)
  | _, [] => none
  | acc, c :: r => if pre S (c :: r) = true then some (acc, (c :: r).drop S.length) else par S (acc ++ [c]) r




/-! ### the model's split and partition are these -/




/-! ### computing spl and par -/

/-- joined lists -/
def joinL (S : List Nat) : List (List Nat) → List Nat
  | [] => []
  | [p] => p
  | p :: q :: r => p ++ (S ++ joinL S (q :: r))

/-! ### digits -/
/-- the signs of a number -/
def numL (n : Nat) : List Nat := (Nat.toDigits 10 n).map Char.toNat

/-! ### words: x.split() -/
def wstep (st : List (List Nat) × List Nat) (c : Nat) : List (List Nat) × List Nat :=
  if Unicode.isSpace c = true then (if st.2 = [] then st else (st.1 ++ [st.2], [])) else (st.1, st.2 ++ [c])
def wfin (st : List (List Nat) × List Nat) : List (List Nat) := if st.2 = [] then st.1 else st.1 ++ [st.2]
end TL
end 

namespace L2
open PySem PySem.Spec PyProof.Rows



/-- a new list of texts, tracked -/
def rNewStrs (ys : List Str) : Hp → VK → Prop := fun H Q => ∀ p, H p = none → Q (.ref p) (upd H p (.lst (ys.map V.str)))

section
variable {X : Cx} {pins : List (Addr × Obj)} {σ : St} {H : Hp} {s : Shared} {Q : VK}
end

section
variable {X : Cx}





/-! ### of a text alone -/

/-! ### of a text and a text -/

end

section
variable {X : Cx} {o e : Expr} {to te : TE}
def tM0 (r : V → List V → Hp → VK → Prop) (to : TE) : TE := fun σ H Q => to σ H fun x H1 => (∃ a, x = .str a) ∧ r x [] H1 Q
def tM1 (r : V → List V → Hp → VK → Prop) (to te : TE) : TE := fun σ H Q => to σ H fun x H1 => (∃ a, x = .str a) ∧ te σ H1 fun y H2 => r x [y] H2 Q

end
end L2

namespace L2
open PySem PySem.Spec PyProof.Rows

section
variable {X : Cx}
end

/-! ### slices of a text -/
theorem IsPart.raw {v : Value} {o : Option Int} (p : IsPart v o) : ∃ l : Option (Int × Tok), v = partValue l ∧ l.map (·.1) = o := by
  cases p with
  | none => exact ⟨none, rfl, rfl⟩
  | int i t => exact ⟨some (i, t), rfl, rfl⟩

/-- a part, clipped, as the text's slice reckons it -/
def clipS (n d : Nat) : Option Int → Int
  | none => (d : Int)
  | some i => max 0 (min (if i < 0 then i + (n : Int) else i) (n : Int))

/-- z[lo:hi] -/
def cutS (z : Str) (lo hi : Option Int) : Str :=
  ⟨((z.cps.toList.drop (HT.sIx z.length 0 lo)).take (HT.sIx z.length z.length hi - HT.sIx z.length 0 lo)).toArray⟩
def rSlS : V → Option Int → Option Int → Hp → VK → Prop := fun x lo hi H Q => ∃ z, x = .str z ∧ z.length ≤ sizeLine ∧ Q (.str (cutS z lo hi)) H
end L2

namespace Att
open PySem PySem.W PySem.Calls PyProof.Rows

/-! ### the script -/
theorem ints_of_wellAll {P : Params} {h : Heap} : ∀ (ns : List Int) (vs : List Value), WellAll P h vs (ns.map WData.int) → IntsAre vs ns := by
  intro ns
  induction ns with
  | nil =>
    intro vs w
    rw [List.map_nil] at w
    cases w
    exact .nil
  | cons n ns ih =>
    intro vs w
    rw [List.map_cons] at w
    cases w with
    | cons a b =>
      cases a
      exact .cons _ _ (ih _ b)

theorem script_of {l : OpenLaw} {n : Nat} (hn : l.most = some n) {P : Params} {h : Heap} {args : List WData} {vals : List Value}
    (hpre : l.row.toRowW.claim.pre args = true) (hwl : WellAll P h vals args) :
    ∃ a vs ns, vals = [Value.ref a] ∧ args = [WData.list (ns.map WData.int)] ∧ h.get? a = some { cls := .type "list", data := .seq vs.toArray } ∧ IntsAre vs ns ∧ ns.length ≤ n := by
  have hsh : WShape.hasAll [] args [.list .int] = true := (pre_splitW hpre).1
  have hc : l.pre.holds [] { args := args } = true := (pre_splitW hpre).2
  obtain ⟨d, r, rfl, h1, h2⟩ := hasAllW_cons hsh
  obtain rfl := hasAllW_nil h2
  obtain ⟨xs, rfl, h3⟩ := hasW_list h1
  obtain ⟨ns, rfl⟩ := items_int h3
  have hlen : ns.length ≤ n := by
    unfold OpenLaw.pre at hc
    have h4 : (WTm.not (.lt (.lit (.int (n : Int))) (.len (.arg 0)))).holds [] { args := [.list (ns.map .int)] } = true := by
      have h4 := (holds_andW hc).1
      rw [hn] at h4
      exact h4
    have h5 := condW_of h4 (w_not (w_lt w_lit (w_len_list (w_arg rfl))))
    rw [List.length_map] at h5
    refine Nat.le_of_not_lt fun q => ?_
    have q' : (n : Int) < ((ns.length : Nat) : Int) := by omega
    first
      | (rw [decide_eq_true q'] at h5; exact absurd h5 (by decide))
      | (simp at h5; omega)
  cases hwl with
  | cons w1 w2 =>
    cases w2
    cases w1 with
    | list ho hall => exact ⟨_, _, ns, rfl, rfl, ho, ints_of_wellAll ns _ hall, hlen⟩

theorem post_true (l : OpenLaw) (args : List WData) : l.row.toRowW.claim.post args (.bool true) args = true :=
  postW_of (r := l.row.toRowW) (X := (true == true))
    (show WShape.has [] (.bool true) .bool = true by first | rfl | decide | simp [WShape.has, WShape.arms, WShape.armsAll])
    (show (WTm.eq .res (.lit (.bool true))).value [] { args := args, res := some (.bool true), after := args } = some (.bool (true == true)) from w_eq_bool (w_res rfl) w_lit) rfl

/-! ### the attachment: holds_open's last premise (the goal 'hc' behind k_head) from a wpAny of the law's body -/

/-- the same from a codeAny of the CALL (for a layer whose function contracts speak of calls) -/
theorem attach_call {l : OpenLaw} {n : Nat} {q : Program} {loose : List Str} {XP : (Str → Option Value) → Heap → Prop} {YP : World → Heap → Prop} {d : DefRec}
    (hn : l.most = some n) (hdf : d.params.defaults = [])
    (call : ∀ (w : World) (s₀ s₁ : Shared) (mg mb : Str → Option Value) (fa : Addr) (o : Obj) (pm cd doc : Value) (a : Addr) (vs : List Value) (ns : List Int),
      Ground q loose [] XP w s₀ mg mb s₁.heap → YP w s₁.heap →
      s₁.heap.get? fa = some o → o.data = .func (docDef d.name d.params d.body d.scope pm cd doc) → s₁.heap.CodeRec cd d.name → mg d.name = some (.ref fa) →
      s₁.heap.get? a = some { cls := .type "list", data := .seq vs.toArray } → IntsAre vs ns → ns.length ≤ n → s₁.gens = #[] →
      codeAny (model l.prog w) callerA (.call (.ref fa) ⟨[.ref a], []⟩) (fun r s' => r = .ok (.ret (.bool true)) ∧ OldK s₁.heap s'.heap ∧ s'.os = s₁.os ∧ AllBare s'.gens) s₁) :
    WalkO q loose XP YP l.row.toRowW d [] (fun f vs => PySem.call f vs) := by
  intro w s₀ s₁ mg mb G Y fa o pm cd doc dV kV ho hd hcd hD hmg hg args vals as hpre hlay hrd hwl hlo
  obtain rfl : dV = .none := Dflts.none hD hdf
  obtain rfl : kV = .none := Dflts.noKw hD
  obtain ⟨a, vs, ns, rfl, rfl, hobj, hints, hlen⟩ := script_of hn hpre hwl
  refine enter_call (codeAny_mono (call w s₀ s₁ mg mb fa o pm cd doc a vs ns G Y ho (fd_plain hd) hcd hmg hobj hints hlen hg) fun r s' hq => ?_)
  obtain ⟨rfl, h2, h3, h4⟩ := hq
  exact ⟨.inl ⟨.bool true, .bool true, [], rfl, fun _ => rfl, .bool true, post_true l _, fun _ => ⟨List.Pairwise.nil, fun _ hm => (nomatch hm)⟩⟩, h2, h3, h4⟩


/-! ### rules over ANY heap (no ledger) from facts about the written part K: the library's own take a ledger (News) for what they write -/
section
variable {prog : Program} {w : World} {A : Around} {E : Value → Shared → Prop} {s : Shared} {K : Frag}





/-! the whole heap as the ledger: makes every rule that writes through a ledger a rule over any heap -/
def noObjs (h : Heap) : Heap := { h with objs := #[] }
def ledger (h : Heap) (L d : Addr) : List (Addr × Obj) := (List.range h.objs.size).filterMap fun a => if a = L ∨ a = d then none else (h.get? a).map fun o => (a, o)

end
end Att

namespace L2
open PySem PySem.Spec PyProof.Rows

theorem vals_ints : ∀ {vs : List Value} {ns : List Int}, IntsAre vs ns → Vals (ns.map V.int) vs
  | _, _, .nil => .nil
  | _, _, .cons n t h => .cons ⟨t, rfl⟩ (vals_ints h)

/-- nothing is tracked but the script, known to the object (or it is an object of the module) -/
def Only (H : Hp) : Prop := ∀ b, H b = none ∨ ∃ o xs, H b = some (.frz o (.lst xs))

/-- THE HEAD: the law's promise, at the heap behind the top. F, the promise of the law's def, may use that base is part of the heap (so K.In base, base.Ns mainGlobals mg stand in Mod) -/
theorem law_call {P : Program} {w : World} {K : PySem.W.Frag} {mg mb : Str → Option Value} {CX : CXT} {k : Nat} {fa a : Addr} {fd : FuncData} {x : Str} {sp : Sp} {s₁ : Shared} {vs : List Value} {ns : List Int}
    (KX : K.In s₁.heap) (hns : s₁.heap.Ns mainGlobals mg) (hb : s₁.heap.Ns builtinsNs mb) (hbb : ∀ x : Str, x ≠ "__name__" → mb x = bootBuiltins x) (hlim : s₁.heap.NoLimit) (hg : s₁.gens = #[])
    (ha : s₁.heap.get? a = some { cls := .type "list", data := .seq vs.toArray }) (hi : IntsAre vs ns) (hl : ns.length ≤ sizeLine) (hr : Room k callerA)
    (F : ∀ base : Heap, K.In base → base.Ns mainGlobals mg → FnOk P w K mg base CX k fa fd [x] sp) (hbind : ∀ (s : Shared) (u : Value), BindsTo s fd ⟨[u], []⟩ [(x, u)])
    (hsp : ∀ H : Hp, Only H → SqL K H a (ns.map V.int) → sp [.ref a] H (fun v _ => v = .bl true) fun _ _ _ => False)
    (hCX : ∀ H e s', CX [] H s₁ (fun _ _ _ => False) e s' → False) :
    codeAny (model P w) callerA (.call (.ref fa) ⟨[.ref a], []⟩) (fun r s' => r = .ok (.ret (.bool true)) ∧ OldK s₁.heap s'.heap ∧ s'.os = s₁.os ∧ AllBare s'.gens) s₁ := by
  have rv := vals_ints hi
  have lenV := hi.length
  -- from an abstract heap in which nothing but the script may be tracked
  have core : ∀ H : Hp, Only H → SqL K H a (ns.map V.int) → HOk P w H s₁.heap → (∀ b, H b ≠ none → b = a) → (H a ≠ none → K.lookup a = none) →
      codeAny (model P w) callerA (.call (.ref fa) ⟨[.ref a], []⟩) (fun r s' => r = .ok (.ret (.bool true)) ∧ OldK s₁.heap s'.heap ∧ s'.os = s₁.os ∧ AllBare s'.gens) s₁ := by
    intro H hO hS hok hA hK
    have base_of : ∀ {b : Addr} {o : Obj}, s₁.heap.get? b = some o → H b = none → (hidT s₁.heap H).get? b = some o := fun e n => hidT_get e n
    have noA : ∀ {b : Addr} {o : Obj} {es : Array DictEntry} {ep : Nat}, s₁.heap.get? b = some o → o.data = .dict es ep → H b = none := fun {b o es ep} e d => by
      cases q : H b with
      | none => rfl
      | some u =>
        have e' : b = a := hA b (by rw [q]; simp)
        subst e'
        rw [ha] at e; cases e
        have d' : Data.seq vs.toArray _ = Data.dict es ep := d
        cases d'
    have nsK : ∀ {b : Addr} {m : Str → Option Value}, s₁.heap.Ns b m → (hidT s₁.heap H).Ns b m := fun {b m} ⟨o, es, ep, e, d, r⟩ => ⟨o, es, ep, base_of e (noA e d), d, r⟩
    have hKb : K.In (hidT s₁.heap H) := fun b o e => base_of (KX b o e) (by
      cases q : H b with
      | none => rfl
      | some u =>
        have e' : b = a := hA b (by rw [q]; simp)
        subst e'
        rw [hK (by rw [q]; simp)] at e; cases e)
    have hM : Mod K mg (hidT s₁.heap H) := ⟨hKb, nsK hns, ⟨mb, nsK hb, hbb⟩, let ⟨mc, h1, h2⟩ := hlim; ⟨mc, nsK h1, h2⟩⟩
    have e0 : Env0 P w K mg (hidT s₁.heap H) callerA [] s₁ H := ⟨rfl, hM, fun b o e => of_hidT e, Nat.le_of_eq (hidT_size _ _), trivial, fun b hb => absurd (show b ∈ ([] : List Addr) from hb) (by simp), hok, .of_eq hg⟩
    refine codeAny_mono ((F _ hKb (nsK hns)).run callerA [] s₁ H ⟨[.ref a], []⟩ [.ref a] [.ref a] _ _ hr e0 (hbind s₁ (.ref a)) (.cons rfl .nil) (hsp H hO hS)) fun r s' h => ?_
    cases r with
    | error e => exact (hCX H e s' h).elim
    | ok fl =>
      cases fl with
      | next => exact False.elim h
      | brk => exact False.elim h
      | cont => exact False.elim h
      | ret u =>
        obtain ⟨v, H', os, bare, un, hok', r', q⟩ := h
        have q' : v = .bl true := q
        subst q'
        obtain rfl : u = Value.bool true := r'
        refine ⟨rfl, OldK.of_keep fun b o e => ?_, os, bare⟩
        cases q : H b with
        | none => exact un.keep b o e q (by intro z; exact absurd (show b ∈ ([] : List Addr) from z) (by simp)) (by simp)
        | some u =>
          rcases hO b with z | ⟨ob, xs, z⟩
          · rw [q] at z; cases z
          · have z2 := un.frzs b ob _ z
            obtain ⟨e1, _⟩ := hok b _ z
            obtain ⟨e2, _⟩ := hok' b _ z2
            rw [e] at e1; cases e1
            exact e2
  cases hk : K.lookup a with
  | some o =>
    -- the script is one of the module's own objects
    have e := KX a o hk
    rw [ha] at e
    cases e
    refine core (fun _ => none) (fun _ => .inl rfl) (.inr ⟨_, vs.toArray, _, hk, rfl, rfl, rfl, by rw [List.size_toArray, lenV]; exact hl, by simpa using rv⟩) (fun b u z => by have z' : (none : Option HO) = some u := z; cases z') (fun b z => absurd rfl z) fun z => absurd rfl z
  | none =>
    refine core (fun b => if b = a then some (.frz { cls := .type "list", data := .seq vs.toArray } (.lst (ns.map V.int))) else none) (fun b => ?_) (.inl (.inr ⟨{ cls := .type "list", data := .seq vs.toArray }, if_pos rfl⟩)) (fun b u z => ?_) (fun b z => ?_) fun _ => hk
    · by_cases hb : b = a
      · exact .inr ⟨_, _, if_pos hb⟩
      · exact .inl (if_neg hb)
    · by_cases hb : b = a
      · have z' := (if_pos hb).symm.trans z
        cases z'
        subst hb
        exact ⟨ha, by rw [List.length_map]; exact hl, vs, _, rv, ha⟩
      · have z' := (if_neg hb).symm.trans z
        cases z'
    · by_cases hb : b = a
      · exact hb
      · exact absurd (if_neg hb) z
end L2

namespace L2
open PySem PySem.Spec PyProof.Rows

abbrev KOf {K : PySem.W.Frag} {h : Heap} (_ : K.In h) : PySem.W.Frag := K

/-- the goal that k_head leaves (case hc), from the law's promise. F gives the function object fd (K's own) once, then the promise over every base -/
theorem walk_of {l : PySem.W.OpenLaw} {n k : Nat} {q : Program} {loose : List Str} {XP : (Str → Option Value) → Heap → Prop} {YP : World → Heap → Prop} {d : DefRec} {K : Params → PySem.W.Frag} {CX : World → CXT} {sp : World → Sp} {x : Str}
    (hn : l.most = some n) (hn2 : n ≤ sizeLine) (hdf : d.params.defaults = []) (hr : Room k callerA)
    (hY : ∀ (w : World) (h : Heap), YP w h → (K w.params).In h)
    (F : ∀ (w : World) (mg : Str → Option Value) (fa : Addr) (h : Heap), (K w.params).In h → h.Ns mainGlobals mg → mg d.name = some (.ref fa) →
      ∃ fd : FuncData, (∀ (s : Shared) (u : Value), BindsTo s fd ⟨[u], []⟩ [(x, u)]) ∧
        ∀ base : Heap, (K w.params).In base → base.Ns mainGlobals mg → FnOk l.prog w (K w.params) mg base (CX w) k fa fd [x] (sp w))
    (hsp : ∀ (w : World) (H : Hp) (a : Addr) (ns : List Int), ns.length ≤ n → Only H → SqL (K w.params) H a (ns.map V.int) → sp w [.ref a] H (fun v _ => v = .bl true) fun _ _ _ => False)
    (hCX : ∀ (w : World) (H : Hp) (s : Shared) (e : Value) (s' : Shared), CX w [] H s (fun _ _ _ => False) e s' → False) :
    PySem.W.WalkO q loose XP YP l.row.toRowW d [] (fun f vs => PySem.call f vs) := by
  refine Att.attach_call hn hdf fun w s₀ s₁ mg mb fa o pm cd doc a vs ns G Y ho hd hcd hmg hobj hints hlen hg => ?_
  have KX := hY w _ Y
  obtain ⟨fd, hb, hF⟩ := F w mg fa _ KX G.T.g hmg
  exact law_call KX G.T.g G.T.b G.T.builtins G.T.nolimit hg hobj hints (Nat.le_trans hlen hn2) hr hF hb (fun H hO hS => hsp w H a ns hlen hO hS) fun H e s' => hCX w H s₁ e s'
/-- the same where the promise hangs on the written part alone: (sp := My.sp_law), no hole under a binder -/
theorem walk_ofK {l : PySem.W.OpenLaw} {n k : Nat} {q : Program} {loose : List Str} {XP : (Str → Option Value) → Heap → Prop} {YP : World → Heap → Prop} {d : DefRec} {K : Params → PySem.W.Frag} {CX : CXT} {sp : PySem.W.Frag → Sp} {x : Str}
    (hn : l.most = some n) (hn2 : n ≤ sizeLine) (hdf : d.params.defaults = []) (hr : Room k callerA)
    (hY : ∀ (w : World) (h : Heap), YP w h → (K w.params).In h)
    (F : ∀ (w : World) (mg : Str → Option Value) (fa : Addr) (h : Heap), (K w.params).In h → h.Ns mainGlobals mg → mg d.name = some (.ref fa) →
      ∃ fd : FuncData, (∀ (s : Shared) (u : Value), BindsTo s fd ⟨[u], []⟩ [(x, u)]) ∧
        ∀ base : Heap, (K w.params).In base → base.Ns mainGlobals mg → FnOk l.prog w (K w.params) mg base CX k fa fd [x] (sp (K w.params)))
    (hsp : ∀ (K : PySem.W.Frag) (H : Hp) (a : Addr) (ns : List Int), ns.length ≤ n → Only H → SqL K H a (ns.map V.int) → sp K [.ref a] H (fun v _ => v = .bl true) fun _ _ _ => False)
    (hCX : ∀ (H : Hp) (s : Shared) (e : Value) (s' : Shared), CX [] H s (fun _ _ _ => False) e s' → False) :
    PySem.W.WalkO q loose XP YP l.row.toRowW d [] (fun f vs => PySem.call f vs) :=
  walk_of (K := K) (CX := fun _ => CX) (sp := fun w => sp (K w.params)) hn hn2 hdf hr hY F (fun w H a ns h1 h2 h3 => hsp (K w.params) H a ns h1 h2 h3) fun _ H s e s' => hCX H s e s'
end L2

/- THE LAST THEOREM (shape; LID, My.* are yours):
   My.Adr: a structure of the addresses that your layer names (classes, functions); My.Txt K t: a structure (Prop) of the equations over K;
   My.txt_mk : {K} {implicit addresses ..} (e1 : nsIn K mainGlobals "law" = some (some (.ref f))) (e2 : K.lookup f = some ⟨oc, od, .func (fnOf "law" "law" params body scope dV kV doc pm an cdv ct), sl⟩) (e3 : codeIn K cdv "law" = true) .. : ∃ t, My.Txt K t

set_option maxRecDepth 100000 in
set_option maxHeartbeats 0 in
theorem PySem.Challenge.cw_LID_holds : PySem.Challenge.rw_LID.Holds := by
  w_on; o_law; k_head; (case hw => w_witness2)
  k_fill
  refine L2.walk_of (l := PySem.Challenge.rw_LID) (n := 63) (k := 40) (x := "script") (CX := fun w => ..) (sp := fun _ => My.sp_law) rfl (by decide) rfl ⟨rfl, by decide, by decide⟩ (fun w h Y => PySem.W.kIn_of Y) ?F ?S ?C
  case F =>
    intro w mg fa h KX G hmg
    have T : ∃ t, My.Txt (L2.KOf KX) t := by
      dsimp only [L2.KOf]                          -- K must stand as «<heap const> w.params» for k_is
      refine' My.txt_mk ?e1 ?e2 ?e3 ..
      (case e1 => PySem.W.k_is)                    -- in the order: a name -> its address -> its object -> its parts
      (case e2 => PySem.W.k_is)
      ..
    obtain ⟨t, T⟩ := T
    have e0 := hmg.symm.trans (PySem.W.mg_of KX G T.law)
    cases e0                                       -- fa is the law's own address
    exact ⟨_, fun s u => .of_eq rfl, fun base kb nb => My.law_fn T kb nb⟩     -- if «.of_eq rfl» comes too early: refine' ⟨_, ?b, fun base kb nb => My.law_fn T kb nb⟩; exact fun s u => .of_eq rfl
  case S => exact fun w H a ns hl hO hS => ..
  case C => exact ..
(the tactic k_is has no namespace: write k_is) -/

/-! SHORT WORDS over the layer: a def of the text, its body, what a loop and a test want. -/
namespace L2
open PySem PySem.Spec PyProof.Rows

/-! ### the text by places -/
/-- the j-th statement of a class's body -/
def inClass (s : Stmt) (j : Nat) : Stmt := match s with
  | .ClassDef _ _ _ body _ _ _ _ _ _ _ => body.getD j (.Pass ⟨0, 0, 0, 0⟩)
  | _ => .Pass ⟨0, 0, 0, 0⟩
def defArgs (s : Stmt) : Arguments := match s with
  | .FunctionDef _ a _ _ _ _ _ _ _ _ => a
  | _ => { posonlyargs := [], args := [], vararg := none, kwonlyargs := [], kw_defaults := [], kwarg := none, defaults := [] }
def defBody (s : Stmt) : List Stmt := match s with
  | .FunctionDef _ _ b _ _ _ _ _ _ _ => b
  | _ => []
def defScope (s : Stmt) : Scope := match s with
  | .FunctionDef _ _ _ _ _ _ sc _ _ _ => sc
  | _ => { kind := .function, names := [], isGenerator := false, isCoroutine := false }

/-! ### no exception leaves a def -/
abbrev CX0 : CXT := fun _ _ _ _ _ _ => False
abbrev E0 : XK := fun _ _ _ => False
theorem pass0 {X : Cx} : Passes CX0 X E0 := fun _ _ _ _ _ _ _ h => h.elim

/-! ### a def (or method) of the text as it stands behind the top -/
structure Fun (K : PySem.W.Frag) (x qual : Str) (st : Stmt) (f : Addr) (fd : FuncData) : Prop where
  ex : ∃ (oc : Value) (od : Option Addr) (kV doc pm : Value) (an : Option Addr) (cdv ct : Value) (osl : Array (Option Value)),
    fd = PySem.W.fnOf x qual (defArgs st) (defBody st) (defScope st) .none kV doc pm an cdv ct ∧ K.lookup f = some ⟨oc, od, .func fd, osl⟩ ∧ PySem.W.codeIn K cdv qual = true
  kp : PySem.W.keepIn K (.ref f) = true
section
variable {P : Program} {w : World} {K : PySem.W.Frag} {mg : Str → Option Value} {base : Heap}
/-- THE RULE for a def: its body as a term of rules, and the reading of that term -/
theorem Fun.ok {x qual : Str} {st : Stmt} {f : Addr} {fd : FuncData} {N ps : List Str} {k : Nat} {sp : Sp} (F : Fun K x qual st f fd) (S : FnScope N ps (defScope st)) (len : ∀ vs H Q E, sp vs H Q E → vs.length = ps.length)
    (hbody : ∀ (cdv : Value) (A : Around) (outer : List Env) (s : Shared) (H : Hp) (vs : List V) (Q : VK) (E : XK), Room k (A.deeper (envOfC qual (defScope st) s.heap.objs.size f cdv)) → sp vs H Q E →
      ∃ t, PSs (cxOf CX0 P w K mg base N qual (defScope st) f cdv A outer s H E).nox (defBody st) t ∧ t { nx := fun _ H' => Q .non H', rt := Q } (start N vs) H) : FnOk P w K mg base CX0 (k + 1) f fd ps sp := by
  obtain ⟨oc, od, kV, doc, pm, an, cdv, ct, osl, rfl, lk, hcd⟩ := F.ex
  refine fn_of lk hcd S len fun A outer s H vs Q E hr hsp => ?_
  obtain ⟨t, h, q⟩ := hbody cdv A outer s H vs Q E hr hsp
  exact ⟨t, h.nox, q⟩
/-- how its arguments bind (no defaults): h is «fun _ _ _ _ _ _ us hl => match us, hl with | [_, _], _ => rfl», one _ a parameter -/
theorem Fun.binds {x qual : Str} {st : Stmt} {f : Addr} {fd : FuncData} {ps : List Str} (F : Fun K x qual st f fd)
    (h : ∀ (kV doc pm : Value) (an : Option Addr) (cdv ct : Value) (us : List Value), us.length = ps.length → bindArgs (PySem.W.fnOf x qual (defArgs st) (defBody st) (defScope st) .none kV doc pm an cdv ct) ⟨us, []⟩ = pure (ps.zip us)) : Binds K fd ps [] := by
  obtain ⟨oc, od, kV, doc, pm, an, cdv, ct, osl, rfl, lk, hcd⟩ := F.ex
  exact .all (h kV doc pm an cdv ct)
theorem fun_mk {x qual : Str} {st : Stmt} {f : Addr} {oc : Value} {od an : Option Addr} {osl : Array (Option Value)} {kV doc pm cdv ct : Value} (l : K.lookup f = some ⟨oc, od, .func (PySem.W.fnOf x qual (defArgs st) (defBody st) (defScope st) .none kV doc pm an cdv ct), osl⟩)
    (c : PySem.W.codeIn K cdv qual = true) (k : PySem.W.keepIn K (.ref f) = true) : Fun K x qual st f (PySem.W.fnOf x qual (defArgs st) (defBody st) (defScope st) .none kV doc pm an cdv ct) := ⟨⟨oc, od, kV, doc, pm, an, cdv, ct, osl, rfl, l, c⟩, k⟩
end
theorem hu_of {A : Around} {k : Nat} (hr : Room k A) : A.units + 1 < cLine := Nat.lt_of_le_of_lt (Nat.add_le_add_left (by decide : 1 ≤ 64) _) hr.units
theorem small1000 {n : Nat} (h : n ≤ 1000) : n < sizeLine := Nat.lt_of_le_of_lt h (by decide)

/-! ### expressions in short: the name that stands in the i-th slot -/
section
variable {X : Cx}
end

/-! ### tests -/
theorem iteF {A B : Prop} (h : B) : if false = true then A else B := by
  rw [if_neg Bool.false_ne_true]
  exact h
theorem iteT {A B : Prop} (h : A) : if true = true then A else B := by
  rw [if_pos rfl]
  exact h

/-! ### heaps -/
/-- all that was tracked is as it was -/
def Same (H H' : Hp) : Prop := ∀ b o, H b = some o → H' b = some o
theorem Same.refl (H : Hp) : Same H H := fun _ _ h => h
theorem Same.trans {H H1 H2 : Hp} (a : Same H H1) (b : Same H1 H2) : Same H H2 := fun c o h => b c o (a c o h)
theorem Same.free {H H' : Hp} (e : Same H H') {l : Addr} (h : H' l = Option.none) : H l = Option.none := by
  cases q : H l with
  | none => rfl
  | some o =>
    rw [e l o q] at h
    cases h
theorem Same.seq {K : PySem.W.Frag} {H H' : Hp} {a : Addr} {xs : List V} (e : Same H H') (h : SqL K H a xs) : SqL K H' a xs := by
  rcases h with (h | ⟨o, h⟩) | h
  · exact .inl (.inl (e _ _ h))
  · exact .inl (.inr ⟨o, e _ _ h⟩)
  · exact .inr h

/-! ### a dict's pairs: keys that differ -/
section
variable {κ : Type} [DecidableEq κ]
theorem nd_snoc : ∀ {l : List κ} {k : κ}, l.Nodup → ¬ k ∈ l → (l ++ [k]).Nodup
  | [], k, _, _ => by simp
  | a :: r, k, h, hk => by
    obtain ⟨h1, h2⟩ := List.nodup_cons.mp h
    show (a :: (r ++ [k])).Nodup
    refine List.nodup_cons.mpr ⟨fun m => ?_, nd_snoc h2 fun m => hk (List.mem_cons.mpr (Or.inr m))⟩
    rcases List.mem_append.mp m with q | q
    · exact h1 q
    · exact hk (List.mem_cons.mpr (Or.inl (List.mem_singleton.mp q).symm))
end
/-! ### lists -/
theorem nd_ix {α : Type} {l : List α} (hN : l.Nodup) {i j : Nat} {x : α} (a : l[i]? = some x) (b : l[j]? = some x) : i = j := by
  obtain ⟨h1, e1⟩ := List.getElem?_eq_some_iff.mp a
  obtain ⟨h2, e2⟩ := List.getElem?_eq_some_iff.mp b
  exact (List.getElem_inj hN).mp (e1.trans e2.symm)
/-- a new instance and its __init__ leave all that was tracked as it was -/
theorem Same.made {H H1 : Hp} {x dx C : Addr} (nx : H x = Option.none) (nd : H dx = Option.none) (k : ∀ b o, (upd (upd H dx (.own x)) x (.ins C dx [])) b = some o → b ≠ x → H1 b = some o) : Same H H1 := fun b o e =>
  k b o (by rw [upd_ne (ne_of_none e nx), upd_ne (ne_of_none e nd)]; exact e) (ne_of_none e nx)
end L2

/-! A reading of the text as plain functions: data D, a store of changeable things, programs M. What a program gives, the model's run gives. -/
namespace Ev
open PySem PySem.Spec PyProof.Rows L2

inductive D where
  | non | bl (b : Bool) | int (i : Int) | str (x : Str) | tup (xs : List D) | sq (xs : List D) | loc (n : Nat)
inductive O where
  | lst (xs : List D) | dic (kvs : List (Key × D)) | ins (c : Nat) (fs : List (Str × D))
abbrev Sto := List O
abbrev M (α : Type) := Sto → Option (α × Sto)
abbrev DEnv := List (Option D)
abbrev ME := DEnv → M D
def ret {α : Type} (a : α) : M α := fun S => some (a, S)
def no {α : Type} : M α := fun _ => none
def bd {α β : Type} (m : M α) (f : α → M β) : M β := fun S => match m S with
  | some (a, S1) => f a S1
  | none => none
theorem bd_eq {α β : Type} {m : M α} {f : α → M β} {S : Sto} {r : β × Sto} (h : bd m f S = some r) : ∃ a S1, m S = some (a, S1) ∧ f a S1 = some r := by
  unfold bd at h
  split at h
  · rename_i a S1 e
    exact ⟨a, S1, e, h⟩
  · cases h
theorem bd_some {α β : Type} {m : M α} {f : α → M β} {S S1 : Sto} {a : α} (h : m S = some (a, S1)) : bd m f S = f a S1 := by
  unfold bd; rw [h]

/-! ### data and values -/
structure Gm where
  K : PySem.W.Frag
  cl : Nat → Addr
def KT' (K : PySem.W.Frag) (T : String) (a : Addr) (xs : List V) : Prop :=
  ∃ (o : Obj) (its : Array Value) (n : Nat), K.lookup a = some o ∧ o.cls = .type T ∧ (T = "list" → o.dict = none) ∧ o.data = .seq its n ∧ its.size ≤ sizeLine ∧ Vals xs its.toList
/-- what never changes: a tuple, a thing that is known -/
def Fx (H : Hp) (a : Addr) (u : HO) : Prop := (∃ vs, u = .tup vs ∧ H a = some u) ∨ ∃ o, H a = some (.frz o u)
theorem Fx.rd {H : Hp} {a : Addr} {u : HO} (h : Fx H a u) : Rd H a u := by
  rcases h with ⟨_, _, h⟩ | h
  · exact .inl h
  · exact .inr h
theorem Fx.ex {H : Hp} {a : Addr} {u : HO} (h : Fx H a u) : ∃ o, H a = some o ∧ (∀ xs, o ≠ .lst xs) ∧ (∀ xs, o ≠ .dK xs) := by
  rcases h with ⟨vs, rfl, h⟩ | ⟨o, h⟩
  · exact ⟨_, h, fun _ z => (by cases z), fun _ z => (by cases z)⟩
  · exact ⟨_, h, fun _ z => (by cases z), fun _ z => (by cases z)⟩
theorem Fx.on {H H' : Hp} {a : Addr} {u : HO} (h : Fx H a u) (k : ∀ o, H a = some o → H' a = some o) : Fx H' a u := by
  rcases h with ⟨vs, e, h⟩ | ⟨o, h⟩
  · exact .inl ⟨vs, e, k _ h⟩
  · exact .inr ⟨o, k _ h⟩
def Stab (K : PySem.W.Frag) (μ : List Addr) (H : Hp) (a : Addr) (u : HO) (T : String) (xs : List V) : Prop := (Fx H a u ∧ a ∉ μ) ∨ KT' K T a xs
theorem Stab.sqT {K : PySem.W.Frag} {μ : List Addr} {H : Hp} {a : Addr} {xs : List V} (h : Stab K μ H a (.tup xs) "tuple" xs) : SqT K H a xs := by
  rcases h with ⟨h, _⟩ | ⟨o, its, n, h1, h2, _, h3, h4, h5⟩
  · exact .inl h.rd
  · exact .inr ⟨o, its, n, h1, h2, h3, h4, h5⟩
theorem Stab.sqL {K : PySem.W.Frag} {μ : List Addr} {H : Hp} {a : Addr} {xs : List V} (h : Stab K μ H a (.lst xs) "list" xs) : SqL K H a xs := by
  rcases h with ⟨h, _⟩ | ⟨o, its, n, h1, h2, h0, h3, h4, h5⟩
  · exact .inl h.rd
  · exact .inr ⟨o, its, n, h1, h2, h0 rfl, h3, h4, h5⟩
mutual
def Rel (Γ : Gm) (μ : List Addr) (H : Hp) : D → V → Prop
  | .non, v => v = .non
  | .bl b, v => v = .bl b
  | .int i, v => v = .int i
  | .str x, v => v = .str x
  | .tup xs, v => ∃ a vs, v = .ref a ∧ Stab Γ.K μ H a (.tup vs) "tuple" vs ∧ RelL Γ μ H xs vs
  | .sq xs, v => ∃ a vs, v = .ref a ∧ Stab Γ.K μ H a (.lst vs) "list" vs ∧ RelL Γ μ H xs vs
  | .loc n, v => ∃ a, v = .ref a ∧ μ[n]? = some a
def RelL (Γ : Gm) (μ : List Addr) (H : Hp) : List D → List V → Prop
  | [], vs => vs = []
  | d :: ds, vs => ∃ v r, vs = v :: r ∧ Rel Γ μ H d v ∧ RelL Γ μ H ds r
end
def RelP {κ : Type} (Γ : Gm) (μ : List Addr) (H : Hp) : List (κ × D) → List (κ × V) → Prop := Paired fun p q => p.1 = q.1 ∧ Rel Γ μ H p.2 q.2
def ORel (Γ : Gm) (μ : List Addr) (H : Hp) (a : Addr) : O → Prop
  | .lst xs => ∃ vs, H a = some (.lst vs) ∧ RelL Γ μ H xs vs
  | .dic kvs => ∃ ws, H a = some (.dK ws) ∧ RelP Γ μ H kvs ws
  | .ins c fs => ∃ dx ws, H a = some (.ins (Γ.cl c) dx ws) ∧ RelP Γ μ H fs ws
structure StR (Γ : Gm) (μ : List Addr) (H : Hp) (S : Sto) : Prop where
  nd : μ.Nodup
  len : μ.length = S.length
  ob : ∀ (n : Nat) (a : Addr) (o : O), μ[n]? = some a → S[n]? = some o → ORel Γ μ H a o
structure Ext (μ : List Addr) (H : Hp) (μ' : List Addr) (H' : Hp) : Prop where
  more : ∃ ν, μ' = μ ++ ν ∧ ∀ b ∈ ν, H b = none
  keep : ∀ a o, H a = some o → a ∉ μ → H' a = some o
  dom : ∀ a o, H a = some o → ∃ o', H' a = some o'
theorem Ext.refl (μ : List Addr) (H : Hp) : Ext μ H μ H := ⟨⟨[], by simp, by simp⟩, fun _ _ h _ => h, fun _ o h => ⟨o, h⟩⟩
theorem Ext.out {μ μ' : List Addr} {H H' : Hp} (e : Ext μ H μ' H') {a : Addr} {o : HO} (h : H a = some o) (n : a ∉ μ) : a ∉ μ' := by
  obtain ⟨ν, rfl, f⟩ := e.more
  intro m
  rcases List.mem_append.mp m with q | q
  · exact n q
  · rw [f a q] at h; cases h
theorem Ext.trans {μ μ1 μ2 : List Addr} {H H1 H2 : Hp} (a : Ext μ H μ1 H1) (b : Ext μ1 H1 μ2 H2) : Ext μ H μ2 H2 := by
  refine ⟨?_, fun c o h n => b.keep c o (a.keep c o h n) (a.out h n), fun c o h => ?_⟩
  · obtain ⟨ν, rfl, f⟩ := a.more
    obtain ⟨ν', rfl, f'⟩ := b.more
    refine ⟨ν ++ ν', by simp, fun c hc => ?_⟩
    rcases List.mem_append.mp hc with q | q
    · exact f c q
    · cases e : H c with
      | none => rfl
      | some o =>
        obtain ⟨o', h'⟩ := a.dom c o e
        rw [f' c q] at h'; cases h'
  · obtain ⟨o', h'⟩ := a.dom c o h
    exact b.dom c o' h'
theorem Ext.get {μ μ' : List Addr} {H H' : Hp} (e : Ext μ H μ' H') {n : Nat} {a : Addr} (h : μ[n]? = some a) : μ'[n]? = some a := by
  obtain ⟨ν, rfl, _⟩ := e.more
  have := (List.getElem?_eq_some_iff.mp h).1
  rw [List.getElem?_append_left this]; exact h
/-- all that a value's reading hangs on is kept -/
structure Wk (μ : List Addr) (H : Hp) (μ' : List Addr) (H' : Hp) : Prop where
  fx : ∀ a u, Fx H a u → a ∉ μ → Fx H' a u ∧ a ∉ μ'
  ix : ∀ (n : Nat) (a : Addr), μ[n]? = some a → μ'[n]? = some a
theorem Ext.wk {μ μ' : List Addr} {H H' : Hp} (e : Ext μ H μ' H') : Wk μ H μ' H' := ⟨fun a u h n => by
  obtain ⟨o, ho, _⟩ := h.ex
  exact ⟨h.on fun o' h' => e.keep _ _ h' n, e.out ho n⟩, fun n a h => e.get h⟩
theorem Stab.wk {K : PySem.W.Frag} {μ μ' : List Addr} {H H' : Hp} (e : Wk μ H μ' H') {a : Addr} {u : HO} {T : String} {xs : List V} (h : Stab K μ H a u T xs) : Stab K μ' H' a u T xs := by
  rcases h with ⟨h, n⟩ | h
  · exact .inl (e.fx a u h n)
  · exact .inr h
theorem Stab.mono {K : PySem.W.Frag} {μ μ' : List Addr} {H H' : Hp} (e : Ext μ H μ' H') {a : Addr} {u : HO} {T : String} {xs : List V} (h : Stab K μ H a u T xs) : Stab K μ' H' a u T xs := h.wk e.wk
mutual
theorem Rel.wk {Γ : Gm} {μ μ' : List Addr} {H H' : Hp} (e : Wk μ H μ' H') : ∀ (d : D) (v : V), Rel Γ μ H d v → Rel Γ μ' H' d v
  | .non, _, h => h
  | .bl _, _, h => h
  | .int _, _, h => h
  | .str _, _, h => h
  | .tup xs, _, h => by
    obtain ⟨a, vs, h1, h2, h3⟩ := h
    exact ⟨a, vs, h1, h2.wk e, RelL.wk e xs vs h3⟩
  | .sq xs, _, h => by
    obtain ⟨a, vs, h1, h2, h3⟩ := h
    exact ⟨a, vs, h1, h2.wk e, RelL.wk e xs vs h3⟩
  | .loc n, _, h => by
    obtain ⟨a, h1, h2⟩ := h
    exact ⟨a, h1, e.ix n a h2⟩
theorem RelL.wk {Γ : Gm} {μ μ' : List Addr} {H H' : Hp} (e : Wk μ H μ' H') : ∀ (ds : List D) (vs : List V), RelL Γ μ H ds vs → RelL Γ μ' H' ds vs
  | [], _, h => h
  | d :: ds, _, h => by
    obtain ⟨v, r, h1, h2, h3⟩ := h
    exact ⟨v, r, h1, Rel.wk e d v h2, RelL.wk e ds r h3⟩
end
theorem Rel.mono {Γ : Gm} {μ μ' : List Addr} {H H' : Hp} (e : Ext μ H μ' H') (d : D) (v : V) (h : Rel Γ μ H d v) : Rel Γ μ' H' d v := Rel.wk e.wk d v h
theorem RelL.mono {Γ : Gm} {μ μ' : List Addr} {H H' : Hp} (e : Ext μ H μ' H') (d : List D) (v : List V) (h : RelL Γ μ H d v) : RelL Γ μ' H' d v := RelL.wk e.wk d v h
section
variable {Γ : Gm} {μ μ' : List Addr} {H H' : Hp}
theorem RelL.nil : RelL Γ μ H [] [] := rfl
theorem RelL.cons {d : D} {ds : List D} {v : V} {vs : List V} (h : Rel Γ μ H d v) (t : RelL Γ μ H ds vs) : RelL Γ μ H (d :: ds) (v :: vs) := ⟨v, vs, rfl, h, t⟩
theorem RelL.length : ∀ {ds : List D} {vs : List V}, RelL Γ μ H ds vs → ds.length = vs.length
  | [], _, h => by cases h; rfl
  | d :: ds, _, h => by
    obtain ⟨v, r, rfl, _, t⟩ := h
    simp [RelL.length t]
theorem RelL.get : ∀ {ds : List D} {vs : List V} {i : Nat} {d : D}, RelL Γ μ H ds vs → ds[i]? = some d → ∃ v, vs[i]? = some v ∧ Rel Γ μ H d v
  | [], _, _, _, _, e => by simp at e
  | d :: ds, _, 0, _, h, e => by
    obtain ⟨v, r, rfl, q, t⟩ := h
    simp at e; subst e
    exact ⟨v, by simp, q⟩
  | d :: ds, _, i + 1, _, h, e => by
    obtain ⟨v, r, rfl, q, t⟩ := h
    simp at e
    obtain ⟨w, h1, h2⟩ := RelL.get t e
    exact ⟨w, by simpa using h1, h2⟩
theorem RelL.append : ∀ {ds es : List D} {vs ws : List V}, RelL Γ μ H ds vs → RelL Γ μ H es ws → RelL Γ μ H (ds ++ es) (vs ++ ws)
  | [], _, _, _, h, s => by cases h; exact s
  | d :: ds, _, _, _, h, s => by
    obtain ⟨v, r, rfl, q, t⟩ := h
    exact ⟨v, r ++ _, rfl, q, RelL.append t s⟩
theorem RelL.drop : ∀ {ds : List D} {vs : List V} (n : Nat), RelL Γ μ H ds vs → RelL Γ μ H (ds.drop n) (vs.drop n)
  | _, _, 0, h => h
  | [], _, _ + 1, h => by cases h; rfl
  | d :: ds, _, n + 1, h => by
    obtain ⟨v, r, rfl, q, t⟩ := h
    exact RelL.drop n t
theorem RelL.take : ∀ {ds : List D} {vs : List V} (n : Nat), RelL Γ μ H ds vs → RelL Γ μ H (ds.take n) (vs.take n)
  | _, _, 0, h => by simp [RelL]
  | [], _, _ + 1, h => by cases h; rfl
  | d :: ds, _, n + 1, h => by
    obtain ⟨v, r, rfl, q, t⟩ := h
    exact ⟨v, r.take n, rfl, q, RelL.take n t⟩
theorem RelL.set {d : D} {v : V} (hd : Rel Γ μ H d v) : ∀ {ds : List D} {vs : List V} (n : Nat), RelL Γ μ H ds vs → RelL Γ μ H (ds.set n d) (vs.set n v)
  | [], _, _, h => by cases h; rfl
  | _ :: _, _, 0, h => by
    obtain ⟨v, r, rfl, q, t⟩ := h
    exact ⟨_, r, rfl, hd, t⟩
  | _ :: _, _, n + 1, h => by
    obtain ⟨v, r, rfl, q, t⟩ := h
    exact ⟨_, _, rfl, q, RelL.set hd n t⟩
theorem RelL.reverse {ds : List D} {vs : List V} (h : RelL Γ μ H ds vs) : RelL Γ μ H ds.reverse vs.reverse := by
  induction ds generalizing vs with
  | nil => cases h; rfl
  | cons d ds ih =>
    obtain ⟨v, r, rfl, q, t⟩ := h
    simp only [List.reverse_cons]
    exact (ih t).append (.cons q .nil)
theorem RelL.dropLast {ds : List D} {vs : List V} (h : RelL Γ μ H ds vs) : RelL Γ μ H ds.dropLast vs.dropLast := by
  rw [List.dropLast_eq_take, List.dropLast_eq_take, ← h.length]; exact h.take _
theorem RelP.wk {κ : Type} (e : Wk μ H μ' H') {xs : List (κ × D)} {ys : List (κ × V)} (h : RelP Γ μ H xs ys) : RelP Γ μ' H' xs ys := by
  unfold RelP at h ⊢
  induction h with
  | nil => exact .nil
  | cons q _ ih => exact .cons ⟨q.1, Rel.wk e _ _ q.2⟩ ih
theorem RelP.mono {κ : Type} (e : Ext μ H μ' H') {xs : List (κ × D)} {ys : List (κ × V)} (h : RelP Γ μ H xs ys) : RelP Γ μ' H' xs ys := h.wk e.wk
theorem ORel.wk (e : Wk μ H μ' H') {a : Addr} {o : O} (h : ORel Γ μ H a o) (k : ∀ u, H a = some u → H' a = some u) : ORel Γ μ' H' a o := by
  cases o with
  | lst xs => obtain ⟨vs, h1, h2⟩ := h; exact ⟨vs, k _ h1, RelL.wk e _ _ h2⟩
  | dic kvs => obtain ⟨ws, h1, h2⟩ := h; exact ⟨ws, k _ h1, h2.wk e⟩
  | ins c fs => obtain ⟨dx, ws, h1, h2⟩ := h; exact ⟨dx, ws, k _ h1, h2.wk e⟩
theorem ORel.mono (e : Ext μ H μ' H') {a : Addr} {o : O} (h : ORel Γ μ H a o) (k : ∀ u, H a = some u → H' a = some u) : ORel Γ μ' H' a o := h.wk e.wk k
theorem ORel.there {a : Addr} {o : O} (h : ORel Γ μ H a o) : ∃ u, H a = some u := by
  cases o with
  | lst xs => obtain ⟨vs, h1, _⟩ := h; exact ⟨_, h1⟩
  | dic kvs => obtain ⟨ws, h1, _⟩ := h; exact ⟨_, h1⟩
  | ins c fs => obtain ⟨dx, ws, h1, _⟩ := h; exact ⟨_, h1⟩
theorem StR.there {S : Sto} (s : StR Γ μ H S) {a : Addr} (h : a ∈ μ) : ∃ u, H a = some u := by
  obtain ⟨n, hn, e⟩ := List.mem_iff_getElem.mp h
  have h1 : μ[n]? = some a := by rw [List.getElem?_eq_getElem hn, e]
  have h2 : n < S.length := by rw [← s.len]; exact hn
  exact (s.ob n a _ h1 (List.getElem?_eq_getElem h2)).there
theorem StR.fresh {S : Sto} (s : StR Γ μ H S) {p : Addr} (h : H p = none) : p ∉ μ := fun m => by
  obtain ⟨u, e⟩ := s.there m
  rw [h] at e; cases e
/-- an untracked new thing -/
theorem Ext.aside {S : Sto} (s : StR Γ μ H S) {p : Addr} {o : HO} (h : H p = none) : Ext μ H μ (upd H p o) ∧ StR Γ μ (upd H p o) S := by
  have e : Ext μ H μ (upd H p o) := ⟨⟨[], by simp, by simp⟩, fun a u k _ => by rw [upd_ne (ne_of_none k h)]; exact k, fun a u k => ⟨u, by rw [upd_ne (ne_of_none k h)]; exact k⟩⟩
  exact ⟨e, s.nd, s.len, fun n a u h1 h2 => (s.ob n a u h1 h2).mono e fun w k => by rw [upd_ne (ne_of_none k h)]; exact k⟩
/-- a tracked new thing -/
theorem Ext.laid {S : Sto} (s : StR Γ μ H S) {p : Addr} {o : HO} {q : O} (h : H p = none) (r : ∀ μ' H', Ext μ H μ' H' → H' p = some o → ORel Γ μ' H' p q) :
    Ext μ H (μ ++ [p]) (upd H p o) ∧ StR Γ (μ ++ [p]) (upd H p o) (S ++ [q]) := by
  have e : Ext μ H (μ ++ [p]) (upd H p o) := ⟨⟨[p], rfl, by simp [h]⟩, fun a u k _ => by rw [upd_ne (ne_of_none k h)]; exact k, fun a u k => ⟨u, by rw [upd_ne (ne_of_none k h)]; exact k⟩⟩
  refine ⟨e, ?_, by simp [s.len], fun n a u h1 h2 => ?_⟩
  · exact nd_snoc s.nd (s.fresh h)
  · by_cases hn : n < μ.length
    · rw [List.getElem?_append_left hn] at h1
      rw [List.getElem?_append_left (by rw [← s.len]; exact hn)] at h2
      exact (s.ob n a u h1 h2).mono e fun w k => by rw [upd_ne (ne_of_none k h)]; exact k
    · have hl : n < (μ ++ [p]).length := (List.getElem?_eq_some_iff.mp h1).1
      have en : n = μ.length := by simp at hl; omega
      subst en
      have e1 : p = a := by simpa using h1
      have e2 : q = u := by rw [s.len] at h2; simpa using h2
      subst e1 e2
      exact r _ _ e upd_same
/-- a tracked thing written anew -/
theorem Ext.put {S : Sto} (s : StR Γ μ H S) {n : Nat} {p : Addr} {o : HO} {q : O} (h : μ[n]? = some p) (r : ∀ H', Ext μ H μ H' → H' p = some o → ORel Γ μ H' p q) :
    Ext μ H μ (upd H p o) ∧ StR Γ μ (upd H p o) (S.set n q) := by
  have hp : p ∈ μ := List.mem_of_getElem? h
  have e : Ext μ H μ (upd H p o) := ⟨⟨[], by simp, by simp⟩, fun a u k m => by rw [upd_ne (show a ≠ p from fun z => m (by rw [z]; exact hp))]; exact k, fun a u k => by
    by_cases z : a = p
    · subst z; exact ⟨o, upd_same⟩
    · exact ⟨u, by rw [upd_ne z]; exact k⟩⟩
  refine ⟨e, s.nd, by simp [s.len], fun k a u h1 h2 => ?_⟩
  by_cases z : k = n
  · subst z
    rw [h] at h1; cases h1
    have hk : k < S.length := by rw [← s.len]; exact (List.getElem?_eq_some_iff.mp h).1
    rw [List.getElem?_set_self hk] at h2; cases h2
    exact r _ e upd_same
  · rw [List.getElem?_set_ne (fun w => z w.symm)] at h2
    have ne : a ≠ p := fun w => z (by subst w; exact nd_ix s.nd h1 h)
    exact (s.ob k a u h1 h2).mono e fun w k => by rw [upd_ne ne]; exact k
end

/-! ### environments -/
structure EnvR (Γ : Gm) (μ : List Addr) (H : Hp) (env : DEnv) (σ : L2.St) : Prop where
  len : env.length = σ.length
  at_ : ∀ (i : Nat) (d : D), env[i]? = some (some d) → ∃ v, σ[i]? = some (some v) ∧ Rel Γ μ H d v
section
variable {Γ : Gm} {μ μ' : List Addr} {H H' : Hp}
theorem EnvR.wk {env : DEnv} {σ : L2.St} (e : Wk μ H μ' H') (h : EnvR Γ μ H env σ) : EnvR Γ μ' H' env σ := ⟨h.len, fun i d k => by
  obtain ⟨v, h1, h2⟩ := h.at_ i d k
  exact ⟨v, h1, Rel.wk e _ _ h2⟩⟩
theorem EnvR.mono {env : DEnv} {σ : L2.St} (e : Ext μ H μ' H') (h : EnvR Γ μ H env σ) : EnvR Γ μ' H' env σ := ⟨h.len, fun i d k => by
  obtain ⟨v, h1, h2⟩ := h.at_ i d k
  exact ⟨v, h1, Rel.mono e _ _ h2⟩⟩
theorem EnvR.set {env : DEnv} {σ : L2.St} {d : D} {v : V} (h : EnvR Γ μ H env σ) (i : Nat) (r : Rel Γ μ H d v) : EnvR Γ μ H (env.set i (some d)) (σ.set i (some v)) := ⟨by simp [h.len], fun k e q => by
  by_cases z : k = i
  · subst z
    have hk : k < env.length := by
      have := (List.getElem?_eq_some_iff.mp q).1
      simpa using this
    rw [List.getElem?_set_self hk] at q
    cases q
    exact ⟨v, List.getElem?_set_self (by rw [← h.len]; exact hk), r⟩
  · rw [List.getElem?_set_ne (fun w => z w.symm)] at q ⊢
    exact h.at_ k e q⟩
def wipeD (env : DEnv) : List Nat → DEnv
  | [] => env
  | v :: vs => (wipeD env vs).set v none
theorem EnvR.unset {env : DEnv} {σ : L2.St} (h : EnvR Γ μ H env σ) (i : Nat) : EnvR Γ μ H (env.set i none) (σ.set i none) := ⟨by simp [h.len], fun k e q => by
  by_cases z : k = i
  · subst z
    have hk : k < env.length := by
      have := (List.getElem?_eq_some_iff.mp q).1
      simpa using this
    rw [List.getElem?_set_self hk] at q
    cases q
  · rw [List.getElem?_set_ne (fun w => z w.symm)] at q ⊢
    exact h.at_ k e q⟩
theorem EnvR.wipe {env : DEnv} {σ : L2.St} (h : EnvR Γ μ H env σ) : ∀ vs : List Nat, EnvR Γ μ H (wipeD env vs) (L2.wipe σ vs)
  | [] => h
  | v :: vs => by unfold wipeD L2.wipe; exact (EnvR.wipe h vs).unset v
end

/-! ### judgements -/
def After (Γ : Gm) (μ : List Addr) (H : Hp) (S' : Sto) (R : List Addr → Hp → Prop) : Prop := ∀ μ' H', Ext μ H μ' H' → StR Γ μ' H' S' → R μ' H'
def T (Γ : Gm) (m : ME) : TE := fun σ H Q => ∃ μ env S d S', EnvR Γ μ H env σ ∧ StR Γ μ H S ∧ m env S = some (d, S') ∧ After Γ μ H S' fun μ' H' => ∀ v, Rel Γ μ' H' d v → Q v H'
def TTm (Γ : Gm) (m : ME) : TT := fun σ H Q => ∃ μ env S b S', EnvR Γ μ H env σ ∧ StR Γ μ H S ∧ m env S = some (.bl b, S') ∧ After Γ μ H S' fun _ H' => Q b H'
def TAm (Γ : Gm) (m : DEnv → M (List D)) : TA := fun σ H Q => ∃ μ env S ds S', EnvR Γ μ H env σ ∧ StR Γ μ H S ∧ m env S = some (ds, S') ∧ After Γ μ H S' fun μ' H' => ∀ vs, RelL Γ μ' H' ds vs → Q vs H'
inductive Out where
  | nx (env : DEnv) | rt (d : D) | bk (env : DEnv) | ct (env : DEnv)
abbrev MS := DEnv → M Out
def EndR (Γ : Gm) (D : Ends) (μ : List Addr) (H : Hp) : Out → Prop
  | .nx env => ∀ σ, EnvR Γ μ H env σ → D.nx σ H
  | .rt d => ∀ v, Rel Γ μ H d v → D.rt v H
  | .bk env => ∀ σ, EnvR Γ μ H env σ → D.bk σ H
  | .ct env => ∀ σ, EnvR Γ μ H env σ → D.ct σ H
def TSm (Γ : Gm) (m : MS) : TS := fun D σ H => ∃ μ env S o S', EnvR Γ μ H env σ ∧ StR Γ μ H S ∧ m env S = some (o, S') ∧ After Γ μ H S' fun μ' H' => EndR Γ D μ' H' o

end Ev
namespace L2
open PySem PySem.Spec PyProof.Rows
theorem PE.imp {X : Cx} {e : Expr} {t t' : TE} (h : PE X e t) (i : ∀ σ H Q, t' σ H Q → t σ H Q) : PE X e t' := fun pins s σ H Q I q => h pins s σ H Q I (i σ H Q q)
theorem PT.imp {X : Cx} {e : Expr} {t t' : TT} (h : PT X e t) (i : ∀ σ H Q, t' σ H Q → t σ H Q) : PT X e t' := fun pins s σ H Q I q => h pins s σ H Q I (i σ H Q q)
theorem PW.imp {X : Cx} {e : Expr} {t t' : TT} (h : PW X e t) (i : ∀ σ H Q, t' σ H Q → t σ H Q) : PW X e t' := fun wh pins s σ H Q I q => h wh pins s σ H Q I (i σ H Q q)
theorem PA.imp {X : Cx} {e : List Expr} {t t' : TA} (h : PA X e t) (i : ∀ σ H Q, t' σ H Q → t σ H Q) : PA X e t' := fun pos pins s σ H Q I q => h pos pins s σ H Q I (i σ H Q q)
theorem PS.imp {X : Cx} {e : Stmt} {t t' : TS} (h : PS X e t) (i : ∀ D σ H, t' D σ H → t D σ H) : PS X e t' := fun pins s σ H D I q => h pins s σ H D I (i D σ H q)
theorem PSs.imp {X : Cx} {e : List Stmt} {t t' : TS} (h : PSs X e t) (i : ∀ D σ H, t' D σ H → t D σ H) : PSs X e t' := fun pins s σ H D I q => h pins s σ H D I (i D σ H q)

end L2
namespace Ev
open PySem PySem.Spec PyProof.Rows L2
/-! ### programs -/
def mVar (i : Nat) : ME := fun env S => match env[i]? with
  | some (some d) => some (d, S)
  | _ => none
def mC (d : D) : ME := fun _ S => some (d, S)
def mOp (f : D → D → M D) (a b : ME) : ME := fun env => bd (a env) fun x => bd (b env) fun y => f x y
def mUn (f : D → M D) (a : ME) : ME := fun env => bd (a env) f
def mNil : DEnv → M (List D) := fun _ => ret []
def mCons (a : ME) (r : DEnv → M (List D)) : DEnv → M (List D) := fun env => bd (a env) fun x => bd (r env) fun xs => ret (x :: xs)
def mTup (a : DEnv → M (List D)) : ME := fun env => bd (a env) fun xs => ret (.tup xs)
def new (o : O) : M D := fun S => some (.loc S.length, S ++ [o])
def mLst (a : DEnv → M (List D)) : ME := fun env => bd (a env) fun xs => new (.lst xs)
def mAnd (a b : ME) : ME := fun env => bd (a env) fun x => match x with
  | .bl true => b env
  | .bl false => ret (.bl false)
  | _ => no
def mOr (a b : ME) : ME := fun env => bd (a env) fun x => match x with
  | .bl true => ret (.bl true)
  | .bl false => b env
  | _ => no
def mNot (a : ME) : ME := fun env => bd (a env) fun x => match x with
  | .bl b => ret (.bl (!b))
  | _ => no
def mIf (c a b : ME) : ME := fun env => bd (c env) fun x => match x with
  | .bl true => a env
  | .bl false => b env
  | _ => no
def mChain (f g : D → D → M D) (a b c : ME) : ME := fun env => bd (a env) fun x => bd (b env) fun y => bd (f x y) fun k => match k with
  | .bl true => bd (c env) fun z => g y z
  | .bl false => ret (.bl false)
  | _ => no

def R2m (Γ : Gm) (f : D → D → M D) : R2 := fun x y H Q => ∃ μ S dx dy d S', StR Γ μ H S ∧ Rel Γ μ H dx x ∧ Rel Γ μ H dy y ∧ f dx dy S = some (d, S') ∧ After Γ μ H S' fun μ' H' => ∀ v, Rel Γ μ' H' d v → Q v H'
def R1m (Γ : Gm) (f : D → M D) : V → Hp → VK → Prop := fun x H Q => ∃ μ S dx d S', StR Γ μ H S ∧ Rel Γ μ H dx x ∧ f dx S = some (d, S') ∧ After Γ μ H S' fun μ' H' => ∀ v, Rel Γ μ' H' d v → Q v H'
def RLm (Γ : Gm) (f : List D → M D) : List V → Hp → VK → Prop := fun xs H Q => ∃ μ S ds d S', StR Γ μ H S ∧ RelL Γ μ H ds xs ∧ f ds S = some (d, S') ∧ After Γ μ H S' fun μ' H' => ∀ v, Rel Γ μ' H' d v → Q v H'
theorem After.self {Γ : Gm} {μ : List Addr} {H : Hp} {S : Sto} {R : List Addr → Hp → Prop} (h : After Γ μ H S R) (s : StR Γ μ H S) : R μ H := h μ H (Ext.refl _ _) s
theorem After.on {Γ : Gm} {μ μ1 : List Addr} {H H1 : Hp} {S : Sto} {R : List Addr → Hp → Prop} (h : After Γ μ H S R) (e : Ext μ H μ1 H1) : After Γ μ1 H1 S R := fun μ' H' e' s' => h μ' H' (e.trans e') s'

section
variable {X : Cx} {Γ : Gm} {a b c e : Expr} {es : List Expr} {ma mb mc : ME} {ml : DEnv → M (List D)} {pos : Pos}
theorem k_var (i : Nat) {x : Str} (hN : X.N[i]? = some x) (hv : Vis X.env.scope x) (hd : (x == ("__debug__" : Str)) = false := by decide) (hcd : (x == ("__classdict__" : Str)) = false := by decide) : PE X (.Name x pos) (T Γ (mVar i)) :=
  (pe_var hN hv hd hcd).imp fun σ H Q ⟨μ, env, S, d, S', he, hs, h, q⟩ => by
    unfold mVar at h
    split at h
    · rename_i d' e
      cases h
      obtain ⟨v, h1, h2⟩ := he.at_ i d e
      exact ⟨v, h1, q.self hs v h2⟩
    · cases h
theorem k_C {e : Expr} {v : V} {d : D} (h : PE X e (tC v)) (hr : ∀ μ H, Rel Γ μ H d v) : PE X e (T Γ (mC d)) :=
  h.imp fun σ H Q ⟨μ, env, S, d', S', he, hs, h, q⟩ => by
    cases h
    exact q.self hs v (hr _ _)
theorem k_int {i : Int} {j} : PE X (.Constant (.int i) j pos) (T Γ (mC (.int i))) := k_C pe_int fun _ _ => rfl
theorem k_bl {i : Bool} {j} : PE X (.Constant (.bool i) j pos) (T Γ (mC (.bl i))) := k_C pe_bl fun _ _ => rfl
theorem k_non {j} : PE X (.Constant .none j pos) (T Γ (mC .non)) := k_C pe_non fun _ _ => rfl

/-- from a program to the reading of its first part -/
theorem T.first {σ : L2.St} {H : Hp} {μ : List Addr} {env : DEnv} {S S' : Sto} {β : Type} {f : D → M β} {r : β} {R : V → Hp → Prop} (he : EnvR Γ μ H env σ) (hs : StR Γ μ H S) (h : bd (ma env) f S = some (r, S'))
    (q : ∀ μ1 H1 S1 x v, Ext μ H μ1 H1 → StR Γ μ1 H1 S1 → EnvR Γ μ1 H1 env σ → Rel Γ μ1 H1 x v → f x S1 = some (r, S') → R v H1) : T Γ ma σ H R := by
  obtain ⟨x, S1, h1, h2⟩ := bd_eq h
  exact ⟨μ, env, S, x, S1, he, hs, h1, fun μ1 H1 e s v rv => q μ1 H1 S1 x v e s (he.mono e) rv h2⟩
theorem TAm.first {σ : L2.St} {H : Hp} {μ : List Addr} {env : DEnv} {S S' : Sto} {β : Type} {f : List D → M β} {r : β} {R : List V → Hp → Prop} (he : EnvR Γ μ H env σ) (hs : StR Γ μ H S) (h : bd (ml env) f S = some (r, S'))
    (q : ∀ μ1 H1 S1 x v, Ext μ H μ1 H1 → StR Γ μ1 H1 S1 → EnvR Γ μ1 H1 env σ → RelL Γ μ1 H1 x v → f x S1 = some (r, S') → R v H1) : TAm Γ ml σ H R := by
  obtain ⟨x, S1, h1, h2⟩ := bd_eq h
  exact ⟨μ, env, S, x, S1, he, hs, h1, fun μ1 H1 e s v rv => q μ1 H1 S1 x v e s (he.mono e) rv h2⟩
theorem TTm.first {σ : L2.St} {H : Hp} {μ : List Addr} {env : DEnv} {S S' : Sto} {β : Type} {f g : M β} {r : β} {R : Bool → Hp → Prop} (he : EnvR Γ μ H env σ) (hs : StR Γ μ H S)
    (h : bd (ma env) (fun x => match x with | .bl true => f | .bl false => g | _ => no) S = some (r, S'))
    (q : ∀ μ1 H1 S1 k, Ext μ H μ1 H1 → StR Γ μ1 H1 S1 → EnvR Γ μ1 H1 env σ → (if k = true then f else g) S1 = some (r, S') → R k H1) : TTm Γ ma σ H R := by
  obtain ⟨x, S1, h1, h2⟩ := bd_eq h
  cases x with
  | bl k =>
    refine ⟨μ, env, S, k, S1, he, hs, h1, fun μ1 H1 e s => q μ1 H1 S1 k e s (he.mono e) ?_⟩
    cases k <;> exact h2
  | _ => cases h2

theorem tOp_of {σ : L2.St} {H : Hp} {Q : VK} {f : D → D → M D} (h : T Γ (mOp f ma mb) σ H Q) : tOp (R2m Γ f) (T Γ ma) (T Γ mb) σ H Q := by
  obtain ⟨μ, env, S, d, S', he, hs, h, q⟩ := h
  refine T.first he hs h fun μ1 H1 S1 x v e1 s1 he1 rx h1 => ?_
  refine T.first he1 s1 h1 fun μ2 H2 S2 y w e2 s2 he2 ry h2 => ?_
  exact ⟨μ2, S2, x, y, d, S', s2, Rel.mono e2 _ _ rx, ry, h2, q.on (e1.trans e2)⟩
theorem k_op {op : Operator} {f : D → D → M D} (ho : OpR X (binaryOp op) (R2m Γ f)) (ha : PE X a (T Γ ma)) (hb : PE X b (T Γ mb)) : PE X (.BinOp a op b pos) (T Γ (mOp f ma mb)) :=
  (pe_op ho ha hb).imp fun σ H Q h => tOp_of h
theorem k_cmp {op : CmpOp} {f : D → D → M D} (ho : OpR X (compareOp op) (R2m Γ f)) (ha : PE X a (T Γ ma)) (hb : PE X b (T Γ mb)) (hm : behindInMarks op b = false) : PE X (.Compare a [op] [b] pos) (T Γ (mOp f ma mb)) :=
  (pe_cmpR ho ha hb hm).imp fun σ H Q h => tOp_of h
theorem k_ix {f : D → D → M D} (ho : IxR X (R2m Γ f)) (ha : PE X a (T Γ ma)) (hb : PE X b (T Γ mb)) (hs : PlainIx b) : PE X (.Subscript a b pos) (T Γ (mOp f ma mb)) :=
  (pe_ix ho ha hb hs).imp fun σ H Q h => tOp_of h
theorem k_un {op : UnaryOp} {f : D → M D} (ho : UnR X (unaryOp op) (R1m Γ f)) (ha : PE X a (T Γ ma)) : PE X (.UnaryOp op a pos) (T Γ (mUn f ma)) :=
  (pe_un ho ha).imp fun σ H Q ⟨μ, env, S, d, S', he, hs, h, q⟩ => by
    refine T.first he hs h fun μ1 H1 S1 x v e1 s1 he1 rx h1 => ?_
    exact ⟨μ1, S1, x, d, S', s1, rx, h1, q.on e1⟩
theorem tChain_of {σ : L2.St} {H : Hp} {Q : VK} {f g : D → D → M D} (h : T Γ (mChain f g ma mb mc) σ H Q) : tChain (R2m Γ f) (R2m Γ g) (T Γ ma) (T Γ mb) (T Γ mc) σ H Q := by
  obtain ⟨μ, env, S, d, S', he, hs, h, q⟩ := h
  refine T.first he hs h fun μ1 H1 S1 x v e1 s1 he1 rx h1 => ?_
  refine T.first he1 s1 h1 fun μ2 H2 S2 y w e2 s2 he2 ry h2 => ?_
  obtain ⟨k, S3, h3, h4⟩ := bd_eq h2
  refine ⟨μ2, S2, x, y, k, S3, s2, Rel.mono e2 _ _ rx, ry, h3, fun μ3 H3 e3 s3 z rz => ?_⟩
  cases k with
  | bl k =>
    refine ⟨k, rz, ?_⟩
    cases k with
    | false => cases h4; exact iteF (q _ _ (e1.trans (e2.trans e3)) s3 _ rfl)
    | true =>
      refine iteT (T.first (he2.mono e3) s3 h4 fun μ4 H4 S4 z v4 e4 s4 he4 rz4 h5 => ?_)
      exact ⟨μ4, S4, y, z, d, S', s4, Rel.mono e4 _ _ (Rel.mono e3 _ _ ry), rz4, h5, q.on (e1.trans (e2.trans (e3.trans e4)))⟩
  | _ => cases h4
theorem k_chain {op op' : CmpOp} {f g : D → D → M D} (ho : OpR X (compareOp op) (R2m Γ f)) (ho' : OpR X (compareOp op') (R2m Γ g)) (ha : PE X a (T Γ ma)) (hb : PE X b (T Γ mb)) (hc : PE X c (T Γ mc))
    (hm : lastMarks [op, op'] [b, c] = false := by with_unfolding_all rfl) : PE X (.Compare a [op, op'] [b, c] pos) (T Γ (mChain f g ma mb mc)) :=
  (pe_chain ho ho' ha hb hc hm).imp fun σ H Q h => tChain_of h

/-! tests -/
theorem T_test {σ : L2.St} {H : Hp} {Q : Bool → Hp → Prop} (h : TTm Γ ma σ H Q) : T Γ ma σ H (fun x H' => ∃ k, x = .bl k ∧ Q k H') := by
  obtain ⟨μ, env, S, k, S', he, hs, h, q⟩ := h
  refine ⟨μ, env, S, _, S', he, hs, h, fun μ' H' e s v rv => ⟨k, rv, q μ' H' e s⟩⟩
theorem kt_val (h : PE X e (T Γ ma)) (he : ∀ whole, isTrue e X.env whole = (do let v ← whole; standAt e.pos; holding [v] (truthy v)) := by intro _; rfl) : PT X e (TTm Γ ma) :=
  (pt_val h he).imp fun σ H Q h => T_test h
theorem kt_cmp {op : CmpOp} {f : D → D → M D} (ho : OpR X (compareOp op) (R2m Γ f)) (ha : PE X a (T Γ ma)) (hb : PE X b (T Γ mb)) (hm : behindInMarks op b = false) : PT X (.Compare a [op] [b] pos) (TTm Γ (mOp f ma mb)) :=
  (pt_cmpR ho ha hb hm).imp fun σ H Q h => tOp_of (T_test h)
theorem kt_chain {op op' : CmpOp} {f g : D → D → M D} (ho : OpR X (compareOp op) (R2m Γ f)) (ho' : OpR X (compareOp op') (R2m Γ g)) (ha : PE X a (T Γ ma)) (hb : PE X b (T Γ mb)) (hc : PE X c (T Γ mc))
    (hm : lastMarks [op, op'] [b, c] = false := by with_unfolding_all rfl) : PT X (.Compare a [op, op'] [b, c] pos) (TTm Γ (mChain f g ma mb mc)) :=
  (pt_chain ho ho' ha hb hc hm).imp fun σ H Q h => tChain_of (T_test h)
theorem kt_not (h : PT X a (TTm Γ ma)) : PT X (.UnaryOp .Not a pos) (TTm Γ (mNot ma)) :=
  (pt_not h).imp fun σ H Q ⟨μ, env, S, k, S', he, hs, h, q⟩ => by
    obtain ⟨x, S1, h1, h2⟩ := bd_eq h
    cases x with
    | bl b => cases h2; exact ⟨μ, env, S, b, S', he, hs, h1, q⟩
    | _ => cases h2
theorem tAnd_of {σ : L2.St} {H : Hp} {Q : Bool → Hp → Prop} (h : TTm Γ (mAnd ma mb) σ H Q) : tAnd (TTm Γ ma) (TTm Γ mb) σ H Q := by
  obtain ⟨μ, env, S, k, S', he, hs, h, q⟩ := h
  refine TTm.first he hs h fun μ1 H1 S1 k1 e1 s1 he1 h1 => ?_
  cases k1 with
  | true => exact iteT ⟨μ1, env, S1, k, S', he1, s1, h1, q.on e1⟩
  | false => cases h1; exact iteF (q _ _ e1 s1)
theorem tOr_of {σ : L2.St} {H : Hp} {Q : Bool → Hp → Prop} (h : TTm Γ (mOr ma mb) σ H Q) : tOr (TTm Γ ma) (TTm Γ mb) σ H Q := by
  obtain ⟨μ, env, S, k, S', he, hs, h, q⟩ := h
  refine TTm.first he hs h fun μ1 H1 S1 k1 e1 s1 he1 h1 => ?_
  cases k1 with
  | true => cases h1; exact iteT (q _ _ e1 s1)
  | false => exact iteF ⟨μ1, env, S1, k, S', he1, s1, h1, q.on e1⟩
theorem kw_and {rest : List Expr} (ha : PT X a (TTm Γ ma)) (hb : PW X (.BoolOp .And (b :: rest) pos) (TTm Γ mb)) : PW X (.BoolOp .And (a :: b :: rest) pos) (TTm Γ (mAnd ma mb)) :=
  (pw_and ha hb).imp fun _ _ _ h => tAnd_of h
theorem kw_or {rest : List Expr} (ha : PT X a (TTm Γ ma)) (hb : PW X (.BoolOp .Or (b :: rest) pos) (TTm Γ mb)) : PW X (.BoolOp .Or (a :: b :: rest) pos) (TTm Γ (mOr ma mb)) :=
  (pw_or ha hb).imp fun _ _ _ h => tOr_of h
theorem kw_and1 (ha : PT X a (TTm Γ ma)) : PW X (.BoolOp .And [a] pos) (TTm Γ ma) := pw_and1 ha
theorem kw_or1 (ha : PT X a (TTm Γ ma)) : PW X (.BoolOp .Or [a] pos) (TTm Γ ma) := pw_or1 ha
/-! and, or, not as values -/
theorem k_one {op} (h : PE X a (T Γ ma)) : PE X (.BoolOp op [a] pos) (T Γ ma) := pe_one h
theorem k_and {rest : List Expr} (ha : PE X a (T Γ ma)) (hb : PE X (.BoolOp .And (b :: rest) pos) (T Γ mb)) : PE X (.BoolOp .And (a :: b :: rest) pos) (T Γ (mAnd ma mb)) :=
  (pe_and ha hb).imp fun σ H Q ⟨μ, env, S, d, S', he, hs, h, q⟩ => by
    refine T.first he hs h fun μ1 H1 S1 x v e1 s1 he1 rx h1 => ?_
    cases x with
    | bl k =>
      refine ⟨k, rx, ?_⟩
      cases k with
      | true => exact iteT ⟨μ1, env, S1, d, S', he1, s1, h1, q.on e1⟩
      | false => cases h1; exact iteF (q _ _ e1 s1 _ rfl)
    | _ => cases h1
theorem k_not (ha : PE X a (T Γ ma)) : PE X (.UnaryOp .Not a pos) (T Γ (mNot ma)) :=
  (pe_not ha).imp fun σ H Q ⟨μ, env, S, d, S', he, hs, h, q⟩ => by
    refine T.first he hs h fun μ1 H1 S1 x v e1 s1 he1 rx h1 => ?_
    cases x with
    | bl k => cases h1; exact ⟨k, rx, q _ _ e1 s1 _ rfl⟩
    | _ => cases h1

/-! argument lists, displays -/
theorem ka_nil : PA X [] (TAm Γ mNil) := pa_nil.imp fun σ H Q ⟨μ, env, S, d, S', he, hs, h, q⟩ => by
  cases h
  exact q.self hs [] rfl
theorem ka_cons (ha : PE X e (T Γ ma)) (hr : PA X es (TAm Γ ml)) (hs : starEach (e :: es) X.env = (false, eval e X.env) :: starEach es X.env := by rfl) : PA X (e :: es) (TAm Γ (mCons ma ml)) :=
  (pa_cons ha hr hs).imp fun σ H Q ⟨μ, env, S, d, S', he, hs, h, q⟩ => by
    refine T.first he hs h fun μ1 H1 S1 x v e1 s1 he1 rx h1 => ?_
    refine TAm.first he1 s1 h1 fun μ2 H2 S2 xs vs e2 s2 he2 rxs h2 => ?_
    cases h2
    exact q _ _ (e1.trans e2) s2 _ (.cons (Rel.mono e2 _ _ rx) rxs)
theorem k_tup {x1} (h : PA X es (TAm Γ ml)) (hl : ∀ env S ds S', ml env S = some (ds, S') → ds.length ≤ sizeLine) : PE X (.Tuple es x1 pos) (T Γ (mTup ml)) :=
  (pe_tup h).imp fun σ H Q ⟨μ, env, S, d, S', he, hs, h, q⟩ => by
    obtain ⟨xs, S1, h1, h2⟩ := bd_eq h
    cases h2
    refine ⟨μ, env, S, xs, _, he, hs, h1, fun μ1 H1 e1 s1 vs rv => ⟨by rw [← rv.length]; exact hl _ _ _ _ h1, fun p hp => ?_⟩⟩
    obtain ⟨e2, s2⟩ := Ext.aside s1 (o := .tup vs) hp
    exact q _ _ (e1.trans e2) s2 _ ⟨p, vs, rfl, .inl ⟨.inl ⟨_, rfl, upd_same⟩, s1.fresh hp⟩, RelL.mono e2 _ _ rv⟩
theorem k_lst (h : PA X es (TAm Γ ml)) (hl : ∀ env S ds S', ml env S = some (ds, S') → ds.length ≤ sizeLine) : PE X (.List es pos) (T Γ (mLst ml)) :=
  (pe_lst h).imp fun σ H Q ⟨μ, env, S, d, S', he, hs, h, q⟩ => by
    obtain ⟨xs, S1, h1, h2⟩ := bd_eq h
    cases h2
    refine ⟨μ, env, S, xs, _, he, hs, h1, fun μ1 H1 e1 s1 vs rv => ⟨by rw [← rv.length]; exact hl _ _ _ _ h1, fun p hp => ?_⟩⟩
    obtain ⟨e2, s2⟩ := Ext.laid s1 (o := .lst vs) (q := .lst xs) hp fun μ' H' e h' => ⟨vs, h', RelL.mono e _ _ rv⟩
    exact q _ _ (e1.trans e2) s2 _ ⟨p, rfl, by rw [← s1.len]; simp⟩
/-- how long a written list is -/
def Few (n : Nat) (ml : DEnv → M (List D)) : Prop := ∀ env S ds S', ml env S = some (ds, S') → ds.length = n
theorem few_nil : Few 0 mNil := fun env S ds S' h => by cases h; rfl
theorem few_cons {n : Nat} {ma : ME} {ml : DEnv → M (List D)} (h : Few n ml) : Few (n + 1) (mCons ma ml) := fun env S ds S' e => by
  obtain ⟨x, S1, h1, h2⟩ := bd_eq e
  obtain ⟨xs, S2, h3, h4⟩ := bd_eq h2
  cases h4
  rw [List.length_cons, h _ _ _ _ h3]
theorem Few.le {n : Nat} {ml : DEnv → M (List D)} (h : Few n ml) (hn : n ≤ 1000) : ∀ env S ds S', ml env S = some (ds, S') → ds.length ≤ sizeLine := fun env S ds S' e => by
  rw [h _ _ _ _ e]; exact Nat.le_of_lt (small1000 hn)
end

/-! ### statements -/
def sPass : MS := fun env => ret (.nx env)
def sSeq (a b : MS) : MS := fun env => bd (a env) fun o => match o with
  | .nx env' => b env'
  | o => ret o
def sRet (m : ME) : MS := fun env => bd (m env) fun d => ret (.rt d)
def sRetN : MS := fun _ => ret (.rt .non)
def sDrop (m : ME) : MS := fun env => bd (m env) fun _ => ret (.nx env)
def sIf (c : ME) (a b : MS) : MS := fun env => bd (c env) fun x => match x with
  | .bl true => a env
  | .bl false => b env
  | _ => no
abbrev MG := D → DEnv → M DEnv
def sAsg (m : ME) (g : MG) : MS := fun env => bd (m env) fun d => bd (g d env) fun env' => ret (.nx env')
def gNm (i : Nat) : MG := fun d env => ret (env.set i (some d))
def gTp (n : Nat) (gs : List D → DEnv → M DEnv) : MG := fun d env => match d with
  | .tup xs => if xs.length = n then gs xs env else no
  | _ => no
def gsNil : List D → DEnv → M DEnv := fun xs env => match xs with
  | [] => ret env
  | _ => no
def gsCons (g : MG) (r : List D → DEnv → M DEnv) : List D → DEnv → M DEnv := fun xs env => match xs with
  | x :: xs => bd (g x env) fun env' => r xs env'
  | [] => no
def sNever : MS := fun _ => no
/-- all slots but ws are as they were -/
def Oth (ws : List Nat) (σ σ' : L2.St) : Prop := σ'.length = σ.length ∧ ∀ i, i ∉ ws → σ'[i]? = σ[i]?
theorem Oth.refl (ws : List Nat) (σ : L2.St) : Oth ws σ σ := ⟨rfl, fun _ _ => rfl⟩
theorem Oth.trans {ws : List Nat} {σ σ1 σ2 : L2.St} (a : Oth ws σ σ1) (b : Oth ws σ1 σ2) : Oth ws σ σ2 := ⟨b.1.trans a.1, fun i h => (b.2 i h).trans (a.2 i h)⟩
theorem Oth.mono {ws vs : List Nat} {σ σ1 : L2.St} (a : Oth ws σ σ1) (h : ∀ i ∈ ws, i ∈ vs) : Oth vs σ σ1 := ⟨a.1, fun i n => a.2 i fun z => n (h i z)⟩
theorem Oth.set (σ : L2.St) (i : Nat) (v : Option V) : Oth [i] σ (σ.set i v) := ⟨by simp, fun k h => by rw [List.getElem?_set_ne (fun z => h (by simp [z]))]⟩
theorem wipe_get {σ : L2.St} : ∀ (vs : List Nat) (i : Nat), (L2.wipe σ vs)[i]? = if i ∈ vs then (σ[i]?).map (fun _ => none) else σ[i]?
  | [], i => by simp [L2.wipe]
  | v :: vs, i => by
    unfold L2.wipe
    by_cases h : v = i
    · subst h
      by_cases hl : v < (L2.wipe σ vs).length
      · rw [List.getElem?_set_self hl]
        have : v < σ.length := by rw [L2.wipe_length] at hl; exact hl
        simp [List.getElem?_eq_getElem this]
      · have h2 : σ.length ≤ v := by rw [L2.wipe_length] at hl; omega
        rw [List.getElem?_eq_none (by simp [L2.wipe_length]; omega), List.getElem?_eq_none h2]; simp
    · rw [List.getElem?_set_ne h, wipe_get vs i]
      have : (i ∈ v :: vs) ↔ i ∈ vs := by simp [Ne.symm h]
      simp only [this]
theorem Oth.wipe {vs : List Nat} {σ σ' : L2.St} (h : Oth vs σ σ') : L2.wipe σ' vs = L2.wipe σ vs := by
  apply List.ext_getElem?
  intro i
  rw [wipe_get, wipe_get]
  by_cases m : i ∈ vs
  · rw [if_pos m, if_pos m]
    by_cases hl : i < σ.length
    · rw [List.getElem?_eq_getElem hl, List.getElem?_eq_getElem (by rw [h.1]; exact hl)]; rfl
    · have e := h.1
      rw [List.getElem?_eq_none (by omega), List.getElem?_eq_none (by omega)]
  · rw [if_neg m, if_neg m, h.2 i m]
def TGm (Γ : Gm) (ws : List Nat) (g : MG) : TG := fun v σ H Q => ∃ μ env S d env' S', EnvR Γ μ H env σ ∧ StR Γ μ H S ∧ Rel Γ μ H d v ∧ g d env S = some (env', S') ∧ After Γ μ H S' fun μ' H' => ∀ σ', EnvR Γ μ' H' env' σ' → Oth ws σ σ' → Q σ' H'
def TGsm (Γ : Gm) (ws : List Nat) (g : List D → DEnv → M DEnv) : TGs := fun vs σ H Q => ∃ μ env S ds env' S', EnvR Γ μ H env σ ∧ StR Γ μ H S ∧ RelL Γ μ H ds vs ∧ g ds env S = some (env', S') ∧ After Γ μ H S' fun μ' H' => ∀ σ', EnvR Γ μ' H' env' σ' → Oth ws σ σ' → Q σ' H'
end Ev
namespace L2
open PySem PySem.Spec PyProof.Rows
theorem PG.imp {X : Cx} {e : Expr} {t t' : TG} (h : PG X e t) (i : ∀ v σ H Q, t' v σ H Q → t v σ H Q) : PG X e t' := fun pins s σ H v u Q I r q => h pins s σ H v u Q I r (i v σ H Q q)
theorem PGs.imp {X : Cx} {e : List Expr} {t t' : TGs} (h : PGs X e t) (i : ∀ v σ H Q, t' v σ H Q → t v σ H Q) : PGs X e t' := fun pins s σ H v u Q I r q => h pins s σ H v u Q I r (i v σ H Q q)
end L2
namespace Ev
open PySem PySem.Spec PyProof.Rows L2
section
variable {X : Cx} {a b c e tg : Expr} {es : List Expr} {ma mb mc : ME} {pos : Pos} {st : Stmt} {sts sa sb : List Stmt} {m m1 m2 : MS} {g : MG} {gs : List D → DEnv → M DEnv}
theorem kss_nil {Γ : Gm} : PSs X [] (TSm Γ sPass) := pss_nil.imp fun D σ H ⟨μ, env, S, o, S', he, hs, h, q⟩ => by
  cases h
  exact q.self hs σ he
theorem kss_one {Γ : Gm} (h : PS X st (TSm Γ m)) : PSs X [st] (TSm Γ m) := pss_one h
theorem kss_cons {Γ : Gm} (h1 : PS X st (TSm Γ m1)) (h2 : PSs X sts (TSm Γ m2)) : PSs X (st :: sts) (TSm Γ (sSeq m1 m2)) :=
  (pss_cons h1 h2).imp fun D σ H ⟨μ, env, S, o, S', he, hs, h, q⟩ => by
    obtain ⟨o1, S1, e1, e2⟩ := bd_eq h
    refine ⟨μ, env, S, o1, S1, he, hs, e1, fun μ1 H1 x1 s1 => ?_⟩
    cases o1 with
    | nx env1 => exact fun σ1 he1 => ⟨μ1, env1, S1, o, S', he1, s1, e2, q.on x1⟩
    | rt d => cases e2; exact q _ _ x1 s1
    | bk d => cases e2; exact q _ _ x1 s1
    | ct d => cases e2; exact q _ _ x1 s1
theorem ks_ret {Γ : Gm} (h : PE X e (T Γ ma)) : PS X (.Return (some e) pos) (TSm Γ (sRet ma)) :=
  (ps_ret h).imp fun D σ H ⟨μ, env, S, o, S', he, hs, h, q⟩ => by
    refine T.first he hs h fun μ1 H1 S1 x v e1 s1 he1 rx h1 => ?_
    cases h1
    exact q _ _ e1 s1 v rx
theorem ks_expr {Γ : Gm} (h : PE X e (T Γ ma)) (hs : swapsWith e none pos.line X.env = pure false := by rfl) : PS X (.Expr e pos) (TSm Γ (sDrop ma)) :=
  (ps_expr h hs).imp fun D σ H ⟨μ, env, S, o, S', he, hs, h, q⟩ => by
    refine T.first he hs h fun μ1 H1 S1 x v e1 s1 he1 rx h1 => ?_
    cases h1
    exact q _ _ e1 s1 σ he1
theorem ks_if {Γ : Gm} (hc : PT X c (TTm Γ mc)) (ha : PSs X sa (TSm Γ m1)) (hb : PSs X sb (TSm Γ m2)) : PS X (.If c sa sb pos) (TSm Γ (sIf mc m1 m2)) :=
  (ps_if hc ha hb).imp fun D σ H ⟨μ, env, S, o, S', he, hs, h, q⟩ => by
    refine TTm.first he hs h fun μ1 H1 S1 k e1 s1 he1 h1 => ?_
    cases k with
    | true => exact iteT ⟨μ1, env, S1, o, S', he1, s1, h1, q.on e1⟩
    | false => exact iteF ⟨μ1, env, S1, o, S', he1, s1, h1, q.on e1⟩
theorem ks_never {Γ : Gm} : PS X st (TSm Γ sNever) := ps_never.imp fun D σ H ⟨μ, env, S, o, S', he, hs, h, q⟩ => by cases h
theorem kg_name {Γ : Gm} (i : Nat) {x : Str} (hN : X.N.Nodup) (hi : X.N[i]? = some x) (hx : Loc X.env.scope x) (hf : X.fn x = true ∨ X.env.scope.names.lookup x = some .local := by first | exact .inl rfl | exact .inr rfl | assumption) : PG X (.Name x pos) (TGm Γ [i] (gNm i)) :=
  (pg_name hN hi hx hf).imp fun v σ H Q ⟨μ, env, S, d, env', S', he, hs, rd, h, q⟩ => by
    cases h
    exact q.self hs _ (he.set i rd) (Oth.set _ _ _)
theorem kgs_nil {Γ : Gm} : PGs X [] (TGsm Γ [] gsNil) := pgs_nil.imp fun v σ H Q ⟨μ, env, S, d, env', S', he, hs, rd, h, q⟩ => by
  cases d with
  | nil => cases h; cases rd; exact ⟨rfl, q.self hs _ he (Oth.refl _ _)⟩
  | cons x xs => cases h
theorem kgs_cons {Γ : Gm} {w1 w2 : List Nat} (h1 : PG X e (TGm Γ w1 g)) (h2 : PGs X es (TGsm Γ w2 gs)) (hs : (assignEach (e :: es) X.env).map (·.2) = assign e X.env :: (assignEach es X.env).map (·.2) := by rfl) : PGs X (e :: es) (TGsm Γ (w1 ++ w2) (gsCons g gs)) :=
  (pgs_cons h1 h2 hs).imp fun v σ H Q ⟨μ, env, S, d, env', S', he, hs, rd, h, q⟩ => by
    cases d with
    | nil => cases h
    | cons x xs =>
      obtain ⟨w, r, rfl, rx, rr⟩ := rd
      obtain ⟨env1, S1, e1, e2⟩ := bd_eq h
      refine ⟨w, r, rfl, μ, env, S, x, env1, S1, he, hs, rx, e1, fun μ1 H1 x1 s1 σ1 he1 o1 => ?_⟩
      exact ⟨μ1, env1, S1, xs, env', S', he1, s1, RelL.mono x1 _ _ rr, e2, fun μ2 H2 x2 s2 σ2 he2 o2 => q _ _ (x1.trans x2) s2 σ2 he2 ((o1.mono fun i h => List.mem_append_left _ h).trans (o2.mono fun i h => List.mem_append_right _ h))⟩
theorem kg_tup {Γ : Gm} {ws : List Nat} {k n : Nat} (hK : Γ.K = X.K) (hc : X.calm = true) (h : PGs X es (TGsm Γ ws gs)) (hn : (assignEach es X.env).length = n := by rfl) (hst : (assignEach es X.env).findIdx? (·.1) = none := by rfl) : PG X (.Tuple es k pos) (TGm Γ ws (gTp n gs)) :=
  (pg_tup hc h hn hst).imp fun v σ H Q ⟨μ, env, S, d, env', S', he, hs, rd, h, q⟩ => by
    cases d with
    | tup xs =>
      obtain ⟨p, vs, rfl, st, rl⟩ := rd
      simp only [gTp] at h
      split at h
      · rename_i hl
        rw [hK] at st
        exact ⟨p, vs, rfl, st.sqT, by rw [← rl.length]; exact hl, μ, env, S, xs, env', S', he, hs, rl, h, q⟩
      · cases h
    | _ => cases h
theorem ks_asg {Γ : Gm} {ws : List Nat} (he : PE X e (T Γ ma)) (hg : PG X tg (TGm Γ ws g)) (hs : swapsWithSole [tg] e pos.line X.env = pure false := by rfl) (hw : swappedStores [tg] e X.env = pure none := by rfl)
    (h1 : (assignEach [tg] X.env).map (·.2) = [assign tg X.env] := by rfl) : PS X (.Assign [tg] e pos) (TSm Γ (sAsg ma g)) :=
  (ps_asg he hg hs hw h1).imp fun D σ H ⟨μ, env, S, o, S', he, hs, h, q⟩ => by
    refine T.first he hs h fun μ1 H1 S1 x v e1 s1 he1 rx h1 => ?_
    obtain ⟨env', S2, h2, h3⟩ := bd_eq h1
    cases h3
    exact ⟨μ1, env, S1, x, env', _, he1, s1, rx, h2, fun μ2 H2 e2 s2 σ2 he2 _ => q _ _ (e1.trans e2) s2 σ2 he2⟩
theorem ks_set {Γ : Gm} (i : Nat) {x : Str} {pos' : Pos} (hN : X.N.Nodup) (hi : X.N[i]? = some x) (hx : Loc X.env.scope x) (he : PE X e (T Γ ma)) (hs : swapsWith e (some (.Name x pos')) pos.line X.env = pure false := by rfl)
    (hf : X.fn x = true ∨ X.env.scope.names.lookup x = some .local := by first | exact .inl rfl | exact .inr rfl | assumption) : PS X (.Assign [.Name x pos'] e pos) (TSm Γ (sAsg ma (gNm i))) :=
  (ps_set hN hi hx he hs hf).imp fun D σ H ⟨μ, env, S, o, S', he, hs, h, q⟩ => by
    refine T.first he hs h fun μ1 H1 S1 x v e1 s1 he1 rx h1 => ?_
    cases h1
    exact q _ _ e1 s1 _ (he1.set i rx)
def sPar (i j : Nat) (ml : DEnv → M (List D)) : MS := fun env => bd (ml env) fun xs => match xs with
  | [x, y] => ret (.nx ((env.set i (some x)).set j (some y)))
  | _ => no
theorem ks_par {Γ : Gm} (i j : Nat) {x y : Str} {px py pt : Pos} {kt k2 pt2} {ml : DEnv → M (List D)} (hc : X.calm = true) (hN : X.N.Nodup) (hi : X.N[i]? = some x) (hj : X.N[j]? = some y) (hij : i ≠ j)
    (hx : X.env.scope.names.lookup x = some .local) (hy : X.env.scope.names.lookup y = some .local) (ha : PA X [a, b] (TAm Γ ml))
    (hw : swappedStores [.Tuple [.Name x px, .Name y py] kt pt] (.Tuple [a, b] k2 pt2) X.env = pure (some [x, y]))
    (hs : swapsWithSole [.Tuple [.Name x px, .Name y py] kt pt] (.Tuple [a, b] k2 pt2) pos.line X.env = pure false := by rfl) :
    PS X (.Assign [.Tuple [.Name x px, .Name y py] kt pt] (.Tuple [a, b] k2 pt2) pos) (TSm Γ (sPar i j ml)) :=
  (ps_par hc hN hi hj hij hx hy ha hw hs).imp fun D σ H ⟨μ, env, S, o, S', he, hs, h, q⟩ => by
    obtain ⟨xs, S1, h1, h2⟩ := bd_eq h
    match xs, h2 with
    | [u, w], h2 =>
      cases h2
      refine ⟨μ, env, S, _, _, he, hs, h1, fun μ1 H1 e1 s1 vs rv => ?_⟩
      obtain ⟨v, r, rfl, r1, v2, r2, rfl, r3, rfl⟩ := rv
      exact ⟨v, v2, rfl, q _ _ e1 s1 _ (((he.mono e1).set i r1).set j r3)⟩
    | [], h2 => cases h2
    | [_], h2 => cases h2
    | _ :: _ :: _ :: _, h2 => cases h2
end
end Ev

/-! Operators, items, slices, built-ins, calls, loops, comprehensions, dicts, methods. -/
namespace Ev
open PySem PySem.Spec PyProof.Rows L2

/-! ### operators -/
def oAdd : D → D → M D := fun x y => match x, y with
  | .int i, .int j => ret (.int (i + j))
  | .str a, .str b => fun S => if a.length + b.length ≤ sizeLine then some (.str (a ++ b), S) else none
  | .tup (x :: xs), .tup ys => fun S => if (x :: xs).length + ys.length ≤ sizeLine then some (.tup ((x :: xs) ++ ys), S) else none
  | .tup [], .tup ys => ret (.tup ys)
  | .loc m, .loc n => fun S => match S[m]?, S[n]? with
    | some (.lst xs), some (.lst ys) => if xs.length + ys.length ≤ sizeLine then new (.lst (xs ++ ys)) S else none
    | _, _ => none
  | _, _ => no
def oI (f : Int → Int → Int) : D → D → M D := fun x y => match x, y with
  | .int i, .int j => ret (.int (f i j))
  | _, _ => no
def oIc (p : Int → Int → Bool) (f : Int → Int → Int) : D → D → M D := fun x y => match x, y with
  | .int i, .int j => if p i j then ret (.int (f i j)) else no
  | _, _ => no
def oB (f : Int → Int → Bool) : D → D → M D := fun x y => match x, y with
  | .int i, .int j => ret (.bl (f i j))
  | _, _ => no
def oSub := oI fun i j => i - j
def oLt := oB fun i j => decide (i < j)
def oLe := oB fun i j => decide (i ≤ j)
def oGt := oB fun i j => decide (j < i)
def oGe := oB fun i j => decide (j ≤ i)
def oMod := oIc (fun _ j => decide (0 < j)) fun i j => i % j
def oDiv := oIc (fun _ j => decide (0 < j ∧ j < 1073741824)) fun i j => i / j
def oPow := oIc (fun i j => decide (0 ≤ j ∧ j ≤ 1000000 ∧ i.natAbs < 2 ^ 64)) fun i j => i ^ j.toNat
def rep (n : Nat) (xs : List D) : List D := (List.replicate n xs).flatten
def oMul : D → D → M D := fun x y => match x, y with
  | .int i, .int j => if ((-(2 ^ 64) < i ∧ i < 2 ^ 64) ∨ (-(2 ^ 64) < j ∧ j < 2 ^ 64)) then ret (.int (i * j)) else no
  | .loc m, .int k => fun S => match S[m]? with
    | some (.lst xs) => if -(2 ^ 63) ≤ k ∧ k < 2 ^ 63 ∧ xs.length * k.toNat ≤ sizeLine then new (.lst (rep k.toNat xs)) S else none
    | _ => none
  | .tup xs, .int k => if 1 < k ∧ k < 2 ^ 31 ∧ 0 < xs.length ∧ xs.length * k.toNat ≤ sizeLine then ret (.tup (rep k.toNat xs)) else no
  | _, _ => no
def oIs (neg : Bool) : D → D → M D := fun x y => match y with
  | .non => match x with
    | .non => ret (.bl (!neg))
    | _ => ret (.bl neg)
  | _ => no
section
variable {prog : Program} {w : World} {A : Around} {E : Value → Shared → Prop} {s : Shared}
theorem noFill_tuple_mul : fillsNumberSlot (.type "tuple") "mul" = pure false :=
  PySem.fillsNumberSlot_seq (id := "tuple.__mul__") (r := some (.builtin "tuple.__rmul__")) F.slot_tuple_mul.lookup (by decide +kernel) F.slot_tuple_rmul.lookup (by decide +kernel)
theorem repeat_tuple : seqRepeat? (.type "tuple") = pure (some (.builtin "tuple.__mul__")) := by
  unfold seqRepeat?
  rw [PySem.seqSlot_of (T := "tuple") (name := "__mul__") (id := "tuple.__mul__") F.slot_tuple_mul.lookup (by decide +kernel), PySem.seqSlot_of (T := "tuple") (name := "__rmul__") (id := "tuple.__rmul__") F.slot_tuple_rmul.lookup (by decide +kernel)]
  rfl
theorem int_rmul_tuple (a : Int) (t : Tok) (l : Addr) (items : Array Value) (n : Nat) (dd : Option Addr) (sl : Array (Option Value)) :
    Meets (Builtin.«int.__rmul__» ⟨[.int a t, .ref l], []⟩) (fun _ R s => s.heap.get? l = some { cls := .type "tuple", dict := dd, data := .seq items n, slots := sl } ∧ R (.ok (.ret Value.notImplemented)) s) :=
  .of_wp fun prog w A R s h => by obtain ⟨hp, g, d, tk, os⟩ := s; obtain ⟨hl, h⟩ := h; wp_walk; exact ⟨_, rfl, h⟩
open AutoSeq1 (wpAny_loadPart') in
theorem tuple_mulW (l : Addr) (items : Array Value) (n : Nat) (dd : Option Addr) (sl : Array (Option Value)) (x : Int) (u : Tok) (h0 : ¬ (x < -(2 ^ 63) || x ≥ 2 ^ 63) = true) (h1 : ¬ (items.isEmpty || x == 1) = true) (h2 : ¬ (x ≤ 0 || items.isEmpty) = true) (h3 : ¬ (items.size * x > (2 ^ 63 - 1) / 8)) (h4 : ¬ Builtin.Tuple.tupleTooMany (items.size * x) = true)
    (hsz : (List.foldl (fun x1 x2 => x1 ++ x2) #[] (List.replicate x.toNat items)).size ≤ sizeLine) :
    Meets (Builtin.«tuple.__mul__» ⟨[.ref l, .int x u], []⟩) (fun _ R s => s.heap.get? l = some { cls := .type "tuple", dict := dd, data := .seq items n, slots := sl } ∧ R (.ok (.ret (Value.ref s.heap.objs.size))) { s with heap := s.heap.push { cls := Value.type "tuple", data := Data.seq (List.foldl (fun x1 x2 => x1 ++ x2) #[] (List.replicate x.toNat items)) }, toks := s.toks }) :=
  .of_wp fun prog w A R s h => by
    obtain ⟨hp, g, d, tk, os⟩ := s; obtain ⟨hl, h⟩ := h; have f1 := AutoSeq1.idx_int; have f2 := AutoSeq1.sub_tuple_tuple
    wp_walk using wpAny_loadPart' hl
    rw [if_neg h0]
    wp_walk using wpAny_loadPart' hl
    rw [if_neg h3]
    wp_walk using wpAny_loadPart' hl
    exact ⟨_, rfl, h⟩
end
section
variable {X : Cx} {Γ : Gm}
theorem StR.list {μ : List Addr} {H : Hp} {S : Sto} (hs : StR Γ μ H S) {n : Nat} {v : V} {xs : List D} (r : Rel Γ μ H (.loc n) v) (e : S[n]? = some (.lst xs)) : ∃ a vs, v = .ref a ∧ μ[n]? = some a ∧ H a = some (.lst vs) ∧ RelL Γ μ H xs vs := by
  obtain ⟨a, rfl, h⟩ := r
  obtain ⟨vs, h1, h2⟩ := hs.ob n a _ h e
  exact ⟨a, vs, rfl, h, h1, h2⟩
theorem opI' {f : Value → Value → Sem Value} {g : Int → Int → V} {p : Int → Int → D} (C : Int → Int → Prop) (h : OpR X f (rI C g)) (hp : ∀ i j μ H, Rel Γ μ H (p i j) (g i j)) (m : D → D → M D)
    (hm : ∀ x y S r, m x y S = some r → ∃ i j, x = .int i ∧ y = .int j ∧ C i j ∧ r = (p i j, S)) : OpR X f (R2m Γ m) := by
  intro pins s σ H x y v u Q I rx ry ⟨μ, S, dx, dy, d, S', hs, hx, hy, hm', q⟩
  obtain ⟨i, j, rfl, rfl, c, e⟩ := hm _ _ _ _ hm'
  cases hx; cases hy; cases e
  exact h pins s σ H _ _ v u Q I rx ry ⟨i, j, rfl, rfl, c, q.self hs _ (hp _ _ _ _)⟩
theorem rI_of {f : Value → Value → Sem Value} {g : Int → Int → V} (h : OpR X f (rI0 g)) : OpR X f (rI (fun _ _ => True) g) := fun pins s σ H x y v u Q I rx ry ⟨i, j, e1, e2, _, q⟩ => h pins s σ H x y v u Q I rx ry ⟨i, j, e1, e2, q⟩
theorem oI_eq {f : Int → Int → Int} {x y : D} {S : Sto} {r : D × Sto} (h : oI f x y S = some r) : ∃ i j, x = .int i ∧ y = .int j ∧ True ∧ r = (.int (f i j), S) := by
  unfold oI at h
  split at h
  · cases h; exact ⟨_, _, rfl, rfl, trivial, rfl⟩
  · cases h
theorem oB_eq {f : Int → Int → Bool} {x y : D} {S : Sto} {r : D × Sto} (h : oB f x y S = some r) : ∃ i j, x = .int i ∧ y = .int j ∧ True ∧ r = (.bl (f i j), S) := by
  unfold oB at h
  split at h
  · cases h; exact ⟨_, _, rfl, rfl, trivial, rfl⟩
  · cases h
theorem oIc_eq {p : Int → Int → Bool} {f : Int → Int → Int} {x y : D} {S : Sto} {r : D × Sto} (h : oIc p f x y S = some r) : ∃ i j, x = .int i ∧ y = .int j ∧ p i j = true ∧ r = (.int (f i j), S) := by
  unfold oIc at h
  split at h
  · split at h
    · rename_i hp
      cases h; exact ⟨_, _, rfl, rfl, hp, rfl⟩
    · cases h
  · cases h
theorem o_sub : OpR X (binaryOp .Sub) (R2m Γ oSub) := opI' _ (rI_of op_sub) (p := fun i j => .int (i - j)) (fun _ _ _ _ => rfl) _ fun _ _ _ _ h => oI_eq h
theorem o_mod : OpR X (binaryOp .Mod) (R2m Γ oMod) := opI' _ op_mod (p := fun i j => .int (i % j)) (fun _ _ _ _ => rfl) _ fun _ _ _ _ h => by
  obtain ⟨i, j, h1, h2, h3, h4⟩ := oIc_eq h
  exact ⟨i, j, h1, h2, of_decide_eq_true h3, h4⟩
theorem o_div : OpR X (binaryOp .FloorDiv) (R2m Γ oDiv) := opI' _ op_fdiv (p := fun i j => .int (i / j)) (fun _ _ _ _ => rfl) _ fun _ _ _ _ h => by
  obtain ⟨i, j, h1, h2, h3, h4⟩ := oIc_eq h
  have h3' : 0 < j ∧ j < 1073741824 := of_decide_eq_true h3
  exact ⟨i, j, h1, h2, h3', h4⟩
theorem o_pow : OpR X (binaryOp .Pow) (R2m Γ oPow) := opI' _ op_pow (p := fun i j => .int (i ^ j.toNat)) (fun _ _ _ _ => rfl) _ fun _ _ _ _ h => by
  obtain ⟨i, j, h1, h2, h3, h4⟩ := oIc_eq h
  have h3' : 0 ≤ j ∧ j ≤ 1000000 ∧ i.natAbs < 2 ^ 64 := of_decide_eq_true h3
  exact ⟨i, j, h1, h2, h3', h4⟩
theorem o_lt : OpR X (compareOp .Lt) (R2m Γ oLt) := opI' _ (rI_of op_lt) (p := fun i j => .bl (decide (i < j))) (fun _ _ _ _ => rfl) _ fun _ _ _ _ h => oB_eq h
theorem o_le : OpR X (compareOp .LtE) (R2m Γ oLe) := opI' _ (rI_of op_le) (p := fun i j => .bl (decide (i ≤ j))) (fun _ _ _ _ => rfl) _ fun _ _ _ _ h => oB_eq h
theorem o_ge : OpR X (compareOp .GtE) (R2m Γ oGe) := opI' _ (rI_of op_ge) (p := fun i j => .bl (decide (j ≤ i))) (fun _ _ _ _ => rfl) _ fun _ _ _ _ h => oB_eq h
theorem o_mul (hK : Γ.K = X.K) : OpR X (binaryOp .Mult) (R2m Γ oMul) := by
  intro pins s σ H x y v u Q I rx ry ⟨μ, S, dx, dy, d, S', hs, hx, hy, h, q⟩
  unfold oMul at h
  split at h
  · split at h
    · rename_i c
      cases h; cases hx; cases hy
      exact op_mul pins s σ H _ _ v u Q I rx ry ⟨_, _, rfl, rfl, c, q.self hs _ rfl⟩
    · cases h
  · try dsimp only at h
    split at h
    · rename_i xs e
      split at h
      · rename_i c
        obtain ⟨a, vs, rfl, ha, hH, rl⟩ := hs.list hx e
        cases hy; cases h
        refine op_rep pins s σ H _ _ v u Q I rx ry ⟨a, _, vs, rfl, rfl, hH, c.1, c.2.1, by rw [← rl.length]; exact c.2.2, fun p hp => ?_⟩
        have rr : ∀ {μ' : List Addr} {H' : Hp}, RelL Γ μ' H' xs vs → ∀ n, RelL Γ μ' H' (rep n xs) (List.replicate n vs).flatten := by
          intro μ' H' r n
          induction n with
          | zero => rfl
          | succ n ih =>
            unfold rep at ih ⊢
            rw [List.replicate_succ, List.replicate_succ, List.flatten_cons, List.flatten_cons]
            exact r.append ih
        obtain ⟨e2, s2⟩ := Ext.laid hs (q := .lst (rep _ xs)) hp fun μ' H' e h' => ⟨_, h', rr (RelL.mono e _ _ rl) _⟩
        exact q _ _ e2 s2 _ ⟨p, rfl, by rw [← hs.len]; simp⟩
      · cases h
    · cases h
  · rename_i xs k
    split at h
    · rename_i c
      obtain ⟨c1, c2, c3, c4⟩ := c
      cases h
      obtain ⟨a, vs, rfl, st, rl⟩ := hx
      cases hy
      rw [hK] at st
      obtain ⟨t, rfl⟩ := ry
      cases rx
      obtain ⟨its, r, ht, hz⟩ := I.tuple st.sqT
      obtain ⟨⟨cls, dd, data, sl⟩, ho, hc, n, hd⟩ := id ht
      simp only at hc hd
      subst hc hd
      have l1 := rl.length
      have l2 := r.length
      have rr : ∀ {μ' : List Addr} {H' : Hp}, RelL Γ μ' H' xs vs → ∀ n, RelL Γ μ' H' (rep n xs) (List.replicate n vs).flatten := by
        intro μ' H' r n
        induction n with
        | zero => rfl
        | succ n ih =>
          unfold rep at ih ⊢
          rw [List.replicate_succ, List.replicate_succ, List.flatten_cons, List.flatten_cons]
          exact r.append ih
      have hnew : List.foldl (fun x1 x2 => x1 ++ x2) #[] (List.replicate k.toNat its.toArray) = (List.replicate k.toNat its).flatten.toArray := by
        have := foldl_rep its k.toNat []
        rw [List.nil_append] at this
        exact this
      have hlen : (List.replicate k.toNat its).flatten.length = its.length * k.toNat := by rw [len_rep, Nat.mul_comm]
      have hb : its.length * k.toNat ≤ sizeLine := by rw [← l2, ← l1]; exact c4
      have hcast : ((its.toArray.size : Nat) : Int) * k = ((its.length * k.toNat : Nat) : Int) := by
        rw [List.size_toArray, Int.natCast_mul, Int.toNat_of_nonneg (by omega)]
      have hsl : (sizeLine : Nat) = 16777216 := sizeLine_eq
      have hi : its.toArray.isEmpty = false := by
        cases its with
        | nil =>
          have : vs.length = 0 := l2
          omega
        | cons _ _ => rfl
      refine wpAny_binaryOp_repeat_ref (T := "tuple") (U := "int") (by decide) ⟨_, ho, rfl⟩ (fun s' => typeIs_int s' k t) noFill_tuple_mul F.fills_int_mul F.slot_int_rmul repeat_tuple F.slot_int_index.lookup
        (call_meets F.slot_int_rmul (typeIs_int s k t) F.entry_int_rmul (F.args_int_rmul_2 _ _) (int_rmul_tuple k t a its.toArray n dd sl)
          ⟨ho, rfl, ⟨_, ho, rfl⟩, call_meets F.slot_tuple_mul ⟨_, ho, rfl⟩ F.entry_tuple_mul (F.args_tuple_mul_2 _ _) (tuple_mulW a its.toArray n dd sl k t ?_ ?_ ?_ ?_ ?_ ?_) ⟨ho, ?_⟩⟩)
      · simp; omega
      · rw [hi]; simp; omega
      · rw [hi]; simp; omega
      · rw [hcast]; omega
      · rw [hcast]; show ¬ decide (((its.length * k.toNat : Nat) : Int) > ((sizeLine : Nat) : Int)) = true
        rw [decide_eq_true_iff]; omega
      · rw [hnew, List.size_toArray, hlen]; exact hb
      · rw [hnew]
        have rv : Vals (List.replicate k.toNat vs).flatten (List.replicate k.toNat its).flatten := r.rep k.toNat
        have hv : (List.replicate k.toNat vs).flatten.length ≤ sizeLine := by rw [rv.length, hlen]; exact hb
        have hp : H s.heap.objs.size = none := I.hok.fresh (Nat.le_refl _)
        obtain ⟨e2, s2⟩ := Ext.aside hs (o := .tup (List.replicate k.toNat vs).flatten) hp
        refine ⟨.ref s.heap.objs.size, _, I.laid (t' := s.toks) (o := .tup (List.replicate k.toNat vs).flatten) (fun b ob q => Heap.get?_push_of_some _ q) (Nat.le_refl _) ⟨hv, _, rv, IsTup.new _ _⟩, rfl, q _ _ e2 s2 _ ⟨s.heap.objs.size, _, rfl, .inl ⟨.inl ⟨_, rfl, upd_same⟩, hs.fresh hp⟩, rr (RelL.mono e2 _ _ rl) _⟩⟩
    · cases h
  · cases h
theorem o_add (hK : Γ.K = X.K) : OpR X (binaryOp .Add) (R2m Γ oAdd) := by
  intro pins s σ H x y v u Q I rx ry ⟨μ, S, dx, dy, d, S', hs, hx, hy, h, q⟩
  unfold oAdd at h
  split at h
  · cases h; cases hx; cases hy
    exact op_add pins s σ H _ _ v u Q I rx ry ⟨_, _, rfl, rfl, q.self hs _ rfl⟩
  · try dsimp only at h
    split at h
    · rename_i c
      cases h; cases hx; cases hy
      exact op_add_str pins s σ H _ _ v u Q I rx ry ⟨_, _, rfl, rfl, c, q.self hs _ rfl⟩
    · cases h
  · try dsimp only at h
    split at h
    · rename_i z zs ys c
      cases h
      obtain ⟨a, vs, rfl, st, rl⟩ := hx
      obtain ⟨b, ws, rfl, st2, rl2⟩ := hy
      have l1 := rl.length
      have l2 := rl2.length
      rw [hK] at st st2
      refine op_catT pins s σ H _ _ v u Q I rx ry ⟨a, b, vs, ws, rfl, rfl, st.sqT, st2.sqT, fun z => by rw [z] at l1; simp at l1, by omega, fun z => ?_, fun _ p hp => ?_⟩
      · subst z
        have : ys = [] := List.length_eq_zero_iff.mp l2
        subst this
        rw [List.append_nil] at q
        exact q.self hs _ ⟨a, vs, rfl, by rw [hK]; exact st, rl⟩
      · obtain ⟨e2, s2⟩ := Ext.aside hs (o := .tup (vs ++ ws)) hp
        exact q _ _ e2 s2 _ ⟨p, _, rfl, .inl ⟨.inl ⟨_, rfl, upd_same⟩, hs.fresh hp⟩, (RelL.mono e2 _ _ rl).append (RelL.mono e2 _ _ rl2)⟩
    · cases h
  · rename_i ys
    cases h
    obtain ⟨a, vs, rfl, st, rl⟩ := hx
    have hy' := hy
    obtain ⟨b, ws, rfl, st2, rl2⟩ := hy
    cases rl
    rw [hK] at st st2
    cases rx
    cases ry
    obtain ⟨its, r1, p1, _⟩ := I.tuple st.sqT
    obtain ⟨its2, r2, p2, _⟩ := I.tuple st2.sqT
    cases r1
    obtain ⟨⟨cls, dd, data, sl⟩, ho, hc, n, hd⟩ := id p1
    obtain ⟨⟨cls2, dd2, data2, sl2⟩, ho2, hc2, n2, hd2⟩ := id p2
    simp only at hc hd hc2 hd2
    subst hc hd hc2 hd2
    exact concat_meets ⟨_, ho, rfl⟩ ⟨_, ho2, rfl⟩ noFill_tuple_add seq_tuple_add PySem.F.slot_tuple_add PySem.F.entry_tuple_add (PySem.F.args_tuple_add_2 _ _)
      (tuple_addW0 a b _ _ n n2 dd dd2 sl sl2 (by simp)) ⟨ho, ho2, ⟨.ref b, H, I, rfl, q.self hs _ hy'⟩⟩
  · try dsimp only at h
    split at h
    · rename_i xs ys e1 e2
      split at h
      · rename_i c
        obtain ⟨a, vs, rfl, ha, hH, rl⟩ := hs.list hx e1
        obtain ⟨b, ws, rfl, hb, hH2, rl2⟩ := hs.list hy e2
        cases h
        refine op_cat pins s σ H _ _ v u Q I rx ry ⟨a, b, vs, ws, rfl, rfl, hH, hH2, by rw [← rl.length, ← rl2.length]; exact c, fun p hp => ?_⟩
        obtain ⟨e3, s3⟩ := Ext.laid hs (q := .lst (xs ++ ys)) hp fun μ' H' e h' => ⟨_, h', (RelL.mono e _ _ rl).append (RelL.mono e _ _ rl2)⟩
        exact q _ _ e3 s3 _ ⟨p, rfl, by rw [← hs.len]; simp⟩
      · cases h
    · cases h
  · cases h
theorem Rel.non_iff {μ : List Addr} {H : Hp} {d : D} {v : V} (h : Rel Γ μ H d v) : v = .non ↔ d = .non := by
  cases d with
  | non => cases h; simp
  | bl _ => cases h; simp
  | int _ => cases h; simp
  | str _ => cases h; simp
  | tup _ => obtain ⟨_, _, rfl, _⟩ := h; simp
  | sq _ => obtain ⟨_, _, rfl, _⟩ := h; simp
  | loc _ => obtain ⟨_, rfl, _⟩ := h; simp
theorem oIs_eq {neg : Bool} {x y : D} {S : Sto} {r : D × Sto} (h : oIs neg x y S = some r) : y = .non ∧ ∃ b, r = (.bl (b != neg), S) ∧ (b = true ↔ x = .non) := by
  cases y with
  | non =>
    cases x with
    | non => cases h; exact ⟨rfl, true, by cases neg <;> rfl, by simp⟩
    | _ => cases h; exact ⟨rfl, false, by cases neg <;> rfl, by simp⟩
  | _ => cases h
theorem o_isnot : OpR X (compareOp .IsNot) (R2m Γ (oIs true)) := by
  intro pins s σ H x y v u Q I rx ry ⟨μ, S, dx, dy, d, S', hs, hx, hy, h, q⟩
  obtain ⟨rfl, b, e, hb⟩ := oIs_eq h
  cases e; cases hy
  refine op_notN pins s σ H _ _ v u Q I rx ry ⟨rfl, ?_⟩
  have : decide (x = .non) = b := by
    rw [Bool.eq_iff_iff, decide_eq_true_iff, hx.non_iff, hb]
  rw [this]
  exact q.self hs _ (by cases b <;> rfl)
end

/-! ### data, == -/
mutual
def datW (f : Nat → Option PyData) : D → Option PyData
  | .non => some .none
  | .bl b => some (.bool b)
  | .int i => some (.int i)
  | .str x => some (.str x)
  | .tup xs => (datWL f xs).map .tuple
  | .sq xs => (datWL f xs).map .list
  | .loc n => f n
def datWL (f : Nat → Option PyData) : List D → Option (List PyData)
  | [] => some []
  | x :: xs => match datW f x, datWL f xs with
    | some d, some ds => some (d :: ds)
    | _, _ => none
end
def datN (S : Sto) : Nat → Nat → Option PyData
  | 0, _ => none
  | k + 1, n => match S[n]? with
    | some (.lst xs) => (datWL (datN S k) xs).map .list
    | _ => none
def dat (S : Sto) : D → Option PyData := datW (datN S 6)
section
variable {Γ : Gm} {μ : List Addr} {H : Hp}
mutual
theorem datW_ok {f : Nat → Option PyData} (hf : ∀ n p v, f n = some p → Rel Γ μ H (.loc n) v → Dp Γ.K H v p) : ∀ (d : D) (p : PyData) (v : V), datW f d = some p → Rel Γ μ H d v → Dp Γ.K H v p
  | .non, p, v, h, r => by simp only [datW] at h; cases h; cases r; exact .non
  | .bl _, p, v, h, r => by simp only [datW] at h; cases h; cases r; exact .bl _
  | .int _, p, v, h, r => by simp only [datW] at h; cases h; cases r; exact .int _
  | .str _, p, v, h, r => by simp only [datW] at h; cases h; cases r; exact .str _
  | .tup xs, p, v, h, r => by
    simp only [datW] at h
    obtain ⟨ps, h1, rfl⟩ := Option.map_eq_some_iff.mp h
    obtain ⟨a, vs, rfl, st, rl⟩ := r
    exact .tup st.sqT (datWL_ok hf xs ps vs h1 rl)
  | .sq xs, p, v, h, r => by
    simp only [datW] at h
    obtain ⟨ps, h1, rfl⟩ := Option.map_eq_some_iff.mp h
    obtain ⟨a, vs, rfl, st, rl⟩ := r
    exact .lst st.sqL (datWL_ok hf xs ps vs h1 rl)
  | .loc n, p, v, h, r => by simp only [datW] at h; exact hf n p v h r
theorem datWL_ok {f : Nat → Option PyData} (hf : ∀ n p v, f n = some p → Rel Γ μ H (.loc n) v → Dp Γ.K H v p) : ∀ (ds : List D) (ps : List PyData) (vs : List V), datWL f ds = some ps → RelL Γ μ H ds vs → DpAll Γ.K H vs ps
  | [], ps, vs, h, r => by simp only [datWL] at h; cases h; cases r; exact .nil
  | d :: ds, ps, vs, h, r => by
    simp only [datWL] at h
    obtain ⟨v, w, rfl, r1, r2⟩ := r
    split at h
    · rename_i p q e1 e2
      cases h
      exact .cons (datW_ok hf d p v e1 r1) (datWL_ok hf ds q w e2 r2)
    · cases h
end
theorem datN_ok {S : Sto} (hs : StR Γ μ H S) : ∀ (k n : Nat) (p : PyData) (v : V), datN S k n = some p → Rel Γ μ H (.loc n) v → Dp Γ.K H v p
  | 0, _, _, _, h, _ => by cases h
  | k + 1, n, p, v, h, r => by
    simp only [datN] at h
    split at h
    · rename_i xs e
      obtain ⟨ps, h1, rfl⟩ := Option.map_eq_some_iff.mp h
      obtain ⟨a, vs, rfl, ha, hH, rl⟩ := hs.list r e
      exact .lst (SqL.of hH) (datWL_ok (datN_ok hs k) xs ps vs h1 rl)
    · cases h
theorem dat_ok {S : Sto} (hs : StR Γ μ H S) {d : D} {p : PyData} {v : V} (h : dat S d = some p) (r : Rel Γ μ H d v) : Dp Γ.K H v p := datW_ok (datN_ok hs 6) d p v h r
end
def eqD (S : Sto) : D → D → Option Bool := fun x y => match x, y with
  | .int i, .int j => some (decide (i = j))
  | .str a, .str b => some (decide (a = b))
  | .bl a, .bl b => some (decide (a = b))
  | .non, .non => some true
  | .non, .int _ => some false
  | .int _, .non => some false
  | .non, .str _ => some false
  | .str _, .non => some false
  | .non, .bl _ => some false
  | .bl _, .non => some false
  | .int _, .str _ => some false
  | .str _, .int _ => some false
  | .bl _, .str _ => some false
  | .str _, .bl _ => some false
  | x, y => match dat S x, dat S y with
    | some p, some q => if (SeqAt.shaped p && SeqAt.shaped q) = true then some (PyData.eqv p q) else none
    | _, _ => none
def oEq (neg : Bool) : D → D → M D := fun x y S => match eqD S x y with
  | some b => some (.bl (b != neg), S)
  | none => none
section
variable {X : Cx} {Γ : Gm}
theorem eqD_ok {μ : List Addr} {H : Hp} {S : Sto} (hs : StR Γ μ H S) {dx dy : D} {x y : V} {b : Bool} (hx : Rel Γ μ H dx x) (hy : Rel Γ μ H dy y) (h : eqD S dx dy = some b) :
    (scal x y = true ∧ decide (x = y) = b) ∨ ∃ d e, Dp Γ.K H x d ∧ Dp Γ.K H y e ∧ SeqAt.shaped d = true ∧ SeqAt.shaped e = true ∧ PyData.eqv d e = b := by
  unfold eqD at h
  split at h
  case h_15 =>
    right
    split at h
    · rename_i p q e1 e2
      split at h
      · rename_i c
        rw [Bool.and_eq_true] at c
        cases h
        exact ⟨p, q, dat_ok hs e1 hx, dat_ok hs e2 hy, c.1, c.2, rfl⟩
      · cases h
    · cases h
  all_goals (left; cases h; cases hx; cases hy; refine ⟨rfl, ?_⟩; simp)
theorem o_eq (hK : Γ.K = X.K) (hu : X.A.units + 64 < cLine) : OpR X (compareOp .Eq) (R2m Γ (oEq false)) := by
  intro pins s σ H x y v u Q I rx ry ⟨μ, S, dx, dy, d, S', hs, hx, hy, h, q⟩
  unfold oEq at h
  split at h
  · rename_i b e
    cases h
    rcases eqD_ok hs hx hy e with ⟨h1, h2⟩ | ⟨d, e', h1, h2, h3, h4, h5⟩
    · exact op_eq pins s σ H _ _ v u Q I rx ry ⟨h1, by rw [h2]; exact q.self hs _ (by cases b <;> rfl)⟩
    · rw [hK] at h1 h2
      exact op_eqD hu pins s σ H _ _ v u Q I rx ry ⟨d, e', h1, h2, h3, h4, by rw [h5]; exact q.self hs _ (by cases b <;> rfl)⟩
  · cases h
theorem o_ne (hK : Γ.K = X.K) (hu : X.A.units + 64 < cLine) : OpR X (compareOp .NotEq) (R2m Γ (oEq true)) := by
  intro pins s σ H x y v u Q I rx ry ⟨μ, S, dx, dy, d, S', hs, hx, hy, h, q⟩
  unfold oEq at h
  split at h
  · rename_i b e
    cases h
    rcases eqD_ok hs hx hy e with ⟨h1, h2⟩ | ⟨d, e', h1, h2, h3, h4, h5⟩
    · exact op_ne pins s σ H _ _ v u Q I rx ry ⟨h1, by rw [h2]; exact q.self hs _ (by cases b <;> rfl)⟩
    · rw [hK] at h1 h2
      exact op_neD hu pins s σ H _ _ v u Q I rx ry ⟨d, e', h1, h2, h3, h4, by rw [h5]; exact q.self hs _ (by cases b <;> rfl)⟩
  · cases h
end

/-! ### items -/
def keyOf : D → Option Key
  | .int i => some (.inl i)
  | .str x => some (.inr x)
  | _ => none
def dGet (kvs : List (Key × D)) (k : Key) : Option D := (kvs.find? fun kv => decide (kv.1 = k)).map (·.2)
def dPut (kvs : List (Key × D)) (k : Key) (v : D) : List (Key × D) := if kvs.any (fun kv => decide (kv.1 = k)) then kvs.map (fun kv => if kv.1 = k then (kv.1, v) else kv) else kvs ++ [(k, v)]
def oIx : D → D → M D := fun x y S => match x, y with
  | .tup xs, .int i => (atI xs i).map fun d => (d, S)
  | .sq xs, .int i => (atI xs i).map fun d => (d, S)
  | .loc n, y => match S[n]?, y with
    | some (.lst xs), .int i => (atI xs i).map fun d => (d, S)
    | some (.dic kvs), y => match keyOf y with
      | some k => (dGet kvs k).map fun d => (d, S)
      | none => none
    | _, _ => none
  | _, _ => none
section
variable {X : Cx} {Γ : Gm}
theorem RelL.atI {μ : List Addr} {H : Hp} {ds : List D} {vs : List V} {i : Int} {d : D} (r : RelL Γ μ H ds vs) (h : L2.atI ds i = some d) : ∃ v, L2.atI vs i = some v ∧ Rel Γ μ H d v := by
  unfold L2.atI at h ⊢
  rw [r.length] at h
  cases e : ixN vs.length i with
  | none => rw [e] at h; cases h
  | some j => rw [e] at h; exact r.get h
theorem RelP.get {κ : Type} [DecidableEq κ] {μ : List Addr} {H : Hp} {kvs : List (κ × D)} {ws : List (κ × V)} {k : κ} {d : D} (r : RelP Γ μ H kvs ws) (h : (kvs.find? fun kv => decide (kv.1 = k)).map (·.2) = some d) : ∃ v, (ws.find? fun kv => decide (kv.1 = k)).map (·.2) = some v ∧ Rel Γ μ H d v := by
  unfold RelP at r
  induction r with
  | nil => simp at h
  | @cons p q ps qs hpq t ih =>
    rw [List.find?_cons] at h ⊢
    rw [← hpq.1]
    by_cases c : p.1 = k
    · simp only [c, decide_true] at h ⊢
      cases h
      exact ⟨q.2, rfl, hpq.2⟩
    · simp only [c, decide_false] at h ⊢
      exact ih h
theorem ix_dict (hu : X.A.units + 1 < cLine) : IxR X (fun x y H Q => ∃ a v, x = .ref a ∧ DGet H a y (some v) ∧ Q v H) := by
  intro value slice pins s σ H x y v u Q I rx ry ⟨a, w, e, g, q⟩ hs
  subst e
  cases rx
  exact tail_any (dict_typeIs I g) PySem.F.slot_dict_getitem.lookup (d_getItem hu I g ry fun w' s3 I3 rw' => ⟨w, H, I3, rw', q⟩) hs
theorem kV_of {μ : List Addr} {H : Hp} {y : D} {v : V} {k : Key} (h : keyOf y = some k) (r : Rel Γ μ H y v) : v = kV k := by
  cases y with
  | int i => cases h; cases r; rfl
  | str i => cases h; cases r; rfl
  | _ => cases h
theorem x_ix (hK : Γ.K = X.K) (hu : X.A.units + 1 < cLine) : IxR X (R2m Γ oIx) := by
  intro value slice pins s σ H x y v u Q I rx ry ⟨μ, S, dx, dy, d, S', hs, hx, hy, h, q⟩ hsl
  unfold oIx at h
  split at h
  · obtain ⟨d', h1, h2⟩ := Option.map_eq_some_iff.mp h
    cases h2; cases hy
    obtain ⟨a, vs, rfl, st, rl⟩ := hx
    obtain ⟨w, h3, h4⟩ := rl.atI h1
    rw [hK] at st
    exact ix_tup value slice pins s σ H _ _ v u Q I rx ry ⟨a, vs, _, w, rfl, rfl, st.sqT, h3, q.self hs _ h4⟩ hsl
  · obtain ⟨d', h1, h2⟩ := Option.map_eq_some_iff.mp h
    cases h2; cases hy
    obtain ⟨a, vs, rfl, st, rl⟩ := hx
    obtain ⟨w, h3, h4⟩ := rl.atI h1
    rw [hK] at st
    exact ix_list value slice pins s σ H _ _ v u Q I rx ry ⟨a, vs, _, w, rfl, rfl, st.sqL, h3, q.self hs _ h4⟩ hsl
  · split at h
    · rename_i xs i e
      obtain ⟨d', h1, h2⟩ := Option.map_eq_some_iff.mp h
      cases h2; cases hy
      obtain ⟨a, vs, rfl, ha, hH, rl⟩ := hs.list hx e
      obtain ⟨w, h3, h4⟩ := rl.atI h1
      exact ix_list value slice pins s σ H _ _ v u Q I rx ry ⟨a, vs, _, w, rfl, rfl, SqL.of hH, h3, q.self hs _ h4⟩ hsl
    · rename_i kvs e
      split at h
      · rename_i k ek
        obtain ⟨d', h1, h2⟩ := Option.map_eq_some_iff.mp h
        cases h2
        obtain ⟨a, rfl, ha⟩ := hx
        obtain ⟨ws, hH, rp⟩ := hs.ob _ a _ ha e
        obtain ⟨w, h3, h4⟩ := RelP.get rp h1
        have ek' := kV_of ek hy
        subst ek'
        refine ix_dict hu value slice pins s σ H _ _ v u Q I rx ry ⟨a, w, rfl, .inl ⟨ws, k, .inl hH, rfl, h3.symm⟩, q.self hs _ h4⟩ hsl
      · cases h
    · cases h
  · cases h
end
/-! ### slices -/
abbrev MO := DEnv → M (Option Int)
def pNo : MO := fun _ => ret none
def pSome (m : ME) : MO := fun env => bd (m env) fun d => match d with
  | .int i => ret (some i)
  | _ => no
def cutD (xs : List D) (lo hi : Option Int) : List D := (xs.drop (HT.sIx xs.length 0 lo)).take (HT.sIx xs.length xs.length hi - HT.sIx xs.length 0 lo)
def oSl : D → Option Int → Option Int → M D := fun x lo hi S => match x with
  | .tup xs => if (HT.sIx xs.length 0 lo = 0 ∧ HT.sIx xs.length xs.length hi = xs.length) then some (.tup xs, S) else some (.tup (cutD xs lo hi), S)
  | .sq xs => new (.lst (cutD xs lo hi)) S
  | .loc n => match S[n]? with
    | some (.lst xs) => new (.lst (cutD xs lo hi)) S
    | _ => none
  | _ => none
def mSl (m : ME) (lo hi : MO) : ME := fun env => bd (m env) fun x => bd (lo env) fun l => bd (hi env) fun h => oSl x l h
def TOm (Γ : Gm) (m : MO) : TO := fun σ H Q => ∃ μ env S d S', EnvR Γ μ H env σ ∧ StR Γ μ H S ∧ m env S = some (d, S') ∧ After Γ μ H S' fun _ H' => Q d H'
def RSm (Γ : Gm) (f : D → Option Int → Option Int → M D) : V → Option Int → Option Int → Hp → VK → Prop := fun x lo hi H Q => ∃ μ S dx d S', StR Γ μ H S ∧ Rel Γ μ H dx x ∧ f dx lo hi S = some (d, S') ∧ After Γ μ H S' fun μ' H' => ∀ v, Rel Γ μ' H' d v → Q v H'
end Ev
namespace L2
theorem PO.imp {X : Cx} {e : Option PySem.Expr} {t t' : TO} (h : PO X e t) (i : ∀ σ H Q, t' σ H Q → t σ H Q) : PO X e t' := fun pins s σ H Q I q => h pins s σ H Q I (i σ H Q q)
end L2
namespace Ev
open PySem PySem.Spec PyProof.Rows L2
section
variable {X : Cx} {Γ : Gm} {e : Expr} {ma : ME} {pos p2 : Pos}
theorem kp_no : PO X none (TOm Γ pNo) := po_none.imp fun σ H Q ⟨μ, env, S, d, S', he, hs, h, q⟩ => by cases h; exact q.self hs
theorem kp_some (h : PE X e (T Γ ma)) : PO X (some e) (TOm Γ (pSome ma)) := (po_some h).imp fun σ H Q ⟨μ, env, S, d, S', he, hs, h, q⟩ => by
  refine T.first he hs h fun μ1 H1 S1 x v e1 s1 he1 rx h1 => ?_
  cases x with
  | int i => cases h1; exact ⟨i, rx, q _ _ e1 s1⟩
  | _ => cases h1
theorem RelL.cut {μ : List Addr} {H : Hp} {ds : List D} {vs : List V} (r : RelL Γ μ H ds vs) (lo hi : Option Int) : RelL Γ μ H (cutD ds lo hi) (cutV vs lo hi) := by
  unfold cutD cutV
  rw [r.length]
  exact (r.drop _).take _
theorem whole_tuple {prog : Program} {w : World} {A : Around} {E : Value → Shared → Prop} {s : Shared} {t sl : Addr} {items : Array Value} {vl vu : Value} {lo hi : Option Int} {Q : Value → Shared → Prop} (ht : IsTup s.heap t items) (hs : s.heap.IsSliceOf sl vl vu .none) (pl : IsPart vl lo) (pu : IsPart vu hi)
    (h1 : HT.sIx items.size 0 lo = 0) (h2 : HT.sIx items.size items.size hi = items.size) (h : Q (.ref t) s) : wpAny (model prog w) A (getItem (.ref t) (.ref sl)) Q E s := by
  obtain ⟨os, hos, hcs, hds⟩ := id hs
  have hTs : s.TypeIs (.ref sl) "slice" := ⟨os, hos, hcs⟩
  unfold getItem
  try with_reducible refine wpAny_holding ?_
  first | refine wpAny_bind (wpAny_pure ?_) | skip
  refine wpAny_bind (wpAny_sequenceKey ht.typeIs (by decide) ?_)
  refine wpAny_bind (wpAny_callSpecial?_slot (name := Str.ofString "__getitem__") ht.typeIs PyProof.Rows.slot_tuple_getitem
    (wpAny_call_entry PyProof.Rows.slot_tuple_getitem ht.typeIs entry_tuple_getitem ?_ (args_tuple_getitem _ _)))
  show wpAny _ _ (Builtin.Tuple.tupleItemsOf (.ref t) >>= _) _ _ s
  refine wpAny_bind (tupleItemsOf_ ht ?_)
  refine wpAny_bind (wpAny_typeOf hTs ?_)
  rw [if_pos (by decide)]
  refine wpAny_bind (HT.sliceApplied_gen hs pl pu ?_)
  show wpAny _ _ (if (((HT.sIx items.size 0 lo : Nat) : Int) == 0 && (1 : Int) == 1 && (HT.sIx items.size items.size hi - HT.sIx items.size 0 lo) == items.size) = true then _ else _) _ _ s
  rw [h1, h2, if_pos (by simp)]
  have hT := ht.typeIs
  wp_walk
  exact ⟨_, rfl, wpAny_pure h⟩
theorem x_sl (hK : Γ.K = X.K) : SlR X (RSm Γ oSl) := by
  intro pins s σ H x v vl vu lo hi sl Q I rx hsl pl pu ⟨μ, S, dx, d, S', hs, hx, h, q⟩
  unfold oSl at h
  split at h
  · rename_i xs
    split at h
    · rename_i c
      cases h
      have hx' := hx
      obtain ⟨a, vs, rfl, st, rl⟩ := hx
      rw [hK] at st
      cases rx
      obtain ⟨its, r, ht, hz⟩ := I.tuple st.sqT
      have e1 : its.toArray.size = xs.length := by rw [List.size_toArray, ← r.length, rl.length]
      exact ⟨"tuple", _, PyProof.Rows.slot_tuple_getitem.lookup, ht.typeIs, whole_tuple ht hsl pl pu (by rw [e1]; exact c.1) (by rw [e1]; exact c.2) ⟨.ref a, H, I, rfl, q.self hs _ hx'⟩⟩
    · rename_i c
      cases h
      obtain ⟨a, vs, rfl, st, rl⟩ := hx
      rw [hK] at st
      refine sl_tup pins s σ H _ v vl vu lo hi sl Q I rx hsl pl pu ⟨a, vs, rfl, st.sqT, by rw [← rl.length]; exact c, fun p hp => ?_⟩
      obtain ⟨e2, s2⟩ := Ext.aside hs (o := .tup (cutV vs lo hi)) hp
      exact q _ _ e2 s2 _ ⟨p, _, rfl, .inl ⟨.inl ⟨_, rfl, upd_same⟩, hs.fresh hp⟩, (RelL.mono e2 _ _ rl).cut lo hi⟩
  · rename_i xs
    cases h
    obtain ⟨a, vs, rfl, st, rl⟩ := hx
    rw [hK] at st
    refine sl_list pins s σ H _ v vl vu lo hi sl Q I rx hsl pl pu ⟨a, vs, rfl, st.sqL, fun p hp => ?_⟩
    obtain ⟨e2, s2⟩ := Ext.laid hs (q := .lst (cutD xs lo hi)) hp fun μ' H' e h' => ⟨_, h', (RelL.mono e _ _ rl).cut lo hi⟩
    exact q _ _ e2 s2 _ ⟨p, rfl, by rw [← hs.len]; simp⟩
  · split at h
    · rename_i xs e
      cases h
      obtain ⟨a, vs, rfl, ha, hH, rl⟩ := hs.list hx e
      refine sl_list pins s σ H _ v vl vu lo hi sl Q I rx hsl pl pu ⟨a, vs, rfl, SqL.of hH, fun p hp => ?_⟩
      obtain ⟨e2, s2⟩ := Ext.laid hs (q := .lst (cutD xs lo hi)) hp fun μ' H' e h' => ⟨_, h', (RelL.mono e _ _ rl).cut lo hi⟩
      exact q _ _ e2 s2 _ ⟨p, rfl, by rw [← hs.len]; simp⟩
    · cases h
  · cases h
theorem k_sl {lo hi : Option Expr} {ml mh : MO} (hK : Γ.K = X.K) (he : PE X e (T Γ ma)) (hl : PO X lo (TOm Γ ml)) (hh : PO X hi (TOm Γ mh)) : PE X (.Subscript e (.Slice lo hi none p2) pos) (T Γ (mSl ma ml mh)) :=
  (pe_slice (x_sl hK) he hl hh).imp fun σ H Q ⟨μ, env, S, d, S', he, hs, h, q⟩ => by
    refine T.first he hs h fun μ1 H1 S1 x v e1 s1 he1 rx h1 => ?_
    obtain ⟨l, S2, h2, h3⟩ := bd_eq h1
    refine ⟨μ1, env, S1, l, S2, he1, s1, h2, fun μ2 H2 e2 s2 => ?_⟩
    obtain ⟨r, S3, h4, h5⟩ := bd_eq h3
    refine ⟨μ2, env, S2, r, S3, he1.mono e2, s2, h4, fun μ3 H3 e3 s3 => ?_⟩
    exact ⟨μ3, S3, x, d, S', s3, Rel.mono e3 _ _ (Rel.mono e2 _ _ rx), h5, q.on (e1.trans (e2.trans e3))⟩
/-- xs[::-1] -/
def mRev (m : ME) : ME := fun env => bd (m env) fun x S => match x with
  | .sq xs => new (.lst xs.reverse) S
  | .loc n => match S[n]? with
    | some (.lst xs) => new (.lst xs.reverse) S
    | _ => none
  | _ => none
theorem rev_ok {pins : List (Addr × Obj)} {σ : L2.St} {H : Hp} {s : Shared} {a sl : Addr} {xs : List V} {vk : Value} {Q : VK} (I : L2.Inv X pins σ H s) (hx : SqL X.K H a xs) (hsl : s.heap.IsSliceOf sl .none .none vk) (pk : IsPart vk (some (-1))) (q : ∀ p, H p = none → Q (.ref p) (upd H p (.lst xs.reverse))) :
    wpAny (model X.prog X.w) X.A (getItem (.ref a) (.ref sl)) (EP X pins σ Q) X.xe s := by
  obtain ⟨its, r, ht, hz⟩ := I.list hx
  have hlen := r.length
  refine wpAny_getItem_list_slice ht.isList hsl .none .none pk (by simp) ?_ (by rw [List.size_toArray] <;> omega)
  rw [PySem.W.krv_pick]
  refine ⟨.ref s.heap.objs.size, _, I.laid (t' := s.toks) (o := .lst xs.reverse) (fun b ob q => Heap.get?_push_of_some _ q) (Nat.le_refl _) ?_, rfl, q _ (I.hok.fresh (Nat.le_refl _))⟩
  have rr : Vals xs.reverse its.reverse := by
    clear hx ht q hlen hz
    induction r with
    | nil => exact .nil
    | cons h t ih => rw [List.reverse_cons, List.reverse_cons]; exact ih.snoc h
  exact ⟨by rw [List.length_reverse]; exact hz, _, 0, rr, by simpa using Heap.get?_push_size _ rfl⟩
theorem k_rev {u1 u2 : Pos} {j} (hK : Γ.K = X.K) (he : PE X e (T Γ ma)) : PE X (.Subscript e (.Slice none none (some (.UnaryOp .USub (.Constant (.int 1) j u1) u2)) p2) pos) (T Γ (mRev ma)) := by
  intro pins s σ H Q I ⟨μ, env, S, d, S', hen, hs, h, q⟩
  obtain ⟨x, S1, h1, h2⟩ := bd_eq h
  have fin : T Γ ma σ H (fun v H1 => ∃ a xs, v = .ref a ∧ SqL X.K H1 a xs ∧ ∀ p, H1 p = none → Q (.ref p) (upd H1 p (.lst xs.reverse))) := by
    refine ⟨μ, env, S, x, S1, hen, hs, h1, fun μ1 H1 e1 s1 v rv => ?_⟩
    try dsimp only at h2
    split at h2
    · rename_i xs
      cases h2
      obtain ⟨a, vs, rfl, st, rl⟩ := rv
      rw [hK] at st
      refine ⟨a, vs, rfl, st.sqL, fun p hp => ?_⟩
      obtain ⟨e2, s2⟩ := Ext.laid s1 (q := .lst xs.reverse) hp fun μ' H' e h' => ⟨_, h', (RelL.mono e _ _ rl).reverse⟩
      exact q _ _ (e1.trans e2) s2 _ ⟨p, rfl, by rw [← s1.len]; simp⟩
    · split at h2
      · rename_i xs e
        cases h2
        obtain ⟨a, vs, rfl, ha, hH, rl⟩ := s1.list rv e
        refine ⟨a, vs, rfl, SqL.of hH, fun p hp => ?_⟩
        obtain ⟨e2, s2⟩ := Ext.laid s1 (q := .lst xs.reverse) hp fun μ' H' e h' => ⟨_, h', (RelL.mono e _ _ rl).reverse⟩
        exact q _ _ (e1.trans e2) s2 _ ⟨p, rfl, by rw [← s1.len]; simp⟩
      · cases h2
    · cases h2
  refine Subscript_ (thn (he pins s σ H _ I fin) fun v s1 ⟨y, H1, I1, r1, a, xs, ey, hx, q1⟩ => ?_)
  subst ey
  cases r1
  refine wpAny_Slice ?_
  rw [evalPart_none, evalPart_some]
  refine wpAny_pure (wpAny_pure ?_)
  have pk := (po_some (pe_un un_neg pe_int) : PO X (some (.UnaryOp .USub (.Constant (.int 1) j u1) u2)) _) pins s1 σ H1 (fun o H' => o = some (-1) ∧ H' = H1) I1 ⟨1, rfl, -1, rfl, rfl, rfl⟩
  rw [evalPart_some] at pk
  refine thn pk fun vk s2 ⟨o, H2, I2, pk2, eo, eH⟩ => ?_
  subst eo eH
  have I4 : L2.Inv X pins σ H2 { s2 with heap := s2.heap.push { cls := .type "slice", data := .fields #[.none, .none, vk] } } := I2.kept (t' := s2.toks) fun b ob q => Heap.get?_push_of_some _ q
  obtain ⟨its, _, ht, _⟩ := I4.list hx
  exact tail_any (ops := [.ref a, .ref s2.heap.objs.size]) ht.isList.typeIs slot_list_getitem.lookup (rev_ok I4 hx (Heap.IsSliceOf.new ..) pk2 q1) (by with_unfolding_all rfl)
end
end Ev

/-! Calls, loops, comprehensions, dicts, methods, built-ins. -/
namespace Ev
open PySem PySem.Spec PyProof.Rows L2

/-! ### defs and their calls -/
def startD (n : Nat) (ds : List D) : DEnv := ds.map some ++ List.replicate (n - ds.length) none
/-- a def of n names, its body m -/
def mFn (n : Nat) (m : MS) (ds : List D) : M D := bd (m (startD n ds)) fun o => match o with
  | .rt d => ret d
  | .nx _ => ret .non
  | _ => no
def spM (Γ : Gm) (k : Nat) (f : List D → M D) : Sp := fun vs H Q _ => ∃ μ S ds d S', StR Γ μ H S ∧ RelL Γ μ H ds vs ∧ ds.length = k ∧ f ds S = some (d, S') ∧ After Γ μ H S' fun μ' H' => ∀ v, Rel Γ μ' H' d v → Q v H'
def mCall (f : List D → M D) (a : DEnv → M (List D)) : ME := fun env => bd (a env) f
def mCallK (f : List D → M D) (g : List D → List D → List D) (a b : DEnv → M (List D)) : ME := fun env => bd (a env) fun xs => bd (b env) fun ys => f (g xs ys)
theorem EnvR.start {Γ : Gm} {μ : List Addr} {H : Hp} {ds : List D} {vs : List V} {N : List Str} (r : RelL Γ μ H ds vs) : EnvR Γ μ H (startD N.length ds) (L2.start N vs) := by
  have hl := r.length
  refine ⟨by simp [startD, L2.start, hl], fun i d h => ?_⟩
  unfold startD at h
  unfold L2.start
  by_cases hi : i < ds.length
  · rw [List.getElem?_append_left (by simpa using hi), List.getElem?_map] at h
    cases e : ds[i]? with
    | none => rw [e] at h; simp at h
    | some d' =>
      rw [e] at h
      simp at h
      subst h
      obtain ⟨v, h1, h2⟩ := r.get e
      exact ⟨v, by rw [List.getElem?_append_left (by simpa [← hl] using hi), List.getElem?_map, h1]; rfl, h2⟩
  · rw [List.getElem?_append_right (by simpa using hi)] at h
    exfalso
    rw [List.getElem?_replicate] at h
    split at h <;> simp at h
section
variable {P : Program} {w : World} {K : PySem.W.Frag} {mg : Str → Option Value} {base : Heap} {Γ : Gm}
/-- a def keeps what its program says -/
theorem k_fn {x qual : Str} {st : Stmt} {f : Addr} {fd : FuncData} {N ps : List Str} {k : Nat} {m : MS} (F : Fun K x qual st f fd) (S : FnScope N ps (defScope st))
    (hbody : ∀ (cdv : Value) (A : Around) (outer : List Env) (s : Shared) (H : Hp) (E : XK), Room k (A.deeper (envOfC qual (defScope st) s.heap.objs.size f cdv)) →
      PSs (cxOf CX0 P w K mg base N qual (defScope st) f cdv A outer s H E).nox (defBody st) (TSm Γ m)) : FnOk P w K mg base CX0 (k + 1) f fd ps (spM Γ ps.length (mFn N.length m)) := by
  refine F.ok S (fun vs H Q E ⟨μ, S, ds, d, S', hs, rl, hl, h, q⟩ => by rw [← rl.length]; exact hl) fun cdv A outer s H vs Q E hr ⟨μ, S, ds, d, S', hs, rl, hl, h, q⟩ => ?_
  refine ⟨_, hbody cdv A outer s H E hr, ?_⟩
  obtain ⟨o, S1, h1, h2⟩ := bd_eq h
  refine ⟨μ, _, S, o, S1, EnvR.start rl, hs, h1, fun μ1 H1 e1 s1 => ?_⟩
  cases o with
  | nx env => cases h2; exact fun σ _ => q _ _ e1 s1 _ rfl
  | rt d => cases h2; exact fun v rv => q _ _ e1 s1 v rv
  | bk d => cases h2
  | ct d => cases h2
end
section
variable {X : Cx} {Γ : Gm} {k n : Nat} {f : Addr} {fd : FuncData} {ps ks : List Str} {mf : List D → M D} {x : Str} {p pos : Pos} {e : Expr} {es : List Expr} {ml mk : DEnv → M (List D)} {kws : List Keyword}
theorem k_call (F : FnOk X.prog X.w X.K X.mg X.base CX0 k f fd ps (spM Γ n mf)) (hr : Room k X.A) (hg : Gl X x) (hm : X.mg x = some (.ref f)) (hk : PySem.W.keepIn X.K (.ref f) = true) (hb : Binds X.K fd ps []) (few : Few n ml)
    (ha : PA X (e :: es) (TAm Γ ml)) (hdb : (x == ("__debug__" : Str)) = false := by decide) (he : starEach (e :: es) X.env = (false, eval e X.env) :: starEach es X.env := by rfl) (hpl : (backTo pos (starEach es X.env)).any (·.1) = false := by rfl) :
    PE X (.Call (.Name x p) (e :: es) [] pos) (T Γ (mCall mf ml)) :=
  (pe_call F hr hg hm hk hb .nil pass0 ha hdb he hpl).imp fun σ H Q ⟨μ, env, S, d, S', he, hs, h, q⟩ => by
    obtain ⟨ds, S1, h1, h2⟩ := bd_eq h
    refine ⟨μ, env, S, ds, S1, he, hs, h1, fun μ1 H1 e1 s1 vs rv => ?_⟩
    exact ⟨μ1, S1, ds, d, S', s1, by rw [List.append_nil]; exact rv, few _ _ _ _ h1, h2, q.on e1⟩
/-- f(k = v, ..), no positional ones -/
theorem pe_callK0 {sp : Sp} {tk : TA} {g : List Value → List Value → List Value} {gV : List V → List V → List V} (F : FnOk X.prog X.w X.K X.mg X.base CX0 k f fd ps sp) (hr : Room k X.A) (hg : Gl X x) (hm : X.mg x = some (.ref f)) (hk : PySem.W.keepIn X.K (.ref f) = true) (hb : KBinds X.K fd ps ks g gV)
    (hkw : PK X kws tk) (hall : (backToKw pos (keywordEach kws X.env)).all (·.1.isSome) = true := by rfl) (hks : (backToKw pos (keywordEach kws X.env)).filterMap (·.1) = ks := by rfl) (hdb : (x == ("__debug__" : Str)) = false := by decide)
    (hpl : ((backTo pos (starEach [] X.env)).any (·.1) || (backToKw pos (keywordEach kws X.env)).any (·.1.isNone)) = false := by rfl) :
    PE X (.Call (.Name x p) [] kws pos) (tCallK sp gV E0 tNil tk) := by
  intro pins s σ H Q I h
  refine wpAny_Call_Name_kw (ld_glob I hg hm ?_ hdb)
  refine PySem.W.callWith_KW0 (h₀ := X.base) (first := []) I.ok.mod.kin hk hall (thn (hkw pos pins s σ H _ I h) fun ws s2 ⟨zs, H2, I2, rz, q2⟩ => ⟨I2.kIn, ?_⟩) hpl
  rw [hks]
  exact run_fnk F hr hb pass0 I2 .nil rz q2
theorem kk_nil : PK X [] (TAm Γ mNil) := fun pos pins s σ H Q I ⟨μ, env, S, d, S', he, hs, h, q⟩ => pk_nil pos pins s σ H Q I (by cases h; exact q.self hs [] rfl)
theorem kk_cons {nm : Option Str} {kpos : Pos} {ma : ME} (ha : PE X e (T Γ ma)) (hr : PK X kws (TAm Γ ml)) : PK X (⟨nm, e, kpos⟩ :: kws) (TAm Γ (mCons ma ml)) := fun pos pins s σ H Q I ⟨μ, env, S, d, S', he, hs, h, q⟩ =>
  pk_cons ha hr pos pins s σ H Q I (by
    refine T.first he hs h fun μ1 H1 S1 x v e1 s1 he1 rx h1 => ?_
    refine TAm.first he1 s1 h1 fun μ2 H2 S2 xs vs e2 s2 he2 rxs h2 => ?_
    cases h2
    exact q _ _ (e1.trans e2) s2 _ (.cons (Rel.mono e2 _ _ rx) rxs))
/-- the keywords' order -/
structure Perm (K : PySem.W.Frag) (fd : FuncData) (ps ks : List Str) (n : Nat) (g : List D → List D → List D) : Prop where
  ex : ∃ (gU : List Value → List Value → List Value) (gV : List V → List V → List V), KBinds K fd ps ks gU gV ∧
    ∀ (Γ : Gm) (μ : List Addr) (H : Hp) (xs ys : List D) (vs ws : List V), xs.length = n → ys.length = ks.length → RelL Γ μ H xs vs → RelL Γ μ H ys ws → RelL Γ μ H (g xs ys) (gV vs ws) ∧ (g xs ys).length = ps.length
theorem k_callK0 {g : List D → List D → List D} (F : FnOk X.prog X.w X.K X.mg X.base CX0 k f fd ps (spM Γ ps.length mf)) (hr : Room k X.A) (hg : Gl X x) (hm : X.mg x = some (.ref f)) (hk : PySem.W.keepIn X.K (.ref f) = true) (hb : Perm X.K fd ps ks 0 g) (few2 : Few ks.length mk)
    (hkw : PK X kws (TAm Γ mk)) (hall : (backToKw pos (keywordEach kws X.env)).all (·.1.isSome) = true := by rfl) (hks : (backToKw pos (keywordEach kws X.env)).filterMap (·.1) = ks := by rfl)
    (hdb : (x == ("__debug__" : Str)) = false := by decide)
    (hpl : ((backTo pos (starEach [] X.env)).any (·.1) || (backToKw pos (keywordEach kws X.env)).any (·.1.isNone)) = false := by rfl) :
    PE X (.Call (.Name x p) [] kws pos) (T Γ (mCallK mf g mNil mk)) := by
  obtain ⟨gU, gV, kb, hrel⟩ := hb.ex
  exact (pe_callK0 F hr hg hm hk kb hkw hall hks hdb hpl).imp fun σ H Q ⟨μ, env, S, d, S', he, hs, h, q⟩ => by
    obtain ⟨xs, S1, h1, h2⟩ := bd_eq h
    cases h1
    obtain ⟨ys, S2, h3, h4⟩ := bd_eq h2
    refine ⟨μ, env, S, ys, S2, he, hs, h3, fun μ2 H2 e2 s2 ws rw' => ?_⟩
    obtain ⟨q1, q2⟩ := hrel Γ μ2 H2 [] ys [] ws rfl (few2 _ _ _ _ h3) rfl rw'
    exact ⟨μ2, S2, _, d, S', s2, q1, q2, h4, q.on e2⟩
end

/-! ### built-ins -/
def mB (f : List D → M D) (a : DEnv → M (List D)) : ME := fun env => bd (a env) f
section
variable {X : Cx} {Γ : Gm} {x : Str} {p pos : Pos} {e : Expr} {es : List Expr} {ml : DEnv → M (List D)} {id T' : String} {mf : List D → M D}
theorem k_blt (hc : CallR X (.builtin id) (RLm Γ mf)) (hg : Gl X x) (hm : X.mg x = none) (hv : bootBuiltins x = some (.builtin id)) (ha : PA X (e :: es) (TAm Γ ml)) (hn : x ≠ "__name__" := by decide) (hdb : (x == ("__debug__" : Str)) = false := by decide)
    (he : starEach (e :: es) X.env = (false, eval e X.env) :: starEach es X.env := by rfl) (hpl : (backTo pos (starEach es X.env)).any (·.1) = false := by rfl) : PE X (.Call (.Name x p) (e :: es) [] pos) (T Γ (mB mf ml)) :=
  (pe_callB hc hg hm hv ha hn hdb he hpl).imp fun σ H Q ⟨μ, env, S, d, S', he, hs, h, q⟩ => by
    refine TAm.first he hs h fun μ1 H1 S1 xs vs e1 s1 he1 rv h1 => ?_
    exact ⟨μ1, S1, xs, d, S', s1, rv, h1, q.on e1⟩
theorem k_ty (hc : CallR X (.type T') (RLm Γ mf)) (hg : Gl X x) (hm : X.mg x = none) (hv : bootBuiltins x = some (.type T')) (ha : PA X (e :: es) (TAm Γ ml)) (hn : x ≠ "__name__" := by decide) (hdb : (x == ("__debug__" : Str)) = false := by decide)
    (he : starEach (e :: es) X.env = (false, eval e X.env) :: starEach es X.env := by rfl) (hpl : (backTo pos (starEach es X.env)).any (·.1) = false := by rfl) : PE X (.Call (.Name x p) (e :: es) [] pos) (T Γ (mB mf ml)) :=
  (pe_callTy hc hg hm hv ha hn hdb he hpl).imp fun σ H Q ⟨μ, env, S, d, S', he, hs, h, q⟩ => by
    refine TAm.first he hs h fun μ1 H1 S1 xs vs e1 s1 he1 rv h1 => ?_
    exact ⟨μ1, S1, xs, d, S', s1, rv, h1, q.on e1⟩
end
/-- the items of a sequence -/
def items (S : Sto) : D → Option (List D)
  | .tup xs => some xs
  | .sq xs => some xs
  | .loc n => match S[n]? with
    | some (.lst xs) => some xs
    | _ => none
  | _ => none
def bLen : List D → M D := fun xs S => match xs with
  | [x] => (items S x).map fun ys => (.int ys.length, S)
  | _ => none
def bList : List D → M D := fun xs S => match xs with
  | [x] => match items S x with
    | some ys => new (.lst ys) S
    | none => none
  | _ => none
def bTuple : List D → M D := fun xs S => match xs with
  | [x] => (items S x).map fun ys => (.tup ys, S)
  | _ => none
def intsOf : List D → Option (List Int)
  | [] => some []
  | .int i :: xs => (intsOf xs).map (i :: ·)
  | _ => none
def bSum : List D → M D := fun xs S => match xs with
  | [.loc n] => match S[n]? with
    | some (.lst ys) => (intsOf ys).map fun is => (.int is.sum, S)
    | _ => none
  | _ => none
def bMin : List D → M D := fun xs S => match xs with
  | [.int i, .int j] => some (.int (if j < i then j else i), S)
  | _ => none
def bMax : List D → M D := fun xs S => match xs with
  | [.int i, .int j] => some (.int (if j > i then j else i), S)
  | _ => none
def bAbs : List D → M D := fun xs S => match xs with
  | [.int i] => some (.int (if i < 0 then -i else i), S)
  | _ => none
def bInt : List D → M D := fun xs S => match xs with
  | [.int i] => some (.int i, S)
  | [.bl b] => some (.int (if b then 1 else 0), S)
  | _ => none
mutual
/-- data with empty dicts in it, without lists -/
def datE (S : Sto) : D → Option PyData
  | .non => some .none
  | .bl b => some (.bool b)
  | .int i => some (.int i)
  | .str x => some (.str x)
  | .tup xs => (datEL S xs).map .tuple
  | .sq _ => none
  | .loc n => match S[n]? with
    | some (.dic []) => some (.dict [])
    | _ => none
def datEL (S : Sto) : List D → Option (List PyData)
  | [] => some []
  | x :: xs => match datE S x, datEL S xs with
    | some d, some ds => some (d :: ds)
    | _, _ => none
end
def bRepr : List D → M D := fun xs S => match xs with
  | [x] => match dat S x with
    | some d => if (d.showable && !d.hasDict && decide (d.depth ≤ 100) && decide (d.shown.length ≤ sizeLine)) = true then some (.str d.shown, S) else none
    | none => match datE S x with
      | some d => if (d.showable && decide (d.depth ≤ 100) && decide (d.shown.length ≤ sizeLine)) = true then some (.str d.shown, S) else none
      | none => none
  | _ => none
section
variable {X : Cx} {Γ : Gm}
theorem items_ok (hK : Γ.K = X.K) {μ : List Addr} {H : Hp} {S : Sto} (hs : StR Γ μ H S) {x : D} {v : V} {ys : List D} (r : Rel Γ μ H x v) (h : items S x = some ys) : ∃ p vs, v = .ref p ∧ RelL Γ μ H ys vs ∧ ((SqL X.K H p vs ∧ ¬ ∃ zs, x = .tup zs) ∨ (SqT X.K H p vs ∧ x = .tup ys)) := by
  unfold items at h
  split at h
  · cases h
    obtain ⟨a, vs, rfl, st, rl⟩ := r
    rw [hK] at st
    exact ⟨a, vs, rfl, rl, .inr ⟨st.sqT, rfl⟩⟩
  · cases h
    obtain ⟨a, vs, rfl, st, rl⟩ := r
    rw [hK] at st
    exact ⟨a, vs, rfl, rl, .inl ⟨st.sqL, fun ⟨_, z⟩ => by cases z⟩⟩
  · split at h
    · rename_i xs e
      cases h
      obtain ⟨a, vs, rfl, ha, hH, rl⟩ := hs.list r e
      exact ⟨a, vs, rfl, rl, .inl ⟨SqL.of hH, fun ⟨_, z⟩ => by cases z⟩⟩
    · cases h
  · cases h
theorem RelL.one {μ : List Addr} {H : Hp} {x : D} {vs : List V} (r : RelL Γ μ H [x] vs) : ∃ v, vs = [v] ∧ Rel Γ μ H x v := by
  obtain ⟨v, t, rfl, h, rfl⟩ := r
  exact ⟨v, rfl, h⟩
theorem RelL.two {μ : List Addr} {H : Hp} {x y : D} {vs : List V} (r : RelL Γ μ H [x, y] vs) : ∃ v w, vs = [v, w] ∧ Rel Γ μ H x v ∧ Rel Γ μ H y w := by
  obtain ⟨v, t, rfl, h, w, u, rfl, h', rfl⟩ := r
  exact ⟨v, w, rfl, h, h'⟩
theorem c_len (hK : Γ.K = X.K) : CallR X (.builtin "len") (RLm Γ bLen) := by
  intro pins s σ H xs us Q I rv ⟨μ, S, ds, d, S', hs, rl, h, q⟩
  unfold bLen at h
  split at h
  · obtain ⟨ys, h1, h2⟩ := Option.map_eq_some_iff.mp h
    cases h2
    obtain ⟨v, rfl, r⟩ := rl.one
    obtain ⟨p, vs, rfl, ry, hh⟩ := items_ok hK hs r h1
    refine call_len_seq pins s σ H _ us Q I rv ⟨p, vs, rfl, hh.imp And.left And.left, ?_⟩
    rw [← ry.length]
    exact q.self hs _ rfl
  · cases h
theorem c_list (hK : Γ.K = X.K) : CallR X (.type "list") (RLm Γ bList) := by
  intro pins s σ H xs us Q I rv ⟨μ, S, ds, d, S', hs, rl, h, q⟩
  unfold bList at h
  split at h
  · split at h
    · rename_i ys e
      cases h
      obtain ⟨v, rfl, r⟩ := rl.one
      obtain ⟨p, vs, rfl, ry, hh⟩ := items_ok hK hs r e
      refine call_list_of pins s σ H _ us Q I rv ⟨p, vs, rfl, hh.imp And.left And.left, fun l hl => ?_⟩
      obtain ⟨e2, s2⟩ := Ext.laid hs (q := .lst ys) hl fun μ' H' e h' => ⟨_, h', RelL.mono e _ _ ry⟩
      exact q _ _ e2 s2 _ ⟨l, rfl, by rw [← hs.len]; simp⟩
    · cases h
  · cases h
theorem c_tuple (hK : Γ.K = X.K) : CallR X (.type "tuple") (RLm Γ bTuple) := by
  intro pins s σ H xs us Q I rv ⟨μ, S, ds, d, S', hs, rl, h, q⟩
  unfold bTuple at h
  split at h
  · obtain ⟨ys, h1, h2⟩ := Option.map_eq_some_iff.mp h
    cases h2
    obtain ⟨v, rfl, r⟩ := rl.one
    obtain ⟨p, vs, rfl, ry, ⟨hh, _⟩ | ⟨hh, e⟩⟩ := items_ok hK hs r h1
    · refine call_tuple_of pins s σ H _ us Q I rv ⟨p, vs, rfl, .inl ⟨hh, fun l hl => ?_⟩⟩
      obtain ⟨e2, s2⟩ := Ext.aside hs (o := .tup vs) hl
      exact q _ _ e2 s2 _ ⟨l, vs, rfl, .inl ⟨.inl ⟨_, rfl, upd_same⟩, hs.fresh hl⟩, RelL.mono e2 _ _ ry⟩
    · subst e
      exact call_tuple_of pins s σ H _ us Q I rv ⟨p, vs, rfl, .inr ⟨hh, q.self hs _ r⟩⟩
  · cases h
theorem intsOf_ok {μ : List Addr} {H : Hp} : ∀ {ys : List D} {is : List Int} {vs : List V}, intsOf ys = some is → RelL Γ μ H ys vs → vs = is.map V.int
  | [], _, _, h, r => by cases h; cases r; rfl
  | .int i :: ys, _, _, h, r => by
    simp only [intsOf] at h
    obtain ⟨js, h1, rfl⟩ := Option.map_eq_some_iff.mp h
    obtain ⟨v, t, rfl, h2, h3⟩ := r
    cases h2
    rw [intsOf_ok h1 h3]; rfl
  | .non :: _, _, _, h, _ => by simp [intsOf] at h
  | .bl _ :: _, _, _, h, _ => by simp [intsOf] at h
  | .str _ :: _, _, _, h, _ => by simp [intsOf] at h
  | .tup _ :: _, _, _, h, _ => by simp [intsOf] at h
  | .sq _ :: _, _, _, h, _ => by simp [intsOf] at h
  | .loc _ :: _, _, _, h, _ => by simp [intsOf] at h
theorem c_sum (hc : X.calm = true) : CallR X (.builtin "sum") (RLm Γ bSum) := by
  intro pins s σ H xs us Q I rv ⟨μ, S, ds, d, S', hs, rl, h, q⟩
  unfold bSum at h
  split at h
  · split at h
    · rename_i ys e
      obtain ⟨is, h1, h2⟩ := Option.map_eq_some_iff.mp h
      cases h2
      obtain ⟨v, rfl, r⟩ := rl.one
      obtain ⟨a, vs, rfl, ha, hH, ry⟩ := hs.list r e
      have ev := intsOf_ok h1 ry
      subst ev
      exact cr_sum hc pins s σ H _ us Q I rv ⟨a, is, rfl, SqL.of hH, q.self hs _ rfl⟩
    · cases h
  · cases h
theorem c_min (hc : X.calm = true) : CallR X (.builtin "min") (RLm Γ bMin) := by
  intro pins s σ H xs us Q I rv ⟨μ, S, ds, d, S', hs, rl, h, q⟩
  unfold bMin at h
  split at h
  · cases h
    obtain ⟨v, w, rfl, r1, r2⟩ := rl.two
    cases r1; cases r2
    exact call_min2 hc pins s σ H _ us Q I rv ⟨_, _, rfl, q.self hs _ rfl⟩
  · cases h
theorem c_max (hc : X.calm = true) : CallR X (.builtin "max") (RLm Γ bMax) := by
  intro pins s σ H xs us Q I rv ⟨μ, S, ds, d, S', hs, rl, h, q⟩
  unfold bMax at h
  split at h
  · cases h
    obtain ⟨v, w, rfl, r1, r2⟩ := rl.two
    cases r1; cases r2
    exact call_max2 hc pins s σ H _ us Q I rv ⟨_, _, rfl, q.self hs _ rfl⟩
  · cases h
theorem c_int : CallR X (.type "int") (RLm Γ bInt) := by
  intro pins s σ H xs us Q I rv ⟨μ, S, ds, d, S', hs, rl, h, q⟩
  unfold bInt at h
  split at h
  · cases h
    obtain ⟨v, rfl, r1⟩ := rl.one
    cases r1
    exact call_int1 pins s σ H _ us Q I rv (.inl ⟨_, rfl, q.self hs _ rfl⟩)
  · cases h
    obtain ⟨v, rfl, r1⟩ := rl.one
    cases r1
    exact call_int1 pins s σ H _ us Q I rv (.inr ⟨_, rfl, q.self hs _ rfl⟩)
  · cases h
mutual
theorem datE_ok (hK : Γ.K = X.K) {pins : List (Addr × Obj)} {σ : L2.St} {H : Hp} {s : Shared} {μ : List Addr} {S : Sto} (I : L2.Inv X pins σ H s) (hs : StR Γ μ H S) : ∀ (d : D) (p : PyData) (v : V) (u : Value), datE S d = some p → Rel Γ μ H d v → RelV v u → ∃ as, Reads s.heap u p as ∧ sysModules ∉ as
  | .non, p, v, u, h, r, ru => by simp only [datE] at h; cases h; cases r; cases ru; exact ⟨_, Reads.none, by simp⟩
  | .bl b, p, v, u, h, r, ru => by simp only [datE] at h; cases h; cases r; cases ru; exact ⟨_, Reads.bool b, by simp⟩
  | .int i, p, v, u, h, r, ru => by simp only [datE] at h; cases h; cases r; obtain ⟨t, rfl⟩ := ru; exact ⟨_, Reads.int i t, by simp⟩
  | .str x, p, v, u, h, r, ru => by simp only [datE] at h; cases h; cases r; obtain ⟨t, rfl⟩ := ru; exact ⟨_, Reads.str x t, by simp⟩
  | .tup xs, p, v, u, h, r, ru => by
    simp only [datE] at h
    obtain ⟨ps, h1, rfl⟩ := Option.map_eq_some_iff.mp h
    obtain ⟨a, vs, rfl, st, rl⟩ := r
    rw [hK] at st
    cases ru
    obtain ⟨its, rv, ⟨o, ho, hc, n, hd⟩, _⟩ := I.tuple st.sqT
    obtain ⟨as, hr, hn⟩ := datEL_ok hK I hs xs ps vs its h1 rl rv
    exact ⟨_, Reads.tuple ho hc hd hr, hn⟩
  | .sq xs, p, v, u, h, r, ru => by simp only [datE] at h; cases h
  | .loc n, p, v, u, h, r, ru => by
    simp only [datE] at h
    split at h
    · rename_i e
      cases h
      obtain ⟨a, rfl, ha⟩ := r
      cases ru
      obtain ⟨ws, hH, rp⟩ := hs.ob _ a _ ha e
      cases rp
      obtain ⟨_, hne, vs, kv, o, es, n, ho, hx, hdat, _, hp, _⟩ := dk_of I.hok hH
      cases kv
      have hl : es.toList.length = 0 := hp.length
      have hes : es = #[] := by
        have : es.toList = [] := List.length_eq_zero_iff.mp hl
        simpa using this
      subst hes
      have hcls : o.cls = .type "dict" := hx.1
      refine ⟨_, Reads.dict (kvs := []) ho hcls hdat ReadsAll.nil ReadsAll.nil, ?_⟩
      simp at hne ⊢
      exact fun z => hne z.symm
    · cases h
theorem datEL_ok (hK : Γ.K = X.K) {pins : List (Addr × Obj)} {σ : L2.St} {H : Hp} {s : Shared} {μ : List Addr} {S : Sto} (I : L2.Inv X pins σ H s) (hs : StR Γ μ H S) : ∀ (ds : List D) (ps : List PyData) (vs : List V) (us : List Value), datEL S ds = some ps → RelL Γ μ H ds vs → Vals vs us → ∃ as, ReadsAll s.heap us ps as ∧ sysModules ∉ as
  | [], ps, vs, us, h, r, ru => by simp only [datEL] at h; cases h; cases r; cases ru; exact ⟨_, ReadsAll.nil, by simp⟩
  | d :: ds, ps, vs, us, h, r, ru => by
    simp only [datEL] at h
    obtain ⟨v, w, rfl, r1, r2⟩ := r
    split at h
    · rename_i p q e1 e2
      cases h
      cases ru with
      | cons q1 q2 =>
        obtain ⟨as, h1, h2⟩ := datE_ok hK I hs d p v _ e1 r1 q1
        obtain ⟨bs, h3, h4⟩ := datEL_ok hK I hs ds q w _ e2 r2 q2
        exact ⟨_, ReadsAll.cons h1 h3, by simp [h2, h4]⟩
    · cases h
end
theorem c_repr (hK : Γ.K = X.K) {k : Nat} (hr : Room k X.A) : CallR X (.builtin "repr") (RLm Γ bRepr) := by
  intro pins s σ H xs us Q I rv ⟨μ, S, ds, d, S', hs, rl, h, q⟩
  unfold bRepr at h
  split at h
  · split at h
    · rename_i p e
      split at h
      · rename_i c
        simp only [Bool.and_eq_true, Bool.not_eq_true', decide_eq_true_eq] at c
        obtain ⟨⟨⟨c1, c2⟩, c3⟩, c4⟩ := c
        cases h
        obtain ⟨v, rfl, r1⟩ := rl.one
        have dp := dat_ok hs e r1
        rw [hK] at dp
        cases rv with
        | cons ru rn =>
          cases rn
          rename_i u
          obtain ⟨as, rd⟩ := Dp.reads I p v u dp ru
          have fin : ∀ t s', L2.Inv X pins σ H s' → EP X pins σ Q (.str p.shown t) s' := fun t s' I' => ⟨.str p.shown, H, I', ⟨t, rfl⟩, q.self hs _ rfl⟩
          have un := hr.un
          cases dp with
          | non => cases ru; exact P.repr_of_none (fin _ _ (I.tok _))
          | bl b => cases ru; exact P.repr_of_bool (fin _ _ (I.tok _))
          | int i =>
            obtain ⟨t, rfl⟩ := ru
            have c1' : i.natAbs.log2 < 1920 := by simpa [PyData.showable] using c1
            exact P.repr_of_int c1' (fin _ _ (I.tok _))
          | str x =>
            obtain ⟨t, rfl⟩ := ru
            exact P.repr_of_str (fin _ _ (I.tok _)) c4
          | lst h1 h2 =>
            cases ru
            exact repr_of_reads' rd c1 (PyData.noDict_hsm c2) hr.gd (by omega) (fun _ _ e => e) (fun h' u tk hk => fin _ _ (I.kept (t' := tk) hk)) c4
          | tup h1 h2 =>
            cases ru
            exact repr_of_reads' rd c1 (PyData.noDict_hsm c2) hr.gd (by omega) (fun _ _ e => e) (fun h' u tk hk => fin _ _ (I.kept (t' := tk) hk)) c4
      · cases h
    · rename_i x _ _
      split at h
      · rename_i p e
        split at h
        · rename_i c
          simp only [Bool.and_eq_true, decide_eq_true_eq] at c
          obtain ⟨⟨c1, c3⟩, c4⟩ := c
          cases h
          obtain ⟨v, rfl, r1⟩ := rl.one
          cases rv with
          | cons ru rn =>
            cases rn
            rename_i u
            obtain ⟨as, rd, hn⟩ := datE_ok hK I hs x p v u e r1 ru
            have fin : ∀ t s', L2.Inv X pins σ H s' → EP X pins σ Q (.str p.shown t) s' := fun t s' I' => ⟨.str p.shown, H, I', ⟨t, rfl⟩, q.self hs _ rfl⟩
            have un := hr.un
            cases rd with
            | none => exact P.repr_of_none (fin _ _ (I.tok _))
            | bool b => exact P.repr_of_bool (fin _ _ (I.tok _))
            | int i t =>
              have c1' : i.natAbs.log2 < 1920 := by simpa [PyData.showable] using c1
              exact P.repr_of_int c1' (fin _ _ (I.tok _))
            | str x t => exact P.repr_of_str (fin _ _ (I.tok _)) c4
            | list g1 g2 g3 g4 => exact repr_of_reads' (Reads.list g1 g2 g3 g4) c1 (fun _ => hn) hr.gd (by omega) (fun _ _ e => e) (fun h' u tk hk => fin _ _ (I.kept (t' := tk) hk)) c4
            | tuple g1 g2 g3 g4 => exact repr_of_reads' (Reads.tuple g1 g2 g3 g4) c1 (fun _ => hn) hr.gd (by omega) (fun _ _ e => e) (fun h' u tk hk => fin _ _ (I.kept (t' := tk) hk)) c4
            | dict g1 g2 g3 g4 g5 => exact repr_of_reads' (Reads.dict g1 g2 g3 g4 g5) c1 (fun _ => hn) hr.gd (by omega) (fun _ _ e => e) (fun h' u tk hk => fin _ _ (I.kept (t' := tk) hk)) c4
        · cases h
      · cases h
  · cases h
end
end Ev

/-! Loops, comprehensions, dicts, methods. -/
namespace Ev
open PySem PySem.Spec PyProof.Rows L2

mutual
def D.beq : D → D → Bool
  | .non, .non => true
  | .bl a, .bl b => a == b
  | .int a, .int b => a == b
  | .str a, .str b => decide (a = b)
  | .tup a, .tup b => D.beqL a b
  | .sq a, .sq b => D.beqL a b
  | .loc a, .loc b => a == b
  | _, _ => false
def D.beqL : List D → List D → Bool
  | [], [] => true
  | a :: as, b :: bs => D.beq a b && D.beqL as bs
  | _, _ => false
end
mutual
theorem D.beq_refl : ∀ a : D, D.beq a a = true
  | .non => by simp [D.beq]
  | .bl _ => by simp [D.beq]
  | .int _ => by simp [D.beq]
  | .str _ => by simp [D.beq]
  | .tup xs => by simp only [D.beq]; exact D.beqL_refl xs
  | .sq xs => by simp only [D.beq]; exact D.beqL_refl xs
  | .loc _ => by simp [D.beq]
theorem D.beqL_refl : ∀ a : List D, D.beqL a a = true
  | [] => by simp [D.beqL]
  | x :: xs => by simp only [D.beqL, D.beq_refl x, D.beqL_refl xs]; rfl
end
mutual
theorem D.beq_eq : ∀ a b : D, D.beq a b = true → a = b
  | .non, b, h => by cases b <;> simp [D.beq] at h; rfl
  | .bl _, b, h => by cases b <;> simp [D.beq] at h; rw [h]
  | .int _, b, h => by cases b <;> simp [D.beq] at h; rw [h]
  | .str _, b, h => by cases b <;> simp [D.beq] at h; rw [h]
  | .tup xs, b, h => by
    cases b <;> simp only [D.beq] at h
    case tup ys => rw [D.beqL_eq xs ys h]
    all_goals cases h
  | .sq xs, b, h => by
    cases b <;> simp only [D.beq] at h
    case sq ys => rw [D.beqL_eq xs ys h]
    all_goals cases h
  | .loc _, b, h => by cases b <;> simp [D.beq] at h; rw [h]
theorem D.beqL_eq : ∀ a b : List D, D.beqL a b = true → a = b
  | [], b, h => by cases b <;> simp [D.beqL] at h; rfl
  | x :: xs, b, h => by
    cases b with
    | nil => simp [D.beqL] at h
    | cons y ys =>
      simp only [D.beqL, Bool.and_eq_true] at h
      rw [D.beq_eq x y h.1, D.beqL_eq xs ys h.2]
end

/-! ### what a loop walks -/
structure Its where
  g : Option Nat
  xs : List D
def Gd (it : Its) (S : Sto) : Bool := match it.g with
  | none => true
  | some n => match S[n]? with
    | some (.lst ys) => D.beqL ys it.xs
    | _ => false
theorem Gd.none {xs : List D} {S : Sto} : Gd ⟨none, xs⟩ S = true := rfl
theorem Gd.some {n : Nat} {xs : List D} {S : Sto} (h : S[n]? = some (.lst xs)) : Gd ⟨some n, xs⟩ S = true := by
  unfold Gd; simp only [h]; exact D.beqL_refl xs
theorem Gd.at {n : Nat} {xs : List D} {S : Sto} (h : Gd ⟨Option.some n, xs⟩ S = true) : S[n]? = Option.some (.lst xs) := by
  unfold Gd at h
  dsimp only at h
  split at h
  · rename_i ys e
    rw [e, D.beqL_eq _ _ h]
  · cases h
abbrev MI := DEnv → M Its
structure ItR (Γ : Gm) (μ : List Addr) (H : Hp) (it : Its) (J : It) : Prop where
  go : ∀ μ2 H2 S2, Wk μ H μ2 H2 → StR Γ μ2 H2 S2 → Gd it S2 = true → ∀ i, i < it.xs.length → J.go i H2
  yld : ∀ μ2 H2 S2, Wk μ H μ2 H2 → StR Γ μ2 H2 S2 → Gd it S2 = true → ∀ i x H' d, it.xs[i]? = some d → J.yld i H2 x H' → Ext μ2 H2 μ2 H' ∧ StR Γ μ2 H' S2 ∧ Rel Γ μ2 H' d x
  stop : ∀ μ2 H2 S2, Wk μ H μ2 H2 → StR Γ μ2 H2 S2 → Gd it S2 = true → J.stop it.xs.length H2
def TIm (Γ : Gm) (mi : MI) : TI := fun σ H R => ∃ μ env S it S', EnvR Γ μ H env σ ∧ StR Γ μ H S ∧ mi env S = some (it, S') ∧ After Γ μ H S' fun μ' H' => ∀ J, ItR Γ μ' H' it J → R J H'
def iVal (m : ME) : MI := fun env => bd (m env) fun d S => match d with
  | .tup xs => some (⟨none, xs⟩, S)
  | .sq xs => some (⟨none, xs⟩, S)
  | .loc n => match S[n]? with
    | some (.lst xs) => some (⟨some n, xs⟩, S)
    | _ => none
  | _ => none
def rng (lo : Int) (n : Nat) : List D := (List.range n).map fun k => .int (lo + (k : Nat))
def iR1 (ml : DEnv → M (List D)) : MI := fun env => bd (ml env) fun xs S => match xs with
  | [.int j] => if -(2 ^ 62) ≤ j ∧ j < 2 ^ 62 then some (⟨none, rng 0 j.toNat⟩, S) else none
  | _ => none
def iR2 (ml : DEnv → M (List D)) : MI := fun env => bd (ml env) fun xs S => match xs with
  | [.int i, .int j] => if -(2 ^ 62) ≤ i ∧ i < 2 ^ 62 ∧ -(2 ^ 62) ≤ j ∧ j < 2 ^ 62 then some (⟨none, rng i (j - i).toNat⟩, S) else none
  | _ => none
section
variable {X : Cx} {Γ : Gm} {tg l a b : Expr} {m : ME} {ml : DEnv → M (List D)}
theorem itr_ok {μ : List Addr} {H : Hp} {lo : Int} {n : Nat} : ItR Γ μ H ⟨none, rng lo n⟩ (Itr lo n) := by
  have hl : (rng lo n).length = n := by simp [rng]
  refine ⟨fun μ2 H2 S2 _ _ _ i hi => by rw [hl] at hi; exact hi, fun μ2 H2 S2 _ s _ i x H' d hd hy => ?_, fun μ2 H2 S2 _ _ _ => by rw [hl]; exact Nat.le_refl _⟩
  obtain ⟨rfl, rfl⟩ := hy
  refine ⟨Ext.refl _ _, s, ?_⟩
  have hi : i < n := by have := (List.getElem?_eq_some_iff.mp hd).1; rw [hl] at this; exact this
  have : d = .int (lo + (i : Nat)) := by
    simp only [rng, List.getElem?_map, List.getElem?_range hi] at hd
    simpa using hd.symm
  rw [this]; rfl
theorem itt_ok (hK : Γ.K = X.K) {μ : List Addr} {H : Hp} {xs : List D} {v : V} (r : Rel Γ μ H (.tup xs) v) : ∃ a, v = .ref a ∧ (∃ vs, SqT X.K H a vs) ∧ ItR Γ μ H ⟨none, xs⟩ (Itt X.K a) := by
  obtain ⟨a, vs, rfl, st, rl⟩ := r
  refine ⟨a, rfl, ⟨vs, by rw [← hK]; exact st.sqT⟩, fun μ2 H2 S2 e s _ i hi => ?_, fun μ2 H2 S2 e s _ i x H' d hd hy => ?_, fun μ2 H2 S2 e s _ => ?_⟩
  · have hv : i < vs.length := by rw [← rl.length]; exact hi
    exact ⟨vs, vs[i], by rw [← hK]; exact (st.wk e).sqT, List.getElem?_eq_getElem hv⟩
  · obtain ⟨rfl, hy⟩ := hy
    have h1 := hy vs (by rw [← hK]; exact (st.wk e).sqT)
    obtain ⟨w, h2, h3⟩ := rl.get hd
    rw [h1] at h2; cases h2
    exact ⟨Ext.refl _ _, s, Rel.wk e _ _ h3⟩
  · exact ⟨vs, by rw [← hK]; exact (st.wk e).sqT, by rw [← rl.length]; exact Nat.le_refl _⟩
theorem its_ok (hK : Γ.K = X.K) {μ : List Addr} {H : Hp} {xs : List D} {v : V} (r : Rel Γ μ H (.sq xs) v) : ∃ a, v = .ref a ∧ (∃ vs, SqL X.K H a vs) ∧ ItR Γ μ H ⟨none, xs⟩ (Itl X.K a) := by
  obtain ⟨a, vs, rfl, st, rl⟩ := r
  refine ⟨a, rfl, ⟨vs, by rw [← hK]; exact st.sqL⟩, fun μ2 H2 S2 e s _ i hi => ?_, fun μ2 H2 S2 e s _ i x H' d hd hy => ?_, fun μ2 H2 S2 e s _ => ?_⟩
  · have hv : i < vs.length := by rw [← rl.length]; exact hi
    exact ⟨vs, vs[i], by rw [← hK]; exact (st.wk e).sqL, List.getElem?_eq_getElem hv⟩
  · obtain ⟨rfl, hy⟩ := hy
    have h1 := hy vs (by rw [← hK]; exact (st.wk e).sqL)
    obtain ⟨w, h2, h3⟩ := rl.get hd
    rw [h1] at h2; cases h2
    exact ⟨Ext.refl _ _, s, Rel.wk e _ _ h3⟩
  · exact ⟨vs, by rw [← hK]; exact (st.wk e).sqL, by rw [← rl.length]; exact Nat.le_refl _⟩
theorem itl_ok {μ : List Addr} {H : Hp} {S : Sto} {n : Nat} {xs : List D} {v : V} (hs : StR Γ μ H S) (r : Rel Γ μ H (.loc n) v) (h : S[n]? = some (.lst xs)) : ∃ a, v = .ref a ∧ (∃ vs, SqL X.K H a vs) ∧ ItR Γ μ H ⟨some n, xs⟩ (Itl X.K a) := by
  obtain ⟨a, vs, rfl, ha, hH, rl⟩ := hs.list r h
  have cur : ∀ μ2 H2 S2, Wk μ H μ2 H2 → StR Γ μ2 H2 S2 → Gd ⟨some n, xs⟩ S2 = true → ∃ ws, H2 a = some (.lst ws) ∧ RelL Γ μ2 H2 xs ws := fun μ2 H2 S2 e s g => by
    obtain ⟨b, ws, eb, hb, h1, h2⟩ := s.list (v := .ref a) ⟨a, rfl, e.ix _ _ ha⟩ (Gd.at g)
    cases eb
    exact ⟨ws, h1, h2⟩
  refine ⟨a, rfl, ⟨vs, SqL.of hH⟩, fun μ2 H2 S2 e s g i hi => ?_, fun μ2 H2 S2 e s g i x H' d hd hy => ?_, fun μ2 H2 S2 e s g => ?_⟩
  · obtain ⟨ws, h1, h2⟩ := cur _ _ _ e s g
    have hv : i < ws.length := by rw [← h2.length]; exact hi
    exact ⟨ws, ws[i], SqL.of h1, List.getElem?_eq_getElem hv⟩
  · obtain ⟨ws, h1, h2⟩ := cur _ _ _ e s g
    obtain ⟨rfl, hy⟩ := hy
    have h3 := hy ws (SqL.of h1)
    obtain ⟨w, h4, h5⟩ := h2.get hd
    rw [h3] at h4; cases h4
    exact ⟨Ext.refl _ _, s, h5⟩
  · obtain ⟨ws, h1, h2⟩ := cur _ _ _ e s g
    exact ⟨ws, SqL.of h1, by rw [← h2.length]; exact Nat.le_refl _⟩
theorem ki_val (hK : Γ.K = X.K) (h : PE X l (T Γ m)) : PI X tg l (TIm Γ (iVal m)) := by
  intro pins s σ H R I ⟨μ, env, S, it, S', he, hs, hm, q⟩
  obtain ⟨d, S1, h1, h2⟩ := bd_eq hm
  try dsimp only at h2
  split at h2
  · cases h2
    refine pi_tup h pins s σ H R I ⟨μ, env, S, _, _, he, hs, h1, fun μ1 H1 e1 s1 v rv => ?_⟩
    obtain ⟨a, rfl, h3, h4⟩ := itt_ok (X := X) hK rv
    exact ⟨a, rfl, h3, q _ _ e1 s1 _ h4⟩
  · cases h2
    refine pi_list h pins s σ H R I ⟨μ, env, S, _, _, he, hs, h1, fun μ1 H1 e1 s1 v rv => ?_⟩
    obtain ⟨a, rfl, h3, h4⟩ := its_ok (X := X) hK rv
    exact ⟨a, rfl, h3, q _ _ e1 s1 _ h4⟩
  · split at h2
    · rename_i xs e
      cases h2
      refine pi_list h pins s σ H R I ⟨μ, env, S, _, _, he, hs, h1, fun μ1 H1 e1 s1 v rv => ?_⟩
      obtain ⟨a, rfl, h3, h4⟩ := itl_ok (X := X) s1 rv e
      exact ⟨a, rfl, h3, q _ _ e1 s1 _ h4⟩
    · cases h2
  · cases h2
theorem ki_r1 {p pos : Pos} (hg : Gl X "range") (hm : X.mg "range" = none) (ha : PA X [a] (TAm Γ ml)) (hst : starEach [a] X.env = [(false, eval a X.env)] := by rfl) : PI X tg (.Call (.Name "range" p) [a] [] pos) (TIm Γ (iR1 ml)) := by
  intro pins s σ H R I ⟨μ, env, S, it, S', he, hs, hm', q⟩
  obtain ⟨d, S1, h1, h2⟩ := bd_eq hm'
  try dsimp only at h2
  split at h2
  · split at h2
    · rename_i c
      cases h2
      refine pi_range1 hg hm ha hst pins s σ H R I ⟨μ, env, S, _, _, he, hs, h1, fun μ1 H1 e1 s1 vs rv => ?_⟩
      obtain ⟨v, rfl, r⟩ := rv.one
      cases r
      exact ⟨_, rfl, c.1, c.2, q _ _ e1 s1 _ itr_ok⟩
    · cases h2
  · cases h2
theorem ki_r2 {p pos : Pos} (hg : Gl X "range") (hm : X.mg "range" = none) (ha : PA X [a, b] (TAm Γ ml)) (hst : starEach [a, b] X.env = [(false, eval a X.env), (false, eval b X.env)] := by rfl) (hst2 : starEach [b] X.env = [(false, eval b X.env)] := by rfl) : PI X tg (.Call (.Name "range" p) [a, b] [] pos) (TIm Γ (iR2 ml)) := by
  intro pins s σ H R I ⟨μ, env, S, it, S', he, hs, hm', q⟩
  obtain ⟨d, S1, h1, h2⟩ := bd_eq hm'
  try dsimp only at h2
  split at h2
  · split at h2
    · rename_i c
      cases h2
      refine pi_range2 hg hm ha hst hst2 pins s σ H R I ⟨μ, env, S, _, _, he, hs, h1, fun μ1 H1 e1 s1 vs rv => ?_⟩
      obtain ⟨v, w, rfl, r, r'⟩ := rv.two
      cases r; cases r'
      exact ⟨_, _, rfl, c, q _ _ e1 s1 _ itr_ok⟩
    · cases h2
  · cases h2
end

/-! ### for -/
def loopF (it : Its) (g : MG) (b : MS) : List D → DEnv → M Out
  | [], env => fun S => if Gd it S = true then some (.nx env, S) else none
  | x :: xs, env => fun S => if Gd it S = true then (bd (g x env) fun e1 => bd (b e1) fun o => match o with
    | .nx e => loopF it g b xs e
    | .ct e => loopF it g b xs e
    | .bk e => ret (.nx e)
    | .rt d => ret (.rt d)) S else none
def sFor (mi : MI) (g : MG) (b : MS) : MS := fun env => bd (mi env) fun it => loopF it g b it.xs env
section
variable {X : Cx} {Γ : Gm} {tg iter : Expr} {body : List Stmt} {mi : MI} {g : MG} {mb : MS} {pos : Pos} {ws : List Nat}
theorem tFor_of {D : Ends} {σ : L2.St} {H : Hp} (h : TSm Γ (sFor mi g mb) D σ H) : tFor (TIm Γ mi) (TGm Γ ws g) (TSm Γ mb) D σ H := by
  obtain ⟨μ, env, S, o, S', he, hs, h, q⟩ := h
  obtain ⟨it, S1, h1, h2⟩ := bd_eq h
  refine ⟨μ, env, S, it, S1, he, hs, h1, fun μ1 H1 e1 s1 J hJ => ?_⟩
  refine ⟨fun i m σ2 H2 => ∃ μ2 env2 S2 rest, m = rest.length ∧ i + rest.length = it.xs.length ∧ it.xs.drop i = rest ∧ Ext μ1 H1 μ2 H2 ∧ EnvR Γ μ2 H2 env2 σ2 ∧ StR Γ μ2 H2 S2 ∧ loopF it g mb rest env2 S2 = some (o, S'),
    ⟨it.xs.length, μ1, env, S1, it.xs, rfl, by simp, by simp, Ext.refl _ _, he.mono e1, s1, h2⟩, ?_⟩
  rintro i m σ2 H2 ⟨μ2, env2, S2, rest, rfl, hi, hd, e2, he2, s2, hl⟩
  cases rest with
  | nil =>
    simp only [loopF] at hl
    split at hl
    · rename_i gd
      cases hl
      have ei : i = it.xs.length := by simpa using hi
      subst ei
      exact .inl ⟨hJ.stop _ _ _ e2.wk s2 gd, q _ _ (e1.trans e2) s2 σ2 he2⟩
    · cases hl
  | cons x rest =>
    simp only [loopF] at hl
    split at hl
    · rename_i gd
      have hx : it.xs[i]? = some x := by
        have := congrArg List.head? hd
        rw [List.head?_drop] at this
        simpa using this
      have hlt : i < it.xs.length := (List.getElem?_eq_some_iff.mp hx).1
      refine .inr ⟨hJ.go _ _ _ e2.wk s2 gd i hlt, fun σ3 H3 => ∃ μ3 env3 S3, Ext μ1 H1 μ3 H3 ∧ EnvR Γ μ3 H3 env3 σ3 ∧ StR Γ μ3 H3 S3 ∧ loopF it g mb rest env3 S3 = some (o, S'), ?_, ?_⟩
      · rintro σ3 H3 ⟨μ3, env3, S3, e3, he3, s3, hl3⟩
        refine ⟨rest.length, by simp, μ3, env3, S3, rest, rfl, by simp at hi; omega, ?_, e3, he3, s3, hl3⟩
        have : it.xs.drop (i + 1) = (it.xs.drop i).drop 1 := by rw [List.drop_drop]
        rw [this, hd]; rfl
      · intro v H' hy
        obtain ⟨x1, x2, x3⟩ := hJ.yld _ _ _ e2.wk s2 gd i v H' x hx hy
        obtain ⟨env4, S4, h4, h5⟩ := bd_eq hl
        refine ⟨μ2, env2, S2, x, env4, S4, he2.mono x1, x2, x3, h4, fun μ4 H4 e4 s4 σ4 he4 _ => ?_⟩
        obtain ⟨o5, S5, h6, h7⟩ := bd_eq h5
        have e24 := e2.trans (x1.trans e4)
        refine ⟨μ4, env4, S4, o5, S5, he4, s4, h6, fun μ5 H5 e5 s5 => ?_⟩
        cases o5 with
        | nx e => exact fun σ5 he5 => ⟨μ5, e, S5, e24.trans e5, he5, s5, h7⟩
        | ct e => exact fun σ5 he5 => ⟨μ5, e, S5, e24.trans e5, he5, s5, h7⟩
        | bk e => cases h7; exact fun σ5 he5 => q _ _ (e1.trans (e24.trans e5)) s5 σ5 he5
        | rt d => cases h7; exact q _ _ (e1.trans (e24.trans e5)) s5
    · cases hl
theorem ks_for (hp : PassesOwn (model X.prog X.w) X.A X.env X.xe) (hc : X.calm = true) (hi : PI X tg iter (TIm Γ mi)) (hg : PG X tg (TGm Γ ws g)) (hb : PSs X body (TSm Γ mb)) (hs : ∀ x, foldedSetIterable iter X.env x = pure x := by intro _; rfl) :
    PS X (.For tg iter body [] pos) (TSm Γ (sFor mi g mb)) := (ps_for hp hc hi hg hb hs).imp fun D σ H h => tFor_of h
end

/-! ### comprehensions -/
def loopC (it : Its) (g : MG) (tt : ME) (te : ME) (env : DEnv) : List D → M (List D)
  | [] => fun S => if Gd it S = true then some ([], S) else none
  | x :: xs => fun S => if Gd it S = true then (bd (g x env) fun e1 => bd (tt e1) fun b => match b with
    | .bl true => bd (te e1) fun d => bd (loopC it g tt te env xs) fun ds => ret (d :: ds)
    | .bl false => loopC it g tt te env xs
    | _ => no) S else none
def mLc (mi : MI) (g : MG) (tt te : ME) (vs : List Nat) : ME := fun env => bd (mi env) fun it => bd (loopC it g tt te (wipeD env vs) it.xs) fun ds => fun S => if ds.length ≤ sizeLine then new (.lst ds) S else none
section
variable {X : Cx} {Γ : Gm} {mi : MI} {g : MG} {tt te : ME} {ws vs : List Nat}
theorem wipe_wipe (σ : L2.St) (vs : List Nat) : L2.wipe (L2.wipe σ vs) vs = L2.wipe σ vs := by
  apply List.ext_getElem?
  intro i
  rw [wipe_get, wipe_get]
  by_cases m : i ∈ vs
  · rw [if_pos m, if_pos m]; cases σ[i]? <;> rfl
  · rw [if_neg m, if_neg m]
theorem tLc_of {σ : L2.St} {H : Hp} {Q : VK} (hw : ∀ i ∈ ws, i ∈ vs) (h : T Γ (mLc mi g tt te vs) σ H Q) : tLc (TIm Γ mi) (TGm Γ ws g) (TTm Γ tt) (T Γ te) vs σ H Q := by
  obtain ⟨μ, env, S, d, S', he, hs, h, q⟩ := h
  obtain ⟨it, S1, h1, h2⟩ := bd_eq h
  obtain ⟨tot, S9, h3, h4⟩ := bd_eq h2
  try dsimp only at h4
  split at h4
  · rename_i hsz
    cases h4
    refine ⟨μ, env, S, it, S1, he, hs, h1, fun μ1 H1 e1 s1 J hJ Da hD => ?_⟩
    have he1 := he.mono e1
    -- turn, measure, heap
    refine ⟨fun i m H2 => ∃ μ2 S2 rest acc dacc ds, m = rest.length ∧ i + rest.length = it.xs.length ∧ it.xs.drop i = rest ∧ Ext μ1 H1 μ2 H2 ∧ StR Γ μ2 H2 S2 ∧ Da ∉ μ2 ∧ H2 Da = some (.lst acc) ∧ RelL Γ μ2 H2 dacc acc ∧
        dacc ++ ds = tot ∧ loopC it g tt te (wipeD env vs) rest S2 = some (ds, S9),
      ⟨it.xs.length, μ1, S1, it.xs, [], [], tot, rfl, by simp, by simp, (Ext.aside s1 hD).1, (Ext.aside s1 hD).2, s1.fresh hD, upd_same, rfl, rfl, h3⟩, ?_⟩
    rintro i m H2 ⟨μ2, S2, rest, acc, dacc, ds, rfl, hi, hd, e2, s2, nD, hDa, rl, et, hl⟩
    cases rest with
    | nil =>
      simp only [loopC] at hl
      split at hl
      · rename_i gd
        cases hl
        have ei : i = it.xs.length := by simpa using hi
        subst ei
        rw [List.append_nil] at et
        subst et
        refine .inl ⟨hJ.stop _ _ _ e2.wk s2 gd, ?_⟩
        have ext : Ext μ1 H1 (μ2 ++ [Da]) H2 := by
          obtain ⟨ν, rfl, f⟩ := e2.more
          exact ⟨⟨ν ++ [Da], by simp, fun b hb => by
            rcases List.mem_append.mp hb with z | z
            · exact f b z
            · have : b = Da := by simpa using z
              rw [this]; exact hD⟩, e2.keep, e2.dom⟩
        have wk : Wk μ2 H2 (μ2 ++ [Da]) H2 := ⟨fun a u h n => ⟨h, fun m => by
          rcases List.mem_append.mp m with z | z
          · exact n z
          · obtain ⟨o, ho, hn, _⟩ := h.ex
            have : a = Da := by simpa using z
            rw [this, hDa] at ho
            cases ho
            exact hn _ rfl⟩, fun n a h => by rw [List.getElem?_append_left (List.getElem?_eq_some_iff.mp h).1]; exact h⟩
        have st : StR Γ (μ2 ++ [Da]) H2 (S9 ++ [.lst dacc]) := by
          refine ⟨nd_snoc s2.nd nD, by simp [s2.len], fun n a u k1 k2 => ?_⟩
          by_cases hn : n < μ2.length
          · rw [List.getElem?_append_left hn] at k1
            rw [List.getElem?_append_left (by rw [← s2.len]; exact hn)] at k2
            exact (s2.ob n a u k1 k2).wk wk fun _ z => z
          · have hl : n < (μ2 ++ [Da]).length := (List.getElem?_eq_some_iff.mp k1).1
            have en : n = μ2.length := by simp at hl; omega
            subst en
            have z1 : Da = a := by simpa using k1
            have z2 : O.lst dacc = u := by rw [s2.len] at k2; simpa using k2
            subst z1 z2
            exact ⟨acc, hDa, RelL.wk wk _ _ rl⟩
        exact q _ _ (e1.trans ext) st _ ⟨Da, rfl, by rw [← s2.len]; simp⟩
      · cases hl
    | cons x rest =>
      simp only [loopC] at hl
      split at hl
      · rename_i gd
        have hx : it.xs[i]? = some x := by
          have := congrArg List.head? hd
          rw [List.head?_drop] at this
          simpa using this
        have hlt : i < it.xs.length := (List.getElem?_eq_some_iff.mp hx).1
        refine .inr ⟨hJ.go _ _ _ e2.wk s2 gd i hlt, fun H3 => ∃ μ3 S3 acc' dacc' ds', Ext μ1 H1 μ3 H3 ∧ StR Γ μ3 H3 S3 ∧ Da ∉ μ3 ∧ H3 Da = some (.lst acc') ∧ RelL Γ μ3 H3 dacc' acc' ∧ dacc' ++ ds' = tot ∧ loopC it g tt te (wipeD env vs) rest S3 = some (ds', S9), ?_, ?_⟩
        · rintro H3 ⟨μ3, S3, acc', dacc', ds', e3, s3, nD3, hDa3, rl3, et3, hl3⟩
          refine ⟨rest.length, by simp, μ3, S3, rest, acc', dacc', ds', rfl, by simp at hi; omega, ?_, e3, s3, nD3, hDa3, rl3, et3, hl3⟩
          have : it.xs.drop (i + 1) = (it.xs.drop i).drop 1 := by rw [List.drop_drop]
          rw [this, hd]; rfl
        · intro v H' hy
          obtain ⟨x1, x2, x3⟩ := hJ.yld _ _ _ e2.wk s2 gd i v H' x hx hy
          obtain ⟨env4, S4, h4, h5⟩ := bd_eq hl
          have e2' := e2.trans x1
          refine ⟨μ2, wipeD env vs, S2, x, env4, S4, (he1.wipe vs).mono e2', x2, x3, h4, fun μ4 H4 e4 s4 σ4 he4 oth => ⟨(oth.mono hw).wipe.trans (wipe_wipe σ vs), ?_⟩⟩
          obtain ⟨b, S5, h6, h7⟩ := bd_eq h5
          cases b with
          | bl b =>
            refine ⟨μ4, env4, S4, b, S5, he4, s4, h6, fun μ5 H5 e5 s5 => ?_⟩
            have e15 := e2'.trans (e4.trans e5)
            have xD : Ext μ2 H2 μ5 H5 := x1.trans (e4.trans e5)
            have nD5 : Da ∉ μ5 := xD.out hDa nD
            have hD5 : H5 Da = some (.lst acc) := xD.keep _ _ hDa nD
            have rl5 := RelL.mono xD _ _ rl
            cases b with
            | false =>
              refine iteF ?_
              exact ⟨μ5, S5, acc, dacc, ds, e15, s5, nD5, hD5, rl5, et, h7⟩
            | true =>
              refine iteT ?_
              obtain ⟨dd, S6, h8, h9⟩ := bd_eq h7
              refine ⟨μ5, env4, S5, dd, S6, he4.mono e5, s5, h8, fun μ6 H6 e6 s6 y ry => ?_⟩
              obtain ⟨ds', S7, h10, h11⟩ := bd_eq h9
              cases h11
              have nD6 : Da ∉ μ6 := e6.out hD5 nD5
              have hD6 : H6 Da = some (.lst acc) := e6.keep _ _ hD5 nD5
              have rl6 := RelL.mono e6 _ _ rl5
              have wk : Wk μ6 H6 μ6 (upd H6 Da (.lst (acc ++ [y]))) := ⟨fun a u h n => ⟨h.on fun o ho => by
                have : a ≠ Da := fun z => by
                  obtain ⟨o', ho', hn, _⟩ := h.ex
                  rw [z, hD6] at ho'
                  cases ho'
                  exact hn _ rfl
                rw [upd_ne this]; exact ho, n⟩, fun _ _ h => h⟩
              have ext6 : Ext μ1 H1 μ6 (upd H6 Da (.lst (acc ++ [y]))) := by
                have e := e15.trans e6
                refine ⟨e.more, fun a o h n => ?_, fun a o h => ?_⟩
                · rw [upd_ne (ne_of_none h hD)]; exact e.keep a o h n
                · rw [upd_ne (ne_of_none h hD)]; exact e.dom a o h
              refine ⟨acc, hD6, ?_, μ6, S6, acc ++ [y], dacc ++ [dd], ds', ext6, ⟨s6.nd, s6.len, fun n a u k1 k2 => (s6.ob n a u k1 k2).wk wk fun w k => ?_⟩, nD6, upd_same, (RelL.wk wk _ _ rl6).append (.cons (Rel.wk wk _ _ ry) .nil), by rw [← et]; simp, h10⟩
              · have : (dacc ++ dd :: ds').length ≤ sizeLine := by rw [et]; exact hsz
                have l6 := rl6.length
                simp at this
                omega
              · rw [upd_ne (fun z => nD6 (by rw [← z]; exact List.mem_of_getElem? k1))]; exact k
          | _ => cases h7
      · cases hl
  · cases h4
end
end Ev

/-! Comprehensions as expressions, dicts, item stores, methods of lists. -/
namespace L2
open PySem PySem.Spec PyProof.Rows
theorem PTs.imp {X : Cx} {e : List Expr} {t t' : TT} (h : PTs X e t) (i : ∀ σ H Q, t' σ H Q → t σ H Q) : PTs X e t' := fun pins s σ H Q I q => h pins s σ H Q I (i σ H Q q)
end L2
namespace Ev
open PySem PySem.Spec PyProof.Rows L2
section
variable {X : Cx} {Γ : Gm} {elt tg iter c : Expr} {ifs : List Expr} {scope : Scope} {own : List (Str × Nat)} {mi : MI} {g : MG} {tt te : ME} {ws : List Nat} {pos spos py : Pos}
theorem kts_nil : PTs X [] (TTm Γ (mC (.bl true))) := pts_nil.imp fun σ H Q ⟨μ, env, S, b, S', he, hs, h, q⟩ => by cases h; exact q.self hs
theorem kts_one (h : PT X c (TTm Γ tt)) : PTs X [c] (TTm Γ tt) := pts_one h
theorem k_lc (hc : X.calm = true) (hN : X.N.Nodup) (hi : PI X tg iter (TIm Γ mi)) (ok : BlkOk X.N X.env.scope scope own)
    (hg : ∀ (s : Shared) (H : Hp) (C : Addr) (cl : List (Str × Addr)) (fp : List Addr), PG (X.blk s H scope (compEnvC scope cl C X.env) fp) tg (TGm Γ ws g)) (ht : ∀ (s : Shared) (H : Hp) (C : Addr) (cl : List (Str × Addr)) (fp : List Addr), PTs (X.blk s H scope (compEnvC scope cl C X.env) fp) ifs (TTm Γ tt))
    (he : ∀ (s : Shared) (H : Hp) (C : Addr) (cl : List (Str × Addr)) (fp : List Addr), PE (X.blk s H scope (compEnvC scope cl C X.env) fp) elt (T Γ te)) (hw : (ws.all fun i => (own.map (·.2)).contains i) = true := by decide) (hs : ∀ x, foldedSetIterable iter X.env x = pure x := by intro _; rfl) :
    PE X (.ListComp elt [⟨tg, iter, ifs, 0⟩] scope pos) (T Γ (mLc mi g tt te (own.map (·.2)))) :=
  (pe_lc hc hN hi ok hg ht he hs).imp fun σ H Q h => tLc_of (fun i hi => by
    have := List.all_eq_true.mp hw i hi
    simpa using this) h
theorem ks_setLc (i : Nat) {y : Str} (hc : X.calm = true) (hN : X.N.Nodup) (hy : X.N[i]? = some y) (hyl : X.env.scope.names.lookup y = some .local)
    (hsw : swapsWith (.ListComp elt [⟨tg, iter, ifs, 0⟩] scope pos) (some (.Name y py)) spos.line X.env = pure true) (hi : PI X tg iter (TIm Γ mi)) (ok : BlkOk X.N X.env.scope scope own)
    (hg : ∀ (s : Shared) (H : Hp) (C : Addr) (cl : List (Str × Addr)) (fp : List Addr), PG (X.blk s H scope (compEnvC scope cl C X.env) fp) tg (TGm Γ ws g)) (ht : ∀ (s : Shared) (H : Hp) (C : Addr) (cl : List (Str × Addr)) (fp : List Addr), PTs (X.blk s H scope (compEnvC scope cl C X.env) fp) ifs (TTm Γ tt))
    (he : ∀ (s : Shared) (H : Hp) (C : Addr) (cl : List (Str × Addr)) (fp : List Addr), PE (X.blk s H scope (compEnvC scope cl C X.env) fp) elt (T Γ te)) (hw : (ws.all fun i => (own.map (·.2)).contains i) = true := by decide) (hs : ∀ x, foldedSetIterable iter X.env x = pure x := by intro _; rfl) :
    PS X (.Assign [.Name y py] (.ListComp elt [⟨tg, iter, ifs, 0⟩] scope pos) spos) (TSm Γ (sAsg (mLc mi g tt te (own.map (·.2))) (gNm i))) :=
  (ps_setLc hc hN hy hyl hsw hi ok hg ht he hs).imp fun D σ H ⟨μ, env, S, o, S', he, hs, h, q⟩ => by
    refine tLc_of (fun i hi => by
      have := List.all_eq_true.mp hw i hi
      simpa using this) ?_
    obtain ⟨d, S1, h1, h2⟩ := bd_eq h
    cases h2
    exact ⟨μ, env, S, d, _, he, hs, h1, fun μ1 H1 e1 s1 v rv => q _ _ e1 s1 _ ((he.mono e1).set i rv)⟩
end

/-! ### item stores -/
def oSet : D → D → D → M Unit := fun o i v S => match o with
  | .loc n => match S[n]?, i with
    | some (.lst xs), .int k => match ixN xs.length k with
      | some j => some ((), S.set n (.lst (xs.set j v)))
      | none => none
    | some (.dic kvs), i => match keyOf i with
      | some k => if kvs.length < sizeLine then some ((), S.set n (.dic (dPut kvs k v))) else none
      | none => none
    | _, _ => none
  | _ => none
def gSb (o i : ME) : MG := fun v env => bd (o env) fun a => bd (i env) fun k => bd (oSet a k v) fun _ => ret env
def RSet (Γ : Gm) (f : D → D → D → M Unit) : TSet := fun o i v H Q => ∃ μ S dq di dv S', StR Γ μ H S ∧ Rel Γ μ H dq o ∧ Rel Γ μ H di i ∧ Rel Γ μ H dv v ∧ f dq di dv S = some ((), S') ∧ After Γ μ H S' fun _ H' => Q H'
section
variable {X : Cx} {Γ : Gm} {o i : Expr} {mo mi : ME} {pos : Pos}
theorem set_dict (hu : X.A.units + 1 < cLine) : PSet X (fun o i v H Q => ∃ a H', o = .ref a ∧ DPut H a i v H' ∧ Q H') := by
  intro pins s σ H o i v ov iv u Q I ro ri rv ⟨a, H', e, g, q⟩
  subst e
  cases ro
  exact d_setItem hu I g ri rv fun s4 I4 => ⟨H', I4, q⟩
theorem RelP.put {μ : List Addr} {H : Hp} {kvs : List (Key × D)} {ws : List (Key × V)} {k : Key} {d : D} {v : V} (r : RelP Γ μ H kvs ws) (rv : Rel Γ μ H d v) : RelP Γ μ H (dPut kvs k d) (putK ws k v) := by
  have hany : (kvs.any fun kv => decide (kv.1 = k)) = (ws.any fun kv => decide (kv.1 = k)) := by
    unfold RelP at r
    induction r with
    | nil => rfl
    | cons h t ih => rw [List.any_cons, List.any_cons, h.1, ih]
  have hput : putK ws k v = if (ws.any fun kv => decide (kv.1 = k)) then ws.map (fun kv => if kv.1 = k then (kv.1, v) else kv) else ws ++ [(k, v)] := by
    unfold putK
    first
    | rfl
    | (split <;> split <;> simp_all)
  rw [hput]
  unfold dPut
  rw [hany]
  by_cases c : (ws.any fun kv => decide (kv.1 = k)) = true
  · rw [if_pos c, if_pos c]
    clear hany hput c
    unfold RelP at r ⊢
    induction r with
    | nil => exact .nil
    | cons h t ih =>
      rw [List.map_cons, List.map_cons]
      refine .cons ?_ ih
      rw [h.1]
      split
      · exact ⟨rfl, rv⟩
      · exact h
  · rw [if_neg c, if_neg c]
    exact Paired.snoc r ⟨rfl, rv⟩
theorem x_set (hu : X.A.units + 1 < cLine) : PSet X (RSet Γ oSet) := by
  intro pins s σ H ov iv vv uo ui uv Q I ro ri rv ⟨μ, S, d, k, v, S', hs, h1, h2, h3, h, q⟩
  unfold oSet at h
  split at h
  · split at h
    · rename_i xs k e
      split at h
      · rename_i j ej
        cases h
        obtain ⟨a, vs, rfl, ha, hH, rl⟩ := hs.list h1 e
        cases h2
        refine set_list pins s σ H _ _ _ uo ui uv Q I ro ri rv ⟨a, vs, _, j, rfl, rfl, hH, by rw [← rl.length]; exact ej, ?_⟩
        obtain ⟨e2, s2⟩ := Ext.put hs (o := .lst (vs.set j vv)) (q := .lst (xs.set j v)) ha fun H' e h' => ⟨_, h', (RelL.mono e _ _ rl).set (Rel.mono e _ _ h3) j⟩
        exact q _ _ e2 s2
      · cases h
    · rename_i kvs e
      split at h
      · rename_i kk ek
        split at h
        · rename_i c
          cases h
          obtain ⟨a, rfl, ha⟩ := h1
          obtain ⟨ws, hH, rp⟩ := hs.ob _ a _ ha e
          have ek' := kV_of ek h2
          subst ek'
          have hl : ws.length < sizeLine := by rw [← Paired.length rp]; exact c
          refine set_dict hu pins s σ H _ _ _ uo ui uv Q I ro ri rv ⟨a, _, rfl, DPut.k hH hl, ?_⟩
          obtain ⟨e2, s2⟩ := Ext.put hs (o := .dK (putK ws kk vv)) (q := .dic (dPut kvs kk v)) ha fun H' e h' => ⟨_, h', (rp.mono e).put (Rel.mono e _ _ h3)⟩
          exact q _ _ e2 s2
        · cases h
      · cases h
    · cases h
  · cases h
theorem kg_sub (hu : X.A.units + 1 < cLine) (ho : PE X o (T Γ mo)) (hi : PE X i (T Γ mi)) (ha : ∀ v, assign (.Subscript o i pos) X.env v = (do
      let ov ← holding [v] (eval o X.env)
      let iv ← holding [v, ov] (eval i X.env)
      standAt pos
      holding [v, ov, iv] (setItem ov iv v)
      release [v, ov, iv] []) := by intro _; rfl) : PG X (.Subscript o i pos) (TGm Γ [] (gSb mo mi)) :=
  (pg_sub ho hi (x_set (Γ := Γ) hu) ha).imp fun v σ H Q ⟨μ, env, S, d, env', S', he, hs, rd, h, q⟩ => by
    refine T.first he hs h fun μ1 H1 S1 x w e1 s1 he1 rx h1 => ?_
    refine T.first he1 s1 h1 fun μ2 H2 S2 y z e2 s2 he2 ry h2 => ?_
    obtain ⟨_, S3, h3, h4⟩ := bd_eq h2
    cases h4
    exact ⟨μ2, S2, x, y, d, _, s2, Rel.mono e2 _ _ rx, ry, Rel.mono (e1.trans e2) _ _ rd, h3, fun μ3 H3 e3 s3 => q _ _ (e1.trans (e2.trans e3)) s3 σ (he2.mono e3) (Oth.refl _ _)⟩
end

/-! ### written dicts -/
def mPairs : List (ME × ME) → DEnv → M (List (D × D))
  | [], _ => ret []
  | (a, b) :: r, env => bd (a env) fun x => bd (b env) fun y => bd (mPairs r env) fun ps => ret ((x, y) :: ps)
def keysOf : List (D × D) → Option (List (Key × D))
  | [] => some []
  | (x, y) :: r => match keyOf x, keysOf r with
    | some k, some kvs => some ((k, y) :: kvs)
    | _, _ => none
def merge (kvs : List (Key × D)) : List (Key × D) := kvs.foldl (fun acc kv => dPut acc kv.1 kv.2) []
def mDict (ps : List (ME × ME)) : ME := fun env => bd (mPairs ps env) fun xs S => match keysOf xs with
  | some kvs => if kvs.length ≤ 15 then new (.dic (merge kvs)) S else none
  | none => none
section
variable {X : Cx} {Γ : Gm} {pos : Pos}
def RelQ (Γ : Gm) (μ : List Addr) (H : Hp) : List (D × D) → List (V × V) → Prop := Paired fun p q => Rel Γ μ H p.1 q.1 ∧ Rel Γ μ H p.2 q.2
end

/-! ### methods of lists -/
def nPop : D → List D → M D := fun o as S => match o, as with
  | .loc n, [] => match S[n]? with
    | some (.lst xs) => match xs[xs.length - 1]? with
      | some y => some (y, S.set n (.lst xs.dropLast))
      | none => none
    | _ => none
  | _, _ => none
def nApp : D → List D → M D := fun o as S => match o, as with
  | .loc n, [y] => match S[n]? with
    | some (.lst xs) => if xs.length < sizeLine then some (.non, S.set n (.lst (xs ++ [y]))) else none
    | _ => none
  | _, _ => none
def mMt0 (f : D → List D → M D) (o : ME) : ME := fun env => bd (o env) fun x => f x []
/-- a list's method with arguments: the list must be there when its method is looked up -/
def mMt (f : D → List D → M D) (o : ME) (a : DEnv → M (List D)) : ME := fun env => bd (o env) fun x S => match x with
  | .loc n => match S[n]? with
    | some (.lst _) => bd (a env) (fun xs => f x xs) S
    | _ => none
  | _ => none
section
variable {X : Cx} {Γ : Gm} {o e : Expr} {es : List Expr} {mo : ME} {ml : DEnv → M (List D)} {apos cpos : Pos}
def RMm (Γ : Gm) (f : D → List D → M D) : V → List V → Hp → VK → Prop := fun x xs H Q => ∃ μ S dx ds d S', StR Γ μ H S ∧ Rel Γ μ H dx x ∧ RelL Γ μ H ds xs ∧ f dx ds S = some (d, S') ∧ After Γ μ H S' fun μ' H' => ∀ v, Rel Γ μ' H' d v → Q v H'
theorem m_pop : MtR X "list.pop" (RMm Γ nPop) := by
  intro pins s σ H x xs v us Q I rx rv ⟨μ, S, dx, ds, d, S', hs, h1, h2, h, q⟩
  unfold nPop at h
  split at h
  · split at h
    · rename_i ys e
      split at h
      · rename_i y ey
        cases h
        obtain ⟨a, vs, rfl, ha, hH, rl⟩ := hs.list h1 e
        cases h2
        rw [rl.length] at ey
        obtain ⟨w, h3, h4⟩ := rl.get ey
        refine mt_pop pins s σ H _ _ v us Q I rx rv ⟨a, vs, w, rfl, rfl, hH, h3, ?_⟩
        obtain ⟨e2, s2⟩ := Ext.put hs (o := .lst vs.dropLast) (q := .lst ys.dropLast) ha fun H' e h' => ⟨_, h', (RelL.mono e _ _ rl).dropLast⟩
        exact q _ _ e2 s2 _ (Rel.mono e2 _ _ h4)
      · cases h
    · cases h
  · cases h
theorem m_app : MtR X "list.append" (RMm Γ nApp) := by
  intro pins s σ H x xs v us Q I rx rv ⟨μ, S, dx, ds, d, S', hs, h1, h2, h, q⟩
  unfold nApp at h
  split at h
  · split at h
    · rename_i ys e
      split at h
      · rename_i c
        cases h
        obtain ⟨a, vs, rfl, ha, hH, rl⟩ := hs.list h1 e
        obtain ⟨w, rfl, rw'⟩ := h2.one
        refine mt_append pins s σ H _ _ v us Q I rx rv ⟨a, vs, w, rfl, rfl, hH, by rw [← rl.length]; exact c, ?_⟩
        obtain ⟨e2, s2⟩ := Ext.put hs (o := .lst (vs ++ [w])) (q := .lst (ys ++ [_])) ha fun H' e h' => ⟨_, h', (RelL.mono e _ _ rl).append (.cons (Rel.mono e _ _ rw') .nil)⟩
        exact q _ _ e2 s2 _ rfl
      · cases h
    · cases h
  · cases h
theorem nPop_loc {x : D} {S : Sto} {r : D × Sto} (h : nPop x [] S = some r) : ∃ n xs, x = .loc n ∧ S[n]? = some (.lst xs) := by
  unfold nPop at h
  split at h
  · split at h
    · rename_i xs e; exact ⟨_, xs, rfl, e⟩
    · cases h
  · cases h
theorem k_pop (ho : PE X o (T Γ mo)) (hbase : attributeBase o "pop" X.env (eval o X.env) = eval o X.env := by rfl) (hline : (apos.endLine == cpos.line) = true := by rfl) : PE X (.Call (.Attribute o "pop" apos) [] [] cpos) (T Γ (mMt0 nPop mo)) :=
  (pe_bm0 PySem.F.plainAttrs_list PySem.F.slot_list_pop PySem.F.type_list_pop (m_pop (Γ := Γ)) ho hbase hline).imp fun σ H Q ⟨μ, env, S, d, S', he, hs, h, q⟩ => by
    refine T.first he hs h fun μ1 H1 S1 x v e1 s1 he1 rx h1 => ?_
    obtain ⟨n, xs, rfl, e⟩ := nPop_loc h1
    obtain ⟨a, vs, rfl, ha, hH, rl⟩ := s1.list rx e
    exact ⟨.inl ⟨rfl, vs, SqL.of hH⟩, μ1, S1, _, [], d, S', s1, rx, rfl, h1, q.on e1⟩
theorem k_app (ho : PE X o (T Γ mo)) (ha : PA X (e :: es) (TAm Γ ml)) (hbase : attributeBase o "append" X.env (eval o X.env) = eval o X.env := by rfl)
    (hfew : ((backTo cpos (starEach (e :: es) X.env)).all (fun x => !x.1) && (backToKw cpos (keywordEach [] X.env)).all (fun x => x.1.isSome)
      && decide ((e :: es).length + ([] : List Keyword).length + (if ([] : List Keyword).isEmpty then 0 else 1) < 30)) = true := by rfl)
    (hline : (apos.endLine == cpos.line) = true := by rfl) (hs : starEach (e :: es) X.env = (false, eval e X.env) :: starEach es X.env := by rfl) (hplain : (backTo cpos (starEach es X.env)).any (·.1) = false := by rfl) :
    PE X (.Call (.Attribute o "append" apos) (e :: es) [] cpos) (T Γ (mMt nApp mo ml)) :=
  (pe_bm PySem.F.plainAttrs_list PySem.F.slot_list_append PySem.F.type_list_append (m_app (Γ := Γ)) ho ha hbase hfew hline hs hplain).imp fun σ H Q ⟨μ, env, S, d, S', he, hs, h, q⟩ => by
    refine T.first he hs h fun μ1 H1 S1 x v e1 s1 he1 rx h1 => ?_
    try dsimp only at h1
    split at h1
    · split at h1
      · rename_i xs e
        obtain ⟨a, vs, rfl, ha, hH, rl⟩ := s1.list rx e
        refine ⟨.inl ⟨rfl, vs, SqL.of hH⟩, TAm.first he1 s1 h1 fun μ2 H2 S2 ys ws e2 s2 he2 ry h2 => ?_⟩
        exact ⟨μ2, S2, _, ys, d, S', s2, Rel.mono e2 _ _ rx, ry, h2, q.on (e1.trans e2)⟩
      · cases h1
    · cases h1
end
end Ev

/-! Short forms for a text that a script prints; the way from the law's program to the statement. -/
namespace Ev
open PySem PySem.Spec PyProof.Rows L2

theorem kv {X : Cx} {Γ : Gm} {pos : Pos} (i : Nat) {x : Str} (hN : X.N[i]? = some x := by rfl) (hv : Vis X.env.scope x := by first | exact Or.inl rfl | exact Or.inr (Or.inl rfl) | exact Or.inr (Or.inr rfl)) (hd : (x == ("__debug__" : Str)) = false := by decide)
    (hcd : (x == ("__classdict__" : Str)) = false := by decide) : PE X (.Name x pos) (T Γ (mVar i)) := k_var i hN hv hd hcd
def oNeg : D → M D := fun x => match x with
  | .int i => ret (.int (-i))
  | _ => no
theorem u_neg {X : Cx} {Γ : Gm} : UnR X (unaryOp .USub) (R1m Γ oNeg) := by
  intro pins s σ H x v Q I rx ⟨μ, S, dx, d, S', hs, hx, h, q⟩
  unfold oNeg at h
  split at h
  · cases h; cases hx
    exact un_neg pins s σ H _ v Q I rx ⟨_, rfl, q.self hs _ rfl⟩
  · cases h

/-- keywords put in the parameters' order -/
def gI {α : Type} (n m : Nat) (is : List Nat) (xs ys : List α) : List α := if xs.length = n ∧ ys.length = m then is.filterMap fun i => (xs ++ ys)[i]? else []
theorem gI_len {α : Type} {n m : Nat} {is : List Nat} {xs ys : List α} (hx : xs.length = n) (hy : ys.length = m) (hi : ∀ i ∈ is, i < n + m) : (gI n m is xs ys).length = is.length := by
  unfold gI
  rw [if_pos ⟨hx, hy⟩]
  induction is with
  | nil => rfl
  | cons i is ih =>
    have h : i < (xs ++ ys).length := by rw [List.length_append, hx, hy]; exact hi i (by simp)
    rw [List.filterMap_cons, List.getElem?_eq_getElem h]
    simp only [List.length_cons]
    rw [ih fun j hj => hi j (List.mem_cons_of_mem _ hj)]
theorem Vals.pick {is : List Nat} {vs : List V} {us : List Value} (r : Vals vs us) (hi : ∀ i ∈ is, i < vs.length) : Vals (is.filterMap fun i => vs[i]?) (is.filterMap fun i => us[i]?) := by
  induction is with
  | nil => exact .nil
  | cons i is ih =>
    have h : i < vs.length := hi i (by simp)
    obtain ⟨u, h1, h2⟩ := Vals.get r (List.getElem?_eq_getElem h)
    rw [List.filterMap_cons, List.filterMap_cons, List.getElem?_eq_getElem h, h1]
    exact .cons h2 (ih fun j hj => hi j (List.mem_cons_of_mem _ hj))
theorem RelL.pick {Γ : Gm} {μ : List Addr} {H : Hp} {is : List Nat} {ds : List D} {vs : List V} (r : RelL Γ μ H ds vs) (hi : ∀ i ∈ is, i < ds.length) : RelL Γ μ H (is.filterMap fun i => ds[i]?) (is.filterMap fun i => vs[i]?) := by
  induction is with
  | nil => exact .nil
  | cons i is ih =>
    have h : i < ds.length := hi i (by simp)
    obtain ⟨u, h1, h2⟩ := r.get (List.getElem?_eq_getElem h)
    rw [List.filterMap_cons, List.filterMap_cons, List.getElem?_eq_getElem h, h1]
    exact .cons h2 (ih fun j hj => hi j (List.mem_cons_of_mem _ hj))
section
variable {P : Program} {w : World} {K : PySem.W.Frag} {mg : Str → Option Value} {base : Heap} {Γ : Gm}
theorem perm_of {x qual : Str} {st : Stmt} {f : Addr} {fd : FuncData} {ps : List Str} (F : Fun K x qual st f fd) (ks : List Str) (n : Nat) (is : List Nat) (hl : is.length = ps.length) (hi : ∀ i ∈ is, i < n + ks.length) (hp : 0 < ps.length)
    (h : ∀ (kV doc pm : Value) (an : Option Addr) (cdv ct : Value) (us ws : List Value), us.length = n → ws.length = ks.length →
      bindArgs (PySem.W.fnOf x qual (defArgs st) (defBody st) (defScope st) .none kV doc pm an cdv ct) ⟨us, ks.zip ws⟩ = pure (ps.zip (gI n ks.length is us ws))) : Perm K fd ps ks n (gI n ks.length is) := by
  obtain ⟨oc, od, kV, doc, pm, an, cdv, ct, osl, rfl, lk, hcd⟩ := F.ex
  refine ⟨gI n ks.length is, gI n ks.length is, ⟨fun s us ws _ e => ?_, fun {vs us zs ws} r r' => ?_⟩, fun Γ μ H xs ys vs ws h1 h2 r r' => ?_⟩
  · by_cases c : us.length = n ∧ ws.length = ks.length
    · exact .of_eq (h kV doc pm an cdv ct us ws c.1 c.2)
    · unfold gI at e
      rw [if_neg c] at e
      simp at e
      omega
  · unfold gI
    by_cases c : vs.length = n ∧ zs.length = ks.length
    · rw [if_pos c, if_pos ⟨by rw [← r.length]; exact c.1, by rw [← r'.length]; exact c.2⟩]
      exact Vals.pick (r.append r') fun i h => by rw [List.length_append, c.1, c.2]; exact hi i h
    · rw [if_neg c, if_neg (by rw [← r.length, ← r'.length]; exact c)]
      exact .nil
  · refine ⟨?_, by rw [gI_len h1 h2 hi, hl]⟩
    unfold gI
    rw [if_pos ⟨h1, h2⟩, if_pos ⟨by rw [← r.length]; exact h1, by rw [← r'.length]; exact h2⟩]
    exact RelL.pick (r.append r') fun i h => by rw [List.length_append, h1, h2]; exact hi i h
/-- a def of the text: where it stands, how it is called, what it gives -/
structure Ok (P : Program) (w : World) (K : PySem.W.Frag) (mg : Str → Option Value) (base : Heap) (Γ : Gm) (x : Str) (st : Stmt) (ps : List Str) (k : Nat) (mf : List D → M D) : Prop where
  ex : ∃ f fd, Fun K x x st f fd ∧ FnOk P w K mg base CX0 k f fd ps (spM Γ ps.length mf) ∧ mg x = some (.ref f) ∧ Binds K fd ps []
structure DefAt (K : PySem.W.Frag) (mg : Str → Option Value) (x : Str) (st : Stmt) (ps : List Str) : Prop where
  ex : ∃ f fd, Fun K x x st f fd ∧ mg x = some (.ref f) ∧ Binds K fd ps []
theorem ok_of {x : Str} {st : Stmt} {N ps : List Str} {k : Nat} {m : MS} (F : DefAt K mg x st ps) (S : FnScope N ps (defScope st))
    (hbody : ∀ (f : Addr) (cdv : Value) (A : Around) (outer : List Env) (s : Shared) (H : Hp) (E : XK), Room k (A.deeper (envOfC x (defScope st) s.heap.objs.size f cdv)) →
      PSs (cxOf CX0 P w K mg base N x (defScope st) f cdv A outer s H E).nox (defBody st) (TSm Γ m)) : Ok P w K mg base Γ x st ps (k + 1) (mFn N.length m) := by
  obtain ⟨f, fd, h1, h2, h3⟩ := F.ex
  exact ⟨f, fd, h1, k_fn h1 S (hbody f), h2, h3⟩
end
section
variable {X : Cx} {Γ : Gm} {k j n : Nat} {ps ks : List Str} {mf : List D → M D} {x : Str} {st : Stmt} {p pos : Pos} {e : Expr} {es : List Expr} {ml mk : DEnv → M (List D)} {kws : List Keyword}
theorem kc (G : Ok X.prog X.w X.K X.mg X.base Γ x st ps k mf) (hr : Room j X.A) (hj : k ≤ j) (few : Few ps.length ml) (ha : PA X (e :: es) (TAm Γ ml)) (hg : Gl X x := by rfl)
    (hdb : (x == ("__debug__" : Str)) = false := by decide) (he : starEach (e :: es) X.env = (false, eval e X.env) :: starEach es X.env := by rfl) (hpl : (backTo pos (starEach es X.env)).any (·.1) = false := by rfl) :
    PE X (.Call (.Name x p) (e :: es) [] pos) (T Γ (mCall mf ml)) := by
  obtain ⟨f, fd, h1, h2, h3, h4⟩ := G.ex
  exact k_call h2 (hr.mono hj) hg h3 h1.kp h4 few ha hdb he hpl
theorem kck0 (is : List Nat) (G : Ok X.prog X.w X.K X.mg X.base Γ x st ps k mf) (hr : Room j X.A) (hj : k ≤ j) (few2 : Few ks.length mk) (hl : is.length = ps.length) (hi : (is.all fun i => decide (i < 0 + ks.length)) = true) (hp : 0 < ps.length)
    (h : ∀ (kV doc pm : Value) (an : Option Addr) (cdv ct : Value) (us ws : List Value), us.length = 0 → ws.length = ks.length →
      bindArgs (PySem.W.fnOf x x (defArgs st) (defBody st) (defScope st) .none kV doc pm an cdv ct) ⟨us, ks.zip ws⟩ = pure (ps.zip (gI 0 ks.length is us ws)))
    (hkw : PK X kws (TAm Γ mk)) (hg : Gl X x := by rfl) (hall : (backToKw pos (keywordEach kws X.env)).all (·.1.isSome) = true := by rfl) (hks : (backToKw pos (keywordEach kws X.env)).filterMap (·.1) = ks := by rfl)
    (hdb : (x == ("__debug__" : Str)) = false := by decide)
    (hpl : ((backTo pos (starEach [] X.env)).any (·.1) || (backToKw pos (keywordEach kws X.env)).any (·.1.isNone)) = false := by rfl) :
    PE X (.Call (.Name x p) [] kws pos) (T Γ (mCallK mf (gI 0 ks.length is) mNil mk)) := by
  obtain ⟨f, fd, h1, h2, h3, h4⟩ := G.ex
  exact k_callK0 h2 (hr.mono hj) hg h3 h1.kp (perm_of h1 ks 0 is hl (fun i z => of_decide_eq_true (List.all_eq_true.mp hi i z)) hp h) few2 hkw hall hks hdb hpl
end

/-! ### the law -/
def spLaw (K : PySem.W.Frag) : Sp := fun vs H Q _ => ∃ (a : Addr) (ns : List Int), vs = [.ref a] ∧ SqL K H a (ns.map V.int) ∧ ns.length ≤ 63 ∧ Only H ∧ ∀ H', Q (.bl true) H'
theorem rel_ints {Γ : Gm} {μ : List Addr} {H : Hp} : ∀ ns : List Int, RelL Γ μ H (ns.map D.int) (ns.map V.int)
  | [] => rfl
  | n :: ns => ⟨_, _, rfl, rfl, rel_ints ns⟩
theorem law_fn {P : Program} {w : World} {K : PySem.W.Frag} {mg : Str → Option Value} {base : Heap} {cl : Nat → Addr} {f : Addr} {fd : FuncData} {ps : List Str} {k : Nat} {m : List D → M D} (hp : ps.length = 1) (F : FnOk P w K mg base CX0 k f fd ps (spM ⟨K, cl⟩ ps.length m))
    (h : ∀ ns : List Int, ns.length ≤ 63 → ∃ S', m [.sq (ns.map D.int)] [] = some (.bl true, S')) : FnOk P w K mg base CX0 k f fd ps (spLaw K) := by
  refine F.imp fun vs H Q E ⟨a, ns, e, sq, hl, ho, q⟩ => ?_
  subst e
  obtain ⟨S', e⟩ := h ns hl
  refine ⟨[], [], [.sq (ns.map D.int)], .bl true, S', ⟨List.nodup_nil, rfl, fun n a o h => by simp at h⟩, ⟨_, _, rfl, ⟨a, _, rfl, ?_, rel_ints ns⟩, rfl⟩, by simp [hp], e, fun μ' H' _ _ v rv => ?_⟩
  · rcases sq with (z | ⟨o, z⟩) | ⟨o, its, n, h1, h2, h3, h4, h5, h6⟩
    · rcases ho a with y | ⟨o, xs, y⟩
      · rw [z] at y; cases y
      · rw [z] at y; cases y
    · exact .inl ⟨.inr ⟨o, z⟩, by simp⟩
    · exact .inr ⟨o, its, n, h1, h2, fun _ => h3, h4, h5, h6⟩
  · cases rv
    exact q H'
end Ev

/-! isinstance, all, any, a module's constants, instances, keywords' defaults, three names at once. -/
namespace Ev
open PySem PySem.Spec PyProof.Rows L2

/-! ### isinstance of a built-in class -/
/-- the class of a value, as a built-in -/
def tyD (S : Sto) : D → Option String
  | .non => some "NoneType"
  | .bl _ => some "bool"
  | .int _ => some "int"
  | .str _ => some "str"
  | .tup _ => some "tuple"
  | .sq _ => some "list"
  | .loc n => match S[n]? with
    | some (.lst _) => some "list"
    | some (.dic _) => some "dict"
    | _ => none
/-- of these classes bool alone stands under another -/
def isTy (t c : String) : Bool := t == c || (t == "bool" && c == "int")
def mIsi (c : String) (m : ME) : ME := fun env => bd (m env) fun x S => match tyD S x with
  | some t => some (.bl (isTy t c), S)
  | none => none
def TyC (c : String) : Prop := ∀ (K : PySem.W.Frag) (t : String), t ∈ ["NoneType", "bool", "int", "str", "tuple", "list", "dict"] → PySem.W.kitOne K (.type t) (.type c) = some (isTy t c)
section
variable {X : Cx} {Γ : Gm} {e : Expr} {m : ME} {p p2 pos : Pos}
theorem tyD_mem {S : Sto} {x : D} {t : String} (h : tyD S x = some t) : t ∈ ["NoneType", "bool", "int", "str", "tuple", "list", "dict"] := by
  unfold tyD at h
  split at h
  all_goals first | (cases h; decide) | skip
  split at h
  all_goals first | (cases h; decide) | cases h
theorem isi_ok {c : String} (hc : TyC c) (hK : Γ.K = X.K) {pins : List (Addr × Obj)} {σ : L2.St} {H : Hp} {s : Shared} {Q : Value → Shared → Prop} {μ : List Addr} {S : Sto} {x : D} {v : V} {u : Value} {t : String} (I : L2.Inv X pins σ H s) (hs : StR Γ μ H S) (r : Rel Γ μ H x v) (ru : RelV v u) (ht : tyD S x = some t)
    (h : ∀ tk, Q (.bool (isTy t c)) { s with toks := tk }) : wpAny (model X.prog X.w) X.A (call (.builtin "isinstance") [u, .type c]) Q X.xe s := by
  have e := hc X.K t (tyD_mem ht)
  unfold tyD at ht
  split at ht
  · cases ht; cases r; cases (show u = Value.none from ru); exact PySem.W.kia_one PySem.W.kitx_none I.kIn True.intro e (fun z => nomatch z) h
  · rename_i b; cases ht; cases r; cases (show u = Value.bool b from ru); exact PySem.W.kia_one PySem.W.kitx_bool I.kIn True.intro e (fun z => nomatch z) h
  · rename_i i; cases ht; cases r; obtain ⟨tk, rfl⟩ := (show ∃ t, u = Value.int i t from ru); exact PySem.W.kia_one PySem.W.kitx_int I.kIn True.intro e (fun z => nomatch z) h
  · rename_i x; cases ht; cases r; obtain ⟨tk, rfl⟩ := (show ∃ t, u = Value.str x t from ru); exact PySem.W.kia_one PySem.W.kitx_str I.kIn True.intro e (fun z => nomatch z) h
  · cases ht
    obtain ⟨a, vs, rfl, st, rl⟩ := r
    cases (show u = Value.ref a from ru)
    rw [hK] at st
    obtain ⟨its, _, ⟨o, h1, h2, _⟩, _⟩ := I.tuple st.sqT
    exact PySem.W.kia_one PySem.W.kitx_tuple I.kIn ⟨o, h1, h2⟩ e (fun z => nomatch z) h
  · cases ht
    obtain ⟨a, vs, rfl, st, rl⟩ := r
    cases (show u = Value.ref a from ru)
    rw [hK] at st
    obtain ⟨its, _, ⟨o, n, h1, h2, _⟩, _⟩ := I.list st.sqL
    exact PySem.W.kia_one PySem.W.kitx_list I.kIn ⟨o, h1, h2⟩ e (fun z => nomatch z) h
  · split at ht
    · rename_i xs ex
      cases ht
      obtain ⟨a, vs, rfl, ha, hH, rl⟩ := hs.list r ex
      cases (show u = Value.ref a from ru)
      obtain ⟨its, _, ⟨o, n, h1, h2, _⟩, _⟩ := I.list (SqL.of (K := X.K) hH)
      exact PySem.W.kia_one PySem.W.kitx_list I.kIn ⟨o, h1, h2⟩ e (fun z => nomatch z) h
    · rename_i kvs ex
      cases ht
      obtain ⟨a, rfl, ha⟩ := r
      cases (show u = Value.ref a from ru)
      obtain ⟨ws, hH, _⟩ := hs.ob _ a _ ha ex
      exact L2.isinst_ok (x := .ref a) I rfl (.dK hH) e h
    · cases ht
theorem k_isi {T' : Str} {c : String} (hc : TyC c) (hK : Γ.K = X.K) (hg : Gl X "isinstance") (hm : X.mg "isinstance" = none) (hgT : Gl X T') (hmT : X.mg T' = none) (hvT : bootBuiltins T' = some (.type c)) (he : PE X e (T Γ m)) (hnT : T' ≠ "__name__" := by decide) (hdT : (T' == ("__debug__" : Str)) = false := by decide)
    (hst : starEach [e, .Name T' p2] X.env = (false, eval e X.env) :: starEach [.Name T' p2] X.env := by rfl) (hst2 : starEach [.Name T' p2] X.env = (false, eval (.Name T' p2) X.env) :: starEach [] X.env := by rfl) (hpl : (backTo pos (starEach [.Name T' p2] X.env)).any (·.1) = false := by rfl) :
    PE X (.Call (.Name "isinstance" p) [e, .Name T' p2] [] pos) (T Γ (mIsi c m)) := by
  have hr : CallR X (.builtin "isinstance") (fun xs H Q => ∃ x μ S d t, xs = [x, .ty c] ∧ StR Γ μ H S ∧ Rel Γ μ H d x ∧ tyD S d = some t ∧ Q (.bl (isTy t c)) H) := by
    intro pins s σ H xs us Q I rv ⟨x, μ, S, d, t, e1, hs, rd, ht, q⟩
    subst e1
    cases rv with
    | cons r1 rr =>
      cases rr with
      | cons r2 rn =>
        cases rn
        cases (show _ = Value.type c from r2)
        exact isi_ok hc hK I hs rd r1 ht fun tk => ⟨.bl _, H, I.tok tk, rfl, q⟩
  refine (pe_callB hr hg hm (by decide +kernel) (pa_cons he (pa_cons (pe_bltn hgT hmT hvT (v := .ty c) rfl hnT hdT) pa_nil hst2) hst) (by decide) (by decide) hst hpl).imp fun σ H Q ⟨μ, env, S, d, S', hen, hs, h, q⟩ => ?_
  refine T.first hen hs h fun μ1 H1 S1 x v e1 s1 he1 rx h1 => ?_
  try dsimp only at h1
  split at h1
  · rename_i t et
    cases h1
    exact ⟨v, μ1, _, x, t, rfl, s1, rx, et, q _ _ e1 s1 _ rfl⟩
  · cases h1
end
theorem ty_int : TyC "int" := fun K t h => by
  simp only [List.mem_cons, List.not_mem_nil, or_false] at h
  rcases h with rfl | rfl | rfl | rfl | rfl | rfl | rfl <;> rfl
theorem ty_bool : TyC "bool" := fun K t h => by
  simp only [List.mem_cons, List.not_mem_nil, or_false] at h
  rcases h with rfl | rfl | rfl | rfl | rfl | rfl | rfl <;> rfl
theorem ty_tuple : TyC "tuple" := fun K t h => by
  simp only [List.mem_cons, List.not_mem_nil, or_false] at h
  rcases h with rfl | rfl | rfl | rfl | rfl | rfl | rfl <;> rfl

/-! ### all, any -/
def blsOf : List D → Option (List Bool)
  | [] => some []
  | .bl b :: xs => (blsOf xs).map (b :: ·)
  | _ => none
def bAll : List D → M D := fun xs S => match xs with
  | [.loc n] => match S[n]? with
    | some (.lst ys) => (blsOf ys).map fun bs => (.bl (bs.all id), S)
    | _ => none
  | _ => none
def bAny : List D → M D := fun xs S => match xs with
  | [.loc n] => match S[n]? with
    | some (.lst ys) => (blsOf ys).map fun bs => (.bl (bs.any id), S)
    | _ => none
  | _ => none
section
variable {X : Cx} {Γ : Gm}
theorem blsOf_ok {μ : List Addr} {H : Hp} : ∀ {ys : List D} {is : List Bool} {vs : List V}, blsOf ys = some is → RelL Γ μ H ys vs → vs = is.map V.bl
  | [], _, _, h, r => by cases h; cases r; rfl
  | .bl i :: ys, _, _, h, r => by
    simp only [blsOf] at h
    obtain ⟨js, h1, rfl⟩ := Option.map_eq_some_iff.mp h
    obtain ⟨v, t, rfl, h2, h3⟩ := r
    cases h2
    rw [blsOf_ok h1 h3]; rfl
  | .non :: _, _, _, h, _ => by simp [blsOf] at h
  | .int _ :: _, _, _, h, _ => by simp [blsOf] at h
  | .str _ :: _, _, _, h, _ => by simp [blsOf] at h
  | .tup _ :: _, _, _, h, _ => by simp [blsOf] at h
  | .sq _ :: _, _, _, h, _ => by simp [blsOf] at h
  | .loc _ :: _, _, _, h, _ => by simp [blsOf] at h
theorem c_all (hc : X.calm = true) : CallR X (.builtin "all") (RLm Γ bAll) := by
  intro pins s σ H xs us Q I rv ⟨μ, S, ds, d, S', hs, rl, h, q⟩
  unfold bAll at h
  split at h
  · split at h
    · rename_i ys e
      obtain ⟨is, h1, h2⟩ := Option.map_eq_some_iff.mp h
      cases h2
      obtain ⟨v, rfl, r⟩ := rl.one
      obtain ⟨a, vs, rfl, ha, hH, ry⟩ := hs.list r e
      have ev := blsOf_ok h1 ry
      subst ev
      exact cr_all hc pins s σ H _ us Q I rv ⟨a, is, rfl, SqL.of hH, q.self hs _ rfl⟩
    · cases h
  · cases h
theorem c_any (hc : X.calm = true) : CallR X (.builtin "any") (RLm Γ bAny) := by
  intro pins s σ H xs us Q I rv ⟨μ, S, ds, d, S', hs, rl, h, q⟩
  unfold bAny at h
  split at h
  · split at h
    · rename_i ys e
      obtain ⟨is, h1, h2⟩ := Option.map_eq_some_iff.mp h
      cases h2
      obtain ⟨v, rfl, r⟩ := rl.one
      obtain ⟨a, vs, rfl, ha, hH, ry⟩ := hs.list r e
      have ev := blsOf_ok h1 ry
      subst ev
      exact cr_any hc pins s σ H _ us Q I rv ⟨a, is, rfl, SqL.of hH, q.self hs _ rfl⟩
    · cases h
  · cases h

/-! ### a module's constants -/
structure CInt (mg : Str → Option Value) (x : Str) (i : Int) : Prop where
  ex : ∃ t, mg x = some (.int i t)
/-- a tuple of texts -/
structure CStr (K : PySem.W.Frag) (mg : Str → Option Value) (x : Str) (ss : List Str) : Prop where
  ex : ∃ a, mg x = some (.ref a) ∧ KT' K "tuple" a (ss.map V.str)
/-- a tuple of ints -/
structure CTup (K : PySem.W.Frag) (mg : Str → Option Value) (x : Str) (is : List Int) : Prop where
  ex : ∃ a, mg x = some (.ref a) ∧ KT' K "tuple" a (is.map V.int)
theorem k_gi {x : Str} {i : Int} {pos : Pos} (c : CInt X.mg x i) (hg : Gl X x := by rfl) (hd : (x == ("__debug__" : Str)) = false := by decide) : PE X (.Name x pos) (T Γ (mC (.int i))) := by
  obtain ⟨t, h⟩ := c.ex
  exact k_C (pe_glob hg h (v := .int i) ⟨t, rfl⟩ hd) fun _ _ => rfl
end

/-! ### instances -/
/-- a class as the top has made it: its attributes are the instances' own -/
structure ClsD (K : PySem.W.Frag) (C : Addr) (fs : List Str) : Prop where
  cl : Cls K C
  no : ∀ f ∈ fs, NoAttr K C f
def fGet (fs : List (Str × D)) (f : Str) : Option D := fs.lookup f
def fPut (f : Str) (v : D) : List (Str × D) → List (Str × D)
  | [] => [(f, v)]
  | (g, x) :: r => if g = f then (g, v) :: r else (g, x) :: fPut f v r
def mFld (c : Nat) (f : Str) (m : ME) : ME := fun env => bd (m env) fun x S => match x with
  | .loc n => match S[n]? with
    | some (.ins c' fs) => if c' = c then (fGet fs f).map fun d => (d, S) else none
    | _ => none
  | _ => none
def sFldD (c : Nat) (f : Str) (o v : ME) : MS := fun env => bd (v env) fun y => bd (o env) fun x S => match x with
  | .loc n => match S[n]? with
    | some (.ins c' fs) => if c' = c ∧ fs.length < 1000 then some (.nx env, S.set n (.ins c' (fPut f y fs))) else none
    | _ => none
  | _ => none
section
variable {X : Cx} {Γ : Gm} {e o v : Expr} {m mo mv : ME} {pos pos' : Pos} {c : Nat} {f : Str} {fs : List Str}
theorem RelP.look {μ : List Addr} {H : Hp} {kvs : List (Str × D)} {ws : List (Str × V)} {k : Str} {d : D} (r : RelP Γ μ H kvs ws) (h : kvs.lookup k = some d) : ∃ v, ws.lookup k = some v ∧ Rel Γ μ H d v := by
  unfold RelP at r
  induction r with
  | nil => simp at h
  | @cons p q ps qs hpq t ih =>
    obtain ⟨p1, p2⟩ := p
    obtain ⟨q1, q2⟩ := q
    have e1 : p1 = q1 := hpq.1
    subst e1
    rw [List.lookup_cons] at h ⊢
    split at h
    · cases h
      exact ⟨q2, by simp_all, hpq.2⟩
    · rename_i ne
      obtain ⟨v, h1, h2⟩ := ih h
      exact ⟨v, by simp_all, h2⟩
theorem RelP.putF {μ : List Addr} {H : Hp} {kvs : List (Str × D)} {ws : List (Str × V)} {k : Str} {d : D} {v : V} (r : RelP Γ μ H kvs ws) (rv : Rel Γ μ H d v) : RelP Γ μ H (fPut k d kvs) (L2.putF k v ws) := by
  unfold RelP at r ⊢
  induction r with
  | nil => exact .cons ⟨rfl, rv⟩ .nil
  | @cons p q ps qs hpq t ih =>
    obtain ⟨p1, p2⟩ := p
    obtain ⟨q1, q2⟩ := q
    have e1 : p1 = q1 := hpq.1
    subst e1
    unfold fPut L2.putF
    split
    · exact .cons ⟨rfl, rv⟩ t
    · exact .cons hpq ih
theorem k_fld (c : Nat) (hK : Γ.K = X.K) (hc : ClsD X.K (Γ.cl c) fs) (hf : f ∈ fs) (he : PE X e (T Γ m)) (hb : attributeBase e f X.env (eval e X.env) = eval e X.env := by rfl) : PE X (.Attribute e f pos) (T Γ (mFld c f m)) :=
  (pe_fld he hb).imp fun σ H Q ⟨μ, env, S, d, S', hen, hs, h, q⟩ => by
    refine T.first hen hs h fun μ1 H1 S1 x v e1 s1 he1 rx h1 => ?_
    try dsimp only at h1
    split at h1
    · split at h1
      · rename_i n c' gs ex
        split at h1
        · rename_i ec
          subst ec
          obtain ⟨d', h2, h3⟩ := Option.map_eq_some_iff.mp h1
          cases h3
          obtain ⟨a, rfl, ha⟩ := rx
          obtain ⟨dx, ws, hH, rp⟩ := s1.ob _ a _ ha ex
          obtain ⟨w, h4, h5⟩ := rp.look h2
          exact ⟨a, _, dx, ws, w, rfl, hH, hc.cl, hc.no f hf, h4, q _ _ e1 s1 _ h5⟩
        · cases h1
      · cases h1
    · cases h1
theorem ks_fld (c : Nat) (hK : Γ.K = X.K) (hc : ClsD X.K (Γ.cl c) fs) (hf : f ∈ fs) (ho : PE X o (T Γ mo)) (hv : PE X v (T Γ mv)) (hsw : swapsWith v (some (.Attribute o f pos')) pos.line X.env = pure false := by rfl) : PS X (.Assign [.Attribute o f pos'] v pos) (TSm Γ (sFldD c f mo mv)) :=
  (ps_fld ho hv hsw).imp fun D σ H ⟨μ, env, S, out, S', hen, hs, h, q⟩ => by
    refine T.first hen hs h fun μ1 H1 S1 y w e1 s1 he1 ry h1 => ?_
    refine T.first he1 s1 h1 fun μ2 H2 S2 x v e2 s2 he2 rx h2 => ?_
    try dsimp only at h2
    split at h2
    · split at h2
      · rename_i n c' gs ex
        split at h2
        · rename_i ec
          obtain ⟨ec, el⟩ := ec
          subst ec
          cases h2
          obtain ⟨a, rfl, ha⟩ := rx
          obtain ⟨dx, ws, hH, rp⟩ := s2.ob _ a _ ha ex
          have hl : ws.length < 1000 := by rw [← Paired.length rp]; exact el
          refine ⟨a, _, dx, ws, rfl, hH, hc.cl, hc.no f hf, hl, ?_⟩
          obtain ⟨e3, s3⟩ := Ext.put s2 (o := .ins (Γ.cl c') dx (L2.putF f w ws)) (q := .ins c' (fPut f y gs)) ha fun H' e h' => ⟨dx, _, h', (rp.mono e).putF (Rel.mono e _ _ (Rel.mono e2 _ _ ry))⟩
          exact q _ _ (e1.trans (e2.trans e3)) s3 σ (he2.mono e3)
        · cases h2
      · cases h2
    · cases h2
end
end Ev

/-! New instances with keywords, a keyword's default, three names at once, enumerate over a tuple. -/
namespace Ev
open PySem PySem.Spec PyProof.Rows L2

/-! ### a default that stands in a def's own dict -/
/-- a def of the text, as Ok, whose last parameters are filled by dd where they are left out -/
structure OkD (P : Program) (w : World) (K : PySem.W.Frag) (mg : Str → Option Value) (base : Heap) (Γ : Gm) (x : Str) (st : Stmt) (ps : List Str) (k : Nat) (mf : List D → M D) (dd : List D) : Prop where
  ex : ∃ f fd ds dvs, Fun K x x st f fd ∧ FnOk P w K mg base CX0 k f fd ps (spM Γ ps.length mf) ∧ mg x = some (.ref f) ∧ Binds K fd ps ds ∧ Vals dvs ds ∧ (∀ μ H, RelL Γ μ H dd dvs)
structure DefD (K : PySem.W.Frag) (mg : Str → Option Value) (x : Str) (st : Stmt) (ps : List Str) (dd : List D) : Prop where
  ex : ∃ f fd ds dvs, Fun K x x st f fd ∧ mg x = some (.ref f) ∧ Binds K fd ps ds ∧ Vals dvs ds ∧ (∀ (Γ : Gm) μ H, RelL Γ μ H dd dvs)
def mCallD (f : List D → M D) (dd : List D) (a : DEnv → M (List D)) : ME := fun env => bd (a env) fun xs => f (xs ++ dd)
section
variable {P : Program} {w : World} {K : PySem.W.Frag} {mg : Str → Option Value} {base : Heap} {Γ : Gm}
end
section
variable {X : Cx} {Γ : Gm} {k j n : Nat} {ps ks : List Str} {mf : List D → M D} {x : Str} {st : Stmt} {p pos : Pos} {e : Expr} {es : List Expr} {ml mk : DEnv → M (List D)} {kws : List Keyword} {dd : List D}
/-- all are given: as Ok -/
theorem OkD.ok (G : OkD X.prog X.w X.K X.mg X.base Γ x st ps k mf dd) : ∃ f fd, Fun X.K x x st f fd ∧ FnOk X.prog X.w X.K X.mg X.base CX0 k f fd ps (spM Γ ps.length mf) ∧ X.mg x = some (.ref f) := by
  obtain ⟨f, fd, ds, dvs, h1, h2, h3, h4, h5, h6⟩ := G.ex
  exact ⟨f, fd, h1, h2, h3⟩
end

/-! ### a new instance, its __init__ called with keywords -/
structure MkD (P : Program) (w : World) (K : PySem.W.Frag) (mg : Str → Option Value) (base : Heap) (Γ : Gm) (x qual : Str) (st : Stmt) (c : Nat) (ps : List Str) (k : Nat) (mf : List D → M D) : Prop where
  ex : ∃ f fd, Fun K "__init__" qual st f fd ∧ FnOk P w K mg base CX0 k f fd ps (spM Γ ps.length mf) ∧ mg x = some (.ref (Γ.cl c)) ∧ Mk K (Γ.cl c) f
def mMake (c : Nat) (init : List D → M D) (g : List D → List D → List D) (a b : DEnv → M (List D)) : ME := fun env => bd (a env) fun xs => bd (b env) fun ys => fun S =>
  match init (g (.loc S.length :: xs) ys) (S ++ [.ins c []]) with
  | some (.non, S') => some (.loc S.length, S')
  | _ => none
section
variable {X : Cx} {Γ : Gm} {k j n c : Nat} {C f : Addr} {fd : FuncData} {ps ks : List Str} {sp : Sp} {mf : List D → M D} {x qual : Str} {st : Stmt} {p pos : Pos} {e : Expr} {es : List Expr} {ml mk : DEnv → M (List D)} {kws : List Keyword}
theorem run_makek {g : List Value → List Value → List Value} {gV : List V → List V → List V} {pins : List (Addr × Obj)} {σ : L2.St} {H : Hp} {s : Shared} {Q : VK} {us ws : List Value} {vs zs : List V} (M : Mk X.K C f) (F : FnOk X.prog X.w X.K X.mg X.base CX0 k f fd ps sp) (hr : Room (k + 1) X.A) (hb : KBinds X.K fd ps ks g gV)
    (I : L2.Inv X pins σ H s) (r : Vals vs us) (rz : Vals zs ws)
    (h : ∀ x dx, H x = none → H dx = none → dx ≠ x → sp (gV (.ref x :: vs) zs) (upd (upd H dx (.own x)) x (.ins C dx [])) (fun v H2 => v = .non ∧ Q (.ref x) H2) E0) :
    wpAny (model X.prog X.w) X.A (call (.ref C) us (ks.zip ws)) (EP X pins σ Q) X.xe s := by
  have hq := h (s.heap.objs.size + 1) s.heap.objs.size (I.hok.fresh (Nat.le_succ _)) (I.hok.fresh (Nat.le_refl _)) (Nat.ne_of_lt (Nat.lt_succ_self _))
  have I2 := Inv.made (C := C) I
  have r2 : Vals (gV (V.ref (s.heap.objs.size + 1) :: vs) zs) (g (Value.ref (s.heap.objs.size + 1) :: us) ws) := hb.rel (.cons rfl r) rz
  have hl : (g (Value.ref (s.heap.objs.size + 1) :: us) ws).length = ps.length := by rw [← r2.length]; exact F.len _ _ _ _ hq
  refine wpAny_call (make_map (f := f) I.kIn M.makes M.init (beq_iff_eq.mp M.fn) (codeAny_mono (F.run _ X.stack _ _ ⟨Value.ref (s.heap.objs.size + 1) :: us, ks.zip ws⟩ (g (Value.ref (s.heap.objs.size + 1) :: us) ws) _ _ E0 (hr.make C us _)
    (I2.env0.make C us _) (hb.to _ (Value.ref (s.heap.objs.size + 1) :: us) ws I2.kIn hl) r2 hq) fun r s' hq' => ?_))
  cases r with
  | error e => exact hq'.elim
  | ok fl =>
    cases fl with
    | ret u =>
      obtain ⟨v, H', I3, rv, ev, q3⟩ := I2.after hq'
      subst ev
      exact ⟨rv, ⟨V.ref (s.heap.objs.size + 1), H', I3, rfl, q3⟩⟩
    | next => exact False.elim hq'
    | brk => exact False.elim hq'
    | cont => exact False.elim hq'
end
end Ev

/-! enumerate over a tuple; three names at once; a method of an instance. -/
namespace Ev
open PySem PySem.Spec PyProof.Rows L2

section
variable {prog : Program} {w : World} {A : Around} {E : Value → Shared → Prop} {s : Shared}
theorem nextT {j a : Addr} {i : Nat} {xs : Array Value} {u : Value} {Q : Value → Shared → Prop} (hj : s.heap.IsTupleIter j a i) (ha : s.heap.IsTuple a xs) (hu : xs[i]? = some u)
    (q : ∀ g, g.IsTupleIter j a (i + 1) → Heap.SameBut j s.heap g → Q u { s with heap := g }) : wpAny (model prog w) A (Builtin.SmallTypes.nextOf (.ref j)) Q E s := by
  obtain ⟨ob, h1, h2, h3⟩ := id hj; obtain ⟨oa, g1, _, na, g2⟩ := ha; unfold Builtin.SmallTypes.nextOf
  refine wpAny_bind (wpAny_callSpecial?_slot (name := Str.ofString "__next__") hj.typeIs F.slot_tuple_iterator_next (wpAny_call_entry F.slot_tuple_iterator_next hj.typeIs F.entry_tuple_iterator_next ?_ (F.args_tuple_iterator_next_1 _)))
  show wpAny _ _ (field (.ref j) 0 >>= _) _ _ s; refine wpAny_bind (wpAny_field h1 h3 (x := .ref a) rfl ?_)
  show wpAny _ _ (if (Value.ref a == Value.none) = true then _ else _) _ _ s; rw [if_neg (show ¬ ((Value.ref a == Value.none) = true) from Bool.false_ne_true)]
  show wpAny _ _ (field (.ref j) 1 >>= _) _ _ s; refine wpAny_bind (wpAny_field h1 h3 (x := .int i 0) rfl ?_)
  show wpAny _ _ (seqItems? (.ref a) >>= _) _ _ s; refine wpAny_bind (wpAny_seqItems g1 g2 ?_); simp only [Int.toNat_natCast, hu]
  refine wpAny_bind (wpAny_setField h1 h3 (by simp) (wpAny_pure ⟨u, rfl, wpAny_pure (q _ ⟨_, Heap.get?_update_self _ h1 (Obj.isFreed_of_fields (Obj.data_mapFields h3 _)), (Obj.cls_mapFields ..).trans h2, by rw [Obj.data_mapFields h3]; simp [rawInt]⟩ (Heap.SameBut.update ..))⟩))
theorem endT {j a : Addr} {i : Nat} {xs : Array Value} {Q : Value → Shared → Prop} (hh : A.handled = none) (hj : s.heap.IsTupleIter j a i) (ha : s.heap.IsTuple a xs) (hu : xs[i]? = none)
    (q : ∀ g e, Heap.ExtBut j s.heap g → (∃ o, g.get? e = some o ∧ o.cls = .type "StopIteration") → E (.ref e) { s with heap := g }) : wpAny (model prog w) A (Builtin.SmallTypes.nextOf (.ref j)) Q E s := by
  obtain ⟨ob, h1, h2, h3⟩ := id hj; obtain ⟨oa, g1, _, na, g2⟩ := ha; unfold Builtin.SmallTypes.nextOf
  refine wpAny_bind (wpAny_callSpecial?_slot (name := Str.ofString "__next__") hj.typeIs F.slot_tuple_iterator_next (wpAny_call_entry F.slot_tuple_iterator_next hj.typeIs F.entry_tuple_iterator_next ?_ (F.args_tuple_iterator_next_1 _)))
  show wpAny _ _ (field (.ref j) 0 >>= _) _ _ s; refine wpAny_bind (wpAny_field h1 h3 (x := .ref a) rfl ?_)
  show wpAny _ _ (if (Value.ref a == Value.none) = true then _ else _) _ _ s; rw [if_neg (show ¬ ((Value.ref a == Value.none) = true) from Bool.false_ne_true)]
  show wpAny _ _ (field (.ref j) 1 >>= _) _ _ s; refine wpAny_bind (wpAny_field h1 h3 (x := .int i 0) rfl ?_)
  show wpAny _ _ (seqItems? (.ref a) >>= _) _ _ s; refine wpAny_bind (wpAny_seqItems g1 g2 ?_); simp only [Int.toNat_natCast, hu]
  refine wpAny_bind (wpAny_rule (wpAny_bind (wpAny_setField h1 h3 (by simp) ?_))); show wpAny _ _ (newExc (.type "StopIteration") [] >>= _) _ _ _
  refine wpAny_bind ?_; simp only [newExc, newTuple]; refine wpAny_bind (wpAny_newObj_type ?_ (by size_fits))
  refine wpAny_bind (m := firstArgMember _ _) (wpAny_of_eq (a := Value.none) (by first | rfl | (simp only [firstArgMember]; rfl)) ?_); refine wpAny_newObj_type ?_ (by size_fits)
  simp only [raiseNew]; refine wpAny_bind (wpAny_handled ?_)
  first
  | rw [show A.in1.handled = none from hh]
  | rw [hh]
  refine wpAny_bind (wpAny_pure (wpAny_throw (q _ _ (((Heap.SameBut.update ..).extBut.push _).push _) ⟨_, Heap.get?_push_size _ rfl, rfl⟩)))
theorem drawsT (hh : A.handled = none) (j a : Addr) (ne : a ≠ j) (xs : Array Value) : Draws prog w A j [j, a] xs.size (fun i v => xs[i]? = some v) (fun i h => h.IsTupleIter j a i ∧ h.IsTuple a xs) where
  live := fun _ _ st => let ⟨o, ho, _⟩ := st.1; ⟨o, ho⟩
  frame := fun _ _ _ st hk => ⟨st.1.at fun o e => hk j (by simp) o e, let ⟨o, ho, r⟩ := st.2; ⟨o, hk a (by simp) o ho, r⟩⟩
  item := fun i s Q E hi st hQ => nextT st.1 st.2 (u := xs[i]) (by simp [hi]) fun g hg sb => hQ _ g s.toks (by simp [hi]) ⟨hg, st.2.extBut sb.extBut ne⟩ sb
  done := fun s Q E st hE => endT hh st.1 st.2 (by simp) hE
open AutoSeq1 (wpAny_loadPart') in
theorem meetsT (a : Addr) (xs : Array Value) (n : Nat) (dc : Option Addr) (sl : Array (Option Value)) :
    Meets (Builtin.«enumerate.__new__» ⟨[.type "enumerate", .ref a], []⟩) (fun _ R s => s.heap.get? a = some { cls := .type "tuple", dict := dc, data := .seq xs n, slots := sl } ∧
      R (.ok (.ret (.ref (s.heap.push { cls := .type "tuple_iterator", data := .fields #[.ref a, .int 0 0] }).objs.size))) { s with heap := (s.heap.push { cls := .type "tuple_iterator", data := .fields #[.ref a, .int 0 0] }).push { cls := .type "enumerate", data := .fields #[.none, .bool false, .ref s.heap.objs.size, rawInt 0, .none, .none] } }) :=
  .of_wp fun prog w A R s h => by
    obtain ⟨hp, g, d, tk, os⟩ := s; obtain ⟨ha, h⟩ := h
    have hsub := sub_enumerate; have hT : Heap.IsTuple (Shared.heap ⟨hp, g, d, tk, os⟩) a xs := ⟨_, ha, rfl, n, rfl⟩
    wp_walk using wpAny_loadPart' ha
    refine wpAny_stack_any fun st => wpAny_pure ?_
    split
    · rename_i c _ _ _ _ _
      cases (c == Value.type "enumerate") <;> (wp_walk using wpAny_loadPart' ha, wpAny_pyIter_tuple hT; exact ⟨_, rfl, h⟩)
    · wp_walk using wpAny_loadPart' ha, wpAny_pyIter_tuple hT
      exact ⟨_, rfl, h⟩
theorem enumT {a : Addr} {xs : Array Value} {Q : Value → Shared → Prop} (hT : s.heap.IsTuple a xs)
    (h : ∀ g, IsEnum g (s.heap.objs.size + 1) s.heap.objs.size 0 .none → g.IsTupleIter s.heap.objs.size a 0 → (∀ b o, s.heap.get? b = some o → g.get? b = some o) → Q (.ref (s.heap.objs.size + 1)) { s with heap := g }) : wpAny (model prog w) A (call (.type "enumerate") [.ref a]) Q E s := by
  obtain ⟨⟨c, dc, dt, sl⟩, ha, hc, n, hd⟩ := hT
  replace hc : c = .type "tuple" := hc
  replace hd : dt = .seq xs n := hd
  subst hc hd
  refine callType_new F.called_enumerate (by decide) (F.typeCall_enumerate_1 _) (F.newCall_enumerate_1 _) (fun obj => F.args_object_init_2 obj _) F.entry_enumerate_new (meetsT a xs n dc sl) ⟨ha, ?_⟩
  have hz : (s.heap.push { cls := .type "tuple_iterator", data := .fields #[.ref a, .int 0 0] }).objs.size = s.heap.objs.size + 1 := Heap.size_push ..
  show _ ∧ _
  rw [hz]
  have he : IsEnum ((s.heap.push { cls := .type "tuple_iterator", data := .fields #[.ref a, .int 0 0] }).push { cls := .type "enumerate", data := .fields #[.none, .bool false, .ref s.heap.objs.size, rawInt 0, .none, .none] }) (s.heap.objs.size + 1) s.heap.objs.size 0 .none := by
    have := Heap.get?_push_size (s.heap.push { cls := .type "tuple_iterator", data := .fields #[.ref a, .int 0 0] }) (o := { cls := .type "enumerate", data := .fields #[.none, .bool false, .ref s.heap.objs.size, rawInt 0, .none, .none] }) rfl
    rw [hz] at this; exact this
  exact ⟨⟨_, he, rfl⟩, h _ he ⟨_, Heap.get?_push_of_some _ (Heap.get?_push_size _ rfl), rfl, rfl⟩ fun b o x => Heap.get?_push_of_some _ (Heap.get?_push_of_some _ x)⟩
end
end Ev
namespace Ev
open PySem PySem.Spec PyProof.Rows L2
/-- the tuple at a, each item in a new pair with its number -/
def IteT (K : PySem.W.Frag) (a : Addr) : It :=
  ⟨fun i H => ∃ (xs : List V) (x : V), SqT K H a xs ∧ xs[i]? = some x, fun i H v H' => ∃ N x, v = .ref N ∧ H N = none ∧ H' = upd H N (.tup [.int (i : Nat), x]) ∧ ∀ xs, SqT K H a xs → xs[i]? = some x, fun i H => ∃ xs : List V, SqT K H a xs ∧ xs.length ≤ i⟩
theorem turn_enumT {P : Program} {w : World} {K : PySem.W.Frag} {elts : List Expr} {kk : Nat} {tpos : Pos} (a e it : Addr) :
    Turn P w K (.Tuple elts kk tpos) (IteT K a) [e, it] e (fun i h => (∃ old, IsEnum h e it ((i : Nat) : Int) old) ∧ h.IsTupleIter it a i ∧ e ≠ it) where
  mem := by simp
  obj := fun i h st b hb => by
    obtain ⟨⟨old, he⟩, ⟨o, ho, hc, hd⟩, _⟩ := st
    have e' : b = e ∨ b = it := by simpa using hb
    rcases e' with z | z
    · rw [z]; exact ⟨_, he, fun v q => nomatch q⟩
    · rw [z]; exact ⟨o, ho, fun v q => by rw [hd] at q; cases q⟩
  keep := fun i h h' st k => let ⟨⟨old, he⟩, hi, hne⟩ := st; ⟨⟨old, k e (by simp) _ he⟩, hi.at fun o q => k it (by simp) o q, hne⟩
  item := by
    intro X hP hw hK hc i pins s σ H E I hf st hg
    subst hP hw hK
    obtain ⟨⟨old, he⟩, hit, hne⟩ := st
    obtain ⟨xs, x, hq, hx⟩ := hg
    obtain ⟨its, rv, pt, hz⟩ := I.tuple hq
    have pT : s.heap.IsTuple a its.toArray := pt
    obtain ⟨u, hu, ru⟩ := rv.get hx
    have hel : e < s.heap.objs.size := Heap.lt_size he
    have hil : it < s.heap.objs.size := by obtain ⟨_, q, _⟩ := hit; exact Heap.lt_size q
    have nai : a ≠ it := by
      intro z
      obtain ⟨o1, q1, c1, _⟩ := pT
      obtain ⟨o2, q2, c2, _⟩ := hit
      rw [z, q2] at q1
      cases q1
      rw [c2] at c1
      exact absurd c1 (by decide)
    have nea : e ≠ a := by
      intro z
      obtain ⟨o1, q1, c1, _⟩ := pT
      have q2 := he
      rw [z] at q2
      unfold IsEnum at q2
      rw [q1] at q2
      cases q2
      exact absurd (show Value.type "enumerate" = Value.type "tuple" from c1) (by decide)
    have hil2 : i < its.toArray.size := by
      have := (List.getElem?_eq_some_iff.mp hu).1
      simpa using this
    refine wpAny_pyNext_enum_itemD (drawsT (A := X.A.in1) (I.ok.hd hc) it a nai its.toArray) he ⟨hit, pT⟩ hil2 hne (by simp [hne, nea]) fun y h' tk hy ho hst hT hsz hk => ?_
    have hyu : y = u := by
      have h1 : its.toArray[i]? = some u := by simpa using hu
      rw [h1] at hy
      exact (Option.some.inj hy).symm
    subst hyu
    refine ⟨_, rfl, wpAny_letOwnedTupleGo_enum (s := { s with heap := h', toks := tk + 1 }) ho fun h'' he' sb => ?_⟩
    have hT2 : h''.get? s.heap.objs.size = some { cls := .type "tuple", data := .seq #[.int i tk, y] } := (sb.2 _ (Nat.ne_of_gt hel)).trans hT
    have nw : ObjOk X.prog X.w (upd H s.heap.objs.size (.tup [.int (i : Nat), x])) h'' s.heap.objs.size (.tup [.int (i : Nat), x]) :=
      ⟨by show 2 ≤ sizeLine; decide, [.int i tk, y], .cons ⟨_, rfl⟩ (.cons ru .nil), ⟨_, hT2, rfl, _, rfl⟩⟩
    have I1 : L2.Inv X pins σ (upd H s.heap.objs.size (.tup [.int (i : Nat), x])) { s with heap := h'', toks := tk + 1 } :=
      I.turnedNew (ch := [e, it]) (fun b ob hb q => (sb.2 b (fun z => hb (by simp [z]))).trans (hk b ob (fun z => hb (by simp [z])) (fun z => hb (by simp [z])) q)) hf (Nat.le_refl _) nw
    refine ⟨.ref s.heap.objs.size, _, I1, rfl, ⟨_, x, rfl, I.hok.fresh (Nat.le_refl _), rfl, fun ys hy => by rw [I.tuple_inj hy hq]; exact hx⟩, ⟨⟨y, ?_⟩, hst.1.at fun o q => (sb.2 it (Ne.symm hne)).trans q, hne⟩, fun b hb => ?_⟩
    · have e1 : ((i + 1 : Nat) : Int) = (i : Int) + 1 := by omega
      rw [e1]; exact he'
    · have hb' : b < s.heap.objs.size := by
        have e' : b = e ∨ b = it := by simpa using hb
        rcases e' with z | z
        · rw [z]; exact hel
        · rw [z]; exact hil
      rw [upd_ne (Nat.ne_of_lt hb')]
      exact (hf b hb).1
  done := by
    intro X hP hw hK hc i pins s σ H E I hf st hg
    subst hP hw hK
    obtain ⟨⟨old, he⟩, hit, hne⟩ := st
    obtain ⟨xs, hq, hx⟩ := hg
    obtain ⟨its, rv, pt, hz⟩ := I.tuple hq
    have pT : s.heap.IsTuple a its.toArray := pt
    obtain ⟨f0, f1, f2, f3, f4, f5⟩ := hf it (by simp)
    have hl := rv.length
    have nai : a ≠ it := by
      intro z
      obtain ⟨o1, q1, c1, _⟩ := pT
      obtain ⟨o2, q2, c2, _⟩ := hit
      rw [z, q2] at q1
      cases q1
      rw [c2] at c1
      exact absurd c1 (by decide)
    have hT : s.TypeIs (.ref e) "enumerate" := ⟨_, he, rfl⟩
    unfold pyNext
    refine wpAny_bind (wpAny_attempt (wpAny_callSpecial?_slot (name := Str.ofString "__next__") hT F.slot_enumerate_next (wpAny_call_entry F.slot_enumerate_next hT F.entry_enumerate_next ?_ (F.args_enumerate_next_1 _))))
    show wpAny _ _ (field (.ref e) 2 >>= _) _ _ _
    refine wpAny_bind (wpAny_field he rfl (x := .ref it) rfl (wpAny_bind (endT (A := X.A.in1) (I.ok.hd hc) hit pT (by simp; omega) fun h' x he' hx' => ?_)))
    obtain ⟨o, ho, hc'⟩ := hx'
    exact wpAny_bind (wpAny_isInstance (T := "StopIteration") (b := true) ⟨o, ho, hc'⟩ isSubtype_stop (wpAny_pure ⟨rfl, I.turned (t' := s.toks) (fun b o hb q => he' b o hb q) f0 f1 f3 f4 f5⟩))
  self := fun A i s Q E st h => let ⟨⟨_, he⟩, _⟩ := st; wpAny_pyIter_enum he h
def enumD (xs : List D) : List D := xs.zipIdx.map fun p => .tup [.int (p.2 : Nat), p.1]
def iEn (m : ME) : MI := fun env => bd (m env) fun d S => match d with
  | .tup xs => some (⟨none, enumD xs⟩, S)
  | _ => none
section
variable {X : Cx} {Γ : Gm} {e : Expr} {m : ME} {p pos tpos : Pos} {elts : List Expr} {kk : Nat}
theorem ite_ok (hK : Γ.K = X.K) {μ : List Addr} {H : Hp} {xs : List D} {v : V} (r : Rel Γ μ H (.tup xs) v) : ∃ a, v = .ref a ∧ (∃ vs, SqT X.K H a vs) ∧ ItR Γ μ H ⟨none, enumD xs⟩ (IteT X.K a) := by
  obtain ⟨a, vs, rfl, st, rl⟩ := r
  have hl : (enumD xs).length = vs.length := by simp [enumD, rl.length]
  refine ⟨a, rfl, ⟨vs, by rw [← hK]; exact st.sqT⟩, fun μ2 H2 S2 e s _ i hi => ?_, fun μ2 H2 S2 e s _ i x H' d hd hy => ?_, fun μ2 H2 S2 e s _ => ?_⟩
  · have hv : i < vs.length := by rw [← hl]; exact hi
    exact ⟨vs, vs[i], by rw [← hK]; exact (st.wk e).sqT, List.getElem?_eq_getElem hv⟩
  · obtain ⟨N, y, rfl, hN, rfl, hy⟩ := hy
    have h1 := hy vs (by rw [← hK]; exact (st.wk e).sqT)
    have hi : i < vs.length := (List.getElem?_eq_some_iff.mp h1).1
    have hi2 : i < xs.length := by rw [rl.length]; exact hi
    have hd' : d = .tup [.int (i : Nat), xs[i]] := by
      simp only [enumD, List.getElem?_map, List.getElem?_zipIdx, List.getElem?_eq_getElem hi2] at hd
      simpa using hd.symm
    subst hd'
    obtain ⟨w, h4, h5⟩ := rl.get (List.getElem?_eq_getElem hi2)
    rw [h1] at h4; cases h4
    obtain ⟨ea, sa⟩ := Ext.aside s (o := .tup [.int (i : Nat), y]) hN
    exact ⟨ea, sa, ⟨N, _, rfl, .inl ⟨.inl ⟨_, rfl, upd_same⟩, s.fresh hN⟩, .cons rfl (.cons (Rel.mono ea _ _ (Rel.wk e _ _ h5)) .nil)⟩⟩
  · exact ⟨vs, by rw [← hK]; exact (st.wk e).sqT, by rw [hl]; exact Nat.le_refl _⟩
theorem ki_en (hK : Γ.K = X.K) (hg : Gl X "enumerate") (hm : X.mg "enumerate" = none) (he : PE X e (T Γ m)) (hst : starEach [e] X.env = [(false, eval e X.env)] := by rfl) :
    PI X (.Tuple elts kk tpos) (.Call (.Name "enumerate" p) [e] [] pos) (TIm Γ (iEn m)) := by
  intro pins s σ H R I ⟨μ, env, S, it, S', hen, hs, hmm, q⟩
  obtain ⟨d, S1, h1, h2⟩ := bd_eq hmm
  try dsimp only at h2
  split at h2
  · rename_i xs
    cases h2
    have A1 : tCons (T Γ m) tNil σ H (fun vs H1 => ∃ a ws, vs = [.ref a] ∧ SqT X.K H1 a ws ∧ R (IteT X.K a) H1) := by
      refine ⟨μ, env, S, _, _, hen, hs, h1, fun μ1 H1 e1 s1 v rv => ?_⟩
      obtain ⟨a, rfl, ⟨ws, h3⟩, h4⟩ := ite_ok (X := X) hK rv
      exact ⟨a, ws, rfl, h3, q _ _ e1 s1 _ h4⟩
    refine Call_ (ld_blt I hg hm boot_enumerate (PyProof.Rows.callWith_type1 (thn (pa_cons he pa_nil hst pos pins s σ H _ I A1) fun us s1 ⟨vs, H1, I1, r1, q1⟩ => ?_) hst rfl))
    obtain ⟨a, ws, ex, hq, q⟩ := q1
    subst ex
    cases r1 with
    | cons r rr =>
      cases rr
      cases r
      obtain ⟨its, rv, p', hz⟩ := I1.tuple hq
      refine enumT (show s1.heap.IsTuple a its.toArray from p') fun h' he hit hk => wpAny_pyIter_enum he ?_
      have I2 : L2.Inv X pins σ H1 { s1 with heap := h' } := I1.kept (t' := s1.toks) hk
      refine ⟨s1.heap.objs.size + 1, [s1.heap.objs.size + 1, s1.heap.objs.size], _, _, H1, rfl, I2, turn_enumT a (s1.heap.objs.size + 1) s1.heap.objs.size, ⟨⟨.none, he⟩, hit, Nat.succ_ne_self _⟩, fun b hb => ?_, q⟩
      have e' : b = s1.heap.objs.size + 1 ∨ b = s1.heap.objs.size := by simpa using hb
      have hle : s1.heap.objs.size ≤ b := by
        rcases e' with z | z
        · rw [z]; exact Nat.le_add_right _ _
        · rw [z]; exact Nat.le_refl _
      exact I1.fpOk hle (I1.hok.fresh hle)
  · cases h2
end
end Ev
namespace Ev
open PySem PySem.Spec PyProof.Rows L2
/-! ### three names at once -/
def tPar3 (i j k : Nat) (ta : TA) : TS := fun D σ H => ta σ H fun vs H1 => ∃ u v w, vs = [u, v, w] ∧ D.nx (((σ.set i (some u)).set j (some v)).set k (some w)) H1
def sPar3 (i j k : Nat) (ml : DEnv → M (List D)) : MS := fun env => bd (ml env) fun xs => match xs with
  | [x, y, z] => ret (.nx (((env.set i (some x)).set j (some y)).set k (some z)))
  | _ => no
section
variable {X : Cx} {Γ : Gm} {a b c : Expr} {pos : Pos}
end
end Ev

/-! A method, called on an instance. -/
namespace Ev
open PySem PySem.Spec PyProof.Rows L2
structure OkM (P : Program) (w : World) (K : PySem.W.Frag) (mg : Str → Option Value) (base : Heap) (Γ : Gm) (c : Nat) (m qual : Str) (st : Stmt) (ps : List Str) (k : Nat) (mf : List D → M D) : Prop where
  ex : ∃ f fd, Fun K m qual st f fd ∧ FnOk P w K mg base CX0 k f fd ps (spM Γ ps.length mf) ∧ Meth K (Γ.cl c) m f ∧ Binds K fd ps [] ∧ Cls K (Γ.cl c)
structure DefM (K : PySem.W.Frag) (C : Addr) (m qual : Str) (st : Stmt) (ps : List Str) : Prop where
  ex : ∃ f fd, Fun K m qual st f fd ∧ Meth K C m f ∧ Binds K fd ps [] ∧ Cls K C
def mMth (c : Nat) (m : Str) (mf : List D → M D) (o : ME) (a : DEnv → M (List D)) : ME := fun env => bd (o env) fun x S => match x with
  | .loc n => match S[n]? with
    | some (.ins c' fs) => if c' = c ∧ fGet fs m = none then bd (a env) (fun xs => mf (.loc n :: xs)) S else none
    | _ => none
  | _ => none
section
variable {P : Program} {w : World} {K : PySem.W.Frag} {mg : Str → Option Value} {base : Heap} {Γ : Gm}
end
section
variable {X : Cx} {Γ : Gm} {k j n c : Nat} {ps ks : List Str} {mf : List D → M D} {m qual : Str} {st : Stmt} {apos pos : Pos} {o e : Expr} {es : List Expr} {mo : ME} {ml mk : DEnv → M (List D)} {kws : List Keyword}
end
end Ev

/-! A method, called on an instance by names alone. -/
namespace Ev
open PySem PySem.Spec PyProof.Rows L2
def mMthK (c : Nat) (m : Str) (mf : List D → M D) (g : List D → List D → List D) (o : ME) (a : DEnv → M (List D)) : ME := fun env => bd (o env) fun x S => match x with
  | .loc n => match S[n]? with
    | some (.ins c' fs) => if c' = c ∧ fGet fs m = none then bd (a env) (fun ys => mf (g [.loc n] ys)) S else none
    | _ => none
  | _ => none
section
variable {X : Cx} {Γ : Gm} {k j n c : Nat} {ps ks : List Str} {mf : List D → M D} {m qual : Str} {st : Stmt} {apos pos : Pos} {o e : Expr} {es : List Expr} {mo : ME} {ml mk : DEnv → M (List D)} {kws : List Keyword}
end
end Ev

/-! in, not in; bool; a keyword's default left out, by places and by names; list(range(..)). -/
namespace Ev
open PySem PySem.Spec PyProof.Rows L2

/-! ### in, not in: a list's or tuple's items as data -/
def seqOf : PyData → Option (List PyData)
  | .list xs => some xs
  | .tuple xs => some xs
  | _ => none
def inD (S : Sto) (x y : D) : Option Bool := match dat S x, dat S y with
  | some p, some q => match seqOf q with
    | some xs => if (SeqAt.shaped p && SeqAt.shaped q) = true then some (xs.any fun z => PyData.eqv z p) else none
    | none => none
  | _, _ => none
def oIn (neg : Bool) : D → D → M D := fun x y S => match inD S x y with
  | some b => some (.bl (b != neg), S)
  | none => none
section
variable {X : Cx} {Γ : Gm}
end

/-! ### bool -/
def bBool : List D → M D := fun xs S => match xs with
  | [.int i] => some (.bl (i != 0), S)
  | [.bl b] => some (.bl b, S)
  | _ => none
section
variable {X : Cx} {Γ : Gm}
end

/-! ### a keyword's default -/
def dflV : D → V
  | .non => .non
  | .int i => .int i
  | .bl b => .bl b
  | _ => .non
def Dfl (d : D) (u : Value) : Prop := match d with
  | .non => u = .none
  | .int i => ∃ t, u = .int i t
  | .bl b => u = .bool b
  | _ => False
theorem Dfl.vals {d : D} {u : Value} (h : Dfl d u) : Vals [dflV d] [u] := by
  cases d with
  | non => cases h; exact .cons rfl .nil
  | int i => exact .cons h .nil
  | bl b => cases h; exact .cons rfl .nil
  | _ => exact h.elim
theorem Dfl.rel {d : D} {u : Value} (h : Dfl d u) {Γ : Gm} {μ : List Addr} {H : Hp} : RelL Γ μ H [d] [dflV d] := by
  cases d with
  | non => exact .cons rfl .nil
  | int i => exact .cons rfl .nil
  | bl b => exact .cons rfl .nil
  | _ => exact h.elim
/-- a def whose last parameter nm, by name alone, is d where it is left out -/
structure DefE (K : PySem.W.Frag) (mg : Str → Option Value) (x : Str) (st : Stmt) (ps : List Str) (nm : Str) (d : D) : Prop where
  ex : ∃ f kd doc pm an cd ct u, Fun K x x st f (PySem.W.fnOf x x (defArgs st) (defBody st) (defScope st) .none (.ref kd) doc pm an cd ct) ∧ mg x = some (.ref f) ∧ PySem.W.nsIn K kd nm = some (some u) ∧ Dfl d u ∧ Binds K (PySem.W.fnOf x x (defArgs st) (defBody st) (defScope st) .none (.ref kd) doc pm an cd ct) ps [u]
structure OkE (P : Program) (w : World) (K : PySem.W.Frag) (mg : Str → Option Value) (base : Heap) (Γ : Gm) (x : Str) (st : Stmt) (ps : List Str) (k : Nat) (mf : List D → M D) (nm : Str) (d : D) : Prop where
  ex : ∃ f kd doc pm an cd ct u, Fun K x x st f (PySem.W.fnOf x x (defArgs st) (defBody st) (defScope st) .none (.ref kd) doc pm an cd ct) ∧ mg x = some (.ref f) ∧ PySem.W.nsIn K kd nm = some (some u) ∧ Dfl d u ∧ Binds K (PySem.W.fnOf x x (defArgs st) (defBody st) (defScope st) .none (.ref kd) doc pm an cd ct) ps [u] ∧
    FnOk P w K mg base CX0 k f (PySem.W.fnOf x x (defArgs st) (defBody st) (defScope st) .none (.ref kd) doc pm an cd ct) ps (spM Γ ps.length mf)
section
variable {P : Program} {w : World} {K : PySem.W.Frag} {mg : Str → Option Value} {base : Heap} {Γ : Gm}
end
/-- those given, by their numbers, and the one left out -/
def gE (n m : Nat) (is : List Nat) (d : D) (xs ys : List D) : List D := gI n m is xs ys ++ [d]
section
variable {X : Cx} {Γ : Gm} {k j n : Nat} {ps ks : List Str} {mf : List D → M D} {x nm : Str} {d : D} {st : Stmt} {p pos : Pos} {e : Expr} {es : List Expr} {ml mk : DEnv → M (List D)} {kws : List Keyword}
end
end Ev

/-! Comprehensions with two for. -/
namespace Ev
open PySem PySem.Spec PyProof.Rows L2
def loopC2 (it : Its) (g : MG) (tt : ME) (mi1 : MI) (g1 : MG) (tt1 te : ME) (vs1 : List Nat) (env : DEnv) : List D → M (List D)
  | [] => fun S => if Gd it S = true then some ([], S) else none
  | x :: xs => fun S => if Gd it S = true then (bd (g x env) fun e1 => bd (tt e1) fun b => match b with
    | .bl true => bd (mi1 e1) fun it1 => bd (loopC it1 g1 tt1 te (wipeD e1 vs1) it1.xs) fun ds => bd (loopC2 it g tt mi1 g1 tt1 te vs1 env xs) fun es => ret (ds ++ es)
    | .bl false => loopC2 it g tt mi1 g1 tt1 te vs1 env xs
    | _ => no) S else none
def mLc2 (mi : MI) (g : MG) (tt : ME) (mi1 : MI) (g1 : MG) (tt1 te : ME) (vs vs1 : List Nat) : ME := fun env => bd (mi env) fun it => bd (loopC2 it g tt mi1 g1 tt1 te vs1 (wipeD env vs) it.xs) fun ds => fun S => if ds.length ≤ sizeLine then new (.lst ds) S else none
theorem Wk.refl (μ : List Addr) (H : Hp) : Wk μ H μ H := ⟨fun _ _ h n => ⟨h, n⟩, fun _ _ h => h⟩
theorem Wk.trans {μ μ1 μ2 : List Addr} {H H1 H2 : Hp} (a : Wk μ H μ1 H1) (b : Wk μ1 H1 μ2 H2) : Wk μ H μ2 H2 := ⟨fun c u h n => let z := a.fx c u h n; b.fx c u z.1 z.2, fun n c h => b.ix n c (a.ix n c h)⟩
section
variable {X : Cx} {Γ : Gm} {mi mi1 : MI} {g g1 : MG} {tt tt1 te : ME} {ws ws1 vs vs1 : List Nat}
section
variable {elt tg iter tg1 iter1 : Expr} {ifs ifs1 : List Expr} {scope : Scope} {own own1 : List (Str × Nat)} {pos spos py : Pos}
end
end
end Ev

/-! enumerate(t, start=k). -/
namespace Ev
open PySem PySem.Spec PyProof.Rows L2
section
variable {prog : Program} {w : World} {A : Around} {E : Value → Shared → Prop} {s : Shared}
open AutoSeq1 (wpAny_loadPart') in
end
/-- the tuple at a, each item in a new pair with its number from k on -/
def IteS (K : PySem.W.Frag) (k : Nat) (a : Addr) : It :=
  ⟨fun i H => ∃ (xs : List V) (x : V), SqT K H a xs ∧ xs[i]? = some x, fun i H v H' => ∃ N x, v = .ref N ∧ H N = none ∧ H' = upd H N (.tup [.int ((k + i : Nat) : Int), x]) ∧ ∀ xs, SqT K H a xs → xs[i]? = some x, fun i H => ∃ xs : List V, SqT K H a xs ∧ xs.length ≤ i⟩
def enumS (k : Nat) (xs : List D) : List D := xs.zipIdx.map fun p => .tup [.int ((k + p.2 : Nat) : Int), p.1]
/-- enumerate(m, start=mk), of a tuple and a number from 0 on -/
def iEnS (m mk : ME) : MI := fun env => bd (m env) fun d => bd (mk env) fun e => fun S => match d, e with
  | .tup xs, .int k => if 0 ≤ k ∧ k < 2 ^ 31 then some (⟨none, enumS k.toNat xs⟩, S) else none
  | _, _ => none
section
variable {X : Cx} {Γ : Gm} {e e2 : Expr} {m m2 : ME} {p pos tpos kp : Pos} {elts : List Expr} {kk : Nat}
end
end Ev

/-! list(range(a, b)). -/
namespace Ev
open PySem PySem.Spec PyProof.Rows L2
def mListR (ml : DEnv → M (List D)) : ME := fun env => bd (ml env) fun xs S => match xs with
  | [.int i, .int j] => if -(2 ^ 62) ≤ i ∧ i < 2 ^ 62 ∧ -(2 ^ 62) ≤ j ∧ j < 2 ^ 62 ∧ (j - i).toNat ≤ 1000 then new (.lst (rng i (j - i).toNat)) S else none
  | _ => none
section
variable {X : Cx} {Γ : Gm} {a b : Expr} {ml : DEnv → M (List D)} {p p2 pos pos2 : Pos}
/-! {} -/
def mDict0 : ME := fun _ => new (.dic [])
end
end Ev

/-! One argument's place, by its form (quicker than to reckon it). -/
namespace Ev
open PySem PySem.Spec PyProof.Rows L2
section
variable {env : Env} {es : List Expr} {pos : Pos}
end
end Ev

/-! That no argument is starred, by the arguments' forms (quicker than to reckon it). -/
namespace Ev
open PySem PySem.Spec PyProof.Rows L2
section
variable {env : Env} {e : Expr} {es : List Expr} {pos : Pos}
theorem hf_app {cpos : Pos} (h : starEach [e] env = (false, eval e env) :: starEach [] env) : ((backTo cpos (starEach [e] env)).all (fun x => !x.1) && (backToKw cpos (keywordEach [] env)).all (fun x => x.1.isSome)
      && decide ([e].length + ([] : List Keyword).length + (if ([] : List Keyword).isEmpty then 0 else 1) < 30)) = true := by
  rw [h]
  rfl
end
end Ev

/-! The same by a word about the argument alone: nothing of the other arguments is looked at. -/
namespace Ev
open PySem PySem.Spec PyProof.Rows L2
structure St1 (e : Expr) : Prop where
  h : ∀ (es : List Expr) (env : Env), starEach (e :: es) env = (false, eval e env) :: starEach es env
structure Sts (es : List Expr) : Prop where
  h : ∀ (pos : Pos) (env : Env), (backTo pos (starEach es env)).any (·.1) = false
section
variable {pos : Pos}
theorem u_Call {f : Expr} {as : List Expr} {ks : List Keyword} : St1 (.Call f as ks pos) := ⟨fun _ _ => rfl⟩
theorem u_Tuple {as : List Expr} {k : Nat} : St1 (.Tuple as k pos) := ⟨fun _ _ => rfl⟩
theorem u_List {as : List Expr} : St1 (.List as pos) := ⟨fun _ _ => rfl⟩
theorem u_Name {x : Str} : St1 (.Name x pos) := ⟨fun _ _ => rfl⟩
theorem u_Constant {c : Const} {k : Nat} : St1 (.Constant c k pos) := ⟨fun _ _ => rfl⟩
theorem u_BinOp {a b : Expr} {op : Operator} : St1 (.BinOp a op b pos) := ⟨fun _ _ => rfl⟩
theorem u_Subscript {a b : Expr} : St1 (.Subscript a b pos) := ⟨fun _ _ => rfl⟩
theorem u_Compare {a : Expr} {ops : List CmpOp} {bs : List Expr} : St1 (.Compare a ops bs pos) := ⟨fun _ _ => rfl⟩
theorem u_Attribute {a : Expr} {x : Str} : St1 (.Attribute a x pos) := ⟨fun _ _ => rfl⟩
theorem u_ListComp {e : Expr} {gs : List Comprehension} {sc : Scope} : St1 (.ListComp e gs sc pos) := ⟨fun _ _ => rfl⟩
end
theorem u_nil : Sts [] := ⟨fun _ _ => rfl⟩
theorem u_cons {e : Expr} {es : List Expr} (h : St1 e) (hs : Sts es) : Sts (e :: es) := ⟨fun pos env => by rw [h.h]; exact hs.h pos env⟩
section
variable {X : Cx} {Γ : Gm} {k j n : Nat} {ps ks : List Str} {mf : List D → M D} {x : Str} {st : Stmt} {p pos : Pos} {e : Expr} {es : List Expr} {ml mk : DEnv → M (List D)} {kws : List Keyword} {dd : List D} {ma mo : ME} {id T' : String} {o : Expr} {apos cpos : Pos}
theorem ka_c (ha : PE X e (T Γ ma)) (hr : PA X es (TAm Γ ml)) (hs : St1 e) : PA X (e :: es) (TAm Γ (mCons ma ml)) := ka_cons ha hr (hs.h _ _)
theorem kcS (G : Ok X.prog X.w X.K X.mg X.base Γ x st ps k mf) (hr : Room j X.A) (hj : k ≤ j) (few : Few ps.length ml) (ha : PA X (e :: es) (TAm Γ ml)) (he : St1 e) (hpl : Sts es) (hg : Gl X x := by rfl)
    (hdb : (x == ("__debug__" : Str)) = false := by decide) : PE X (.Call (.Name x p) (e :: es) [] pos) (T Γ (mCall mf ml)) := kc G hr hj few ha hg hdb (he.h _ _) (hpl.h _ _)
theorem k_bltS (hc : CallR X (.builtin id) (RLm Γ mf)) (hg : Gl X x) (hm : X.mg x = none) (hv : bootBuiltins x = some (.builtin id)) (ha : PA X (e :: es) (TAm Γ ml)) (he : St1 e) (hpl : Sts es) (hn : x ≠ "__name__" := by decide) (hdb : (x == ("__debug__" : Str)) = false := by decide) :
    PE X (.Call (.Name x p) (e :: es) [] pos) (T Γ (mB mf ml)) := k_blt hc hg hm hv ha hn hdb (he.h _ _) (hpl.h _ _)
theorem k_tyS (hc : CallR X (.type T') (RLm Γ mf)) (hg : Gl X x) (hm : X.mg x = none) (hv : bootBuiltins x = some (.type T')) (ha : PA X (e :: es) (TAm Γ ml)) (he : St1 e) (hpl : Sts es) (hn : x ≠ "__name__" := by decide) (hdb : (x == ("__debug__" : Str)) = false := by decide) :
    PE X (.Call (.Name x p) (e :: es) [] pos) (T Γ (mB mf ml)) := k_ty hc hg hm hv ha hn hdb (he.h _ _) (hpl.h _ _)
theorem k_appS (ho : PE X o (T Γ mo)) (ha : PA X [e] (TAm Γ ml)) (he : St1 e) (hbase : attributeBase o "append" X.env (eval o X.env) = eval o X.env := by rfl) (hline : (apos.endLine == cpos.line) = true := by rfl) :
    PE X (.Call (.Attribute o "append" apos) [e] [] cpos) (T Γ (mMt nApp mo ml)) := k_app ho ha hbase (hf_app (he.h _ _)) hline (he.h _ _) rfl
end
end Ev

/-! A class made with some keywords left out. -/
namespace Ev
open PySem PySem.Spec PyProof.Rows L2
/-- it tells this, and changes nothing -/
def Lks {β : Type} (s : Shared) (m : Sem β) (b : β) : Prop := ∀ (M : Model) (A : Around) (E : Value → Shared → Prop) (Q : β → Shared → Prop), Q b s → wpAny M A m Q E s
section
variable {K : PySem.W.Frag} {s : Shared} {fd : FuncData} {args : Args} {binds : List (Str × Value)} {kd : Addr} {x : Str} {u : Value} {β γ : Type}
theorem lks_pure {m : Sem β} {b : β} (h : m = pure b) : Lks s m b := fun M A E Q q => by rw [h]; exact wpAny_pure q
theorem lks_one {f : Option Value → Sem β} {g : β → Sem γ} {m : Sem γ} {b : β} {c : γ} (X : K.In s.heap) (e : PySem.W.nsIn K kd x = some (some u)) (h1 : m = (nsGet kd x >>= f) >>= g) (h2 : f (some u) = pure b) (h3 : Lks s (g b) c) : Lks s m c := fun M A E Q q => by
  rw [h1]
  refine wpAny_bind (wpAny_bind ((PySem.W.looks_nsIn X e).here ?_))
  rw [h2]
  refine wpAny_pure ?_
  exact h3 M A E Q q
theorem binds_more {f : Option Value → Sem β} {g : β → Sem γ} {k : γ → Sem (List (Str × Value))} {b : β} {c : γ} (X : K.In s.heap) (e : PySem.W.nsIn K kd x = some (some u))
    (h1 : bindArgs fd args = ((nsGet kd x >>= f) >>= g) >>= k) (h2 : f (some u) = pure b) (h3 : Lks s (g b) c) (h4 : k c = pure binds) : BindsTo s fd args binds := fun M A E Q hq => by
  rw [h1]
  refine wpAny_bind (wpAny_bind (wpAny_bind ((PySem.W.looks_nsIn X e).here ?_)))
  rw [h2]
  refine wpAny_pure ?_
  refine h3 M A E _ ?_
  rw [h4]
  exact wpAny_pure hq
end
/-- a default, as it stands in the known heap -/
structure DfV (K : PySem.W.Frag) (d : D) (u : Value) (v : V) : Prop where
  val : Vals [v] [u]
  rel : ∀ (Γ : Gm) (μ : List Addr) (H : Hp), Γ.K = K → Rel Γ μ H d v
theorem DfV.non {K : PySem.W.Frag} : DfV K .non .none .non := ⟨.cons rfl .nil, fun _ _ _ _ => rfl⟩
theorem DfV.int {K : PySem.W.Frag} {i : Int} {t : Tok} : DfV K (.int i) (.int i t) (.int i) := ⟨.cons ⟨t, rfl⟩ .nil, fun _ _ _ _ => rfl⟩
theorem DfV.tup0 {K : PySem.W.Frag} {a : Addr} {o : Option Addr} {n : Nat} {sl : Array (Option Value)} (h : K.lookup a = some ⟨.type "tuple", o, .seq #[] n, sl⟩) : DfV K (.tup []) (.ref a) (.ref a) :=
  ⟨.cons rfl .nil, fun Γ μ H e => by subst e; exact ⟨a, [], rfl, .inr ⟨_, #[], n, h, rfl, fun z => absurd z (by decide), rfl, by decide, .nil⟩, rfl⟩⟩
/-- the defaults of an __init__, by their names -/
inductive Dfs (K : PySem.W.Frag) (kd : Addr) : List Str → List D → List Value → List V → Prop
  | nil : Dfs K kd [] [] [] []
  | cons {x : Str} {d : D} {u : Value} {v : V} {xs : List Str} {ds : List D} {us : List Value} {vs : List V} (e : PySem.W.nsIn K kd x = some (some u)) (h : DfV K d u v) (t : Dfs K kd xs ds us vs) : Dfs K kd (x :: xs) (d :: ds) (u :: us) (v :: vs)
theorem Dfs.vals {K : PySem.W.Frag} {kd : Addr} {xs : List Str} {ds : List D} {us : List Value} {vs : List V} (h : Dfs K kd xs ds us vs) : Vals vs us := by
  induction h with
  | nil => exact .nil
  | cons e h t ih => exact h.val.append ih
theorem Dfs.rel {K : PySem.W.Frag} {kd : Addr} {xs : List Str} {ds : List D} {us : List Value} {vs : List V} (h : Dfs K kd xs ds us vs) {Γ : Gm} {μ : List Addr} {H : Hp} (e : Γ.K = K) : RelL Γ μ H ds vs := by
  induction h with
  | nil => exact RelL.nil
  | cons e1 h t ih => exact .cons (h.rel Γ μ H e) ih
theorem Dfs.len {K : PySem.W.Frag} {kd : Addr} {xs : List Str} {ds : List D} {us : List Value} {vs : List V} (h : Dfs K kd xs ds us vs) : ds.length = xs.length ∧ us.length = xs.length := by
  induction h with
  | nil => exact ⟨rfl, rfl⟩
  | cons e1 h t ih => simp [ih.1, ih.2]
/-- as MkD, with the defaults of the keywords nms -/
structure MkE (P : Program) (w : World) (K : PySem.W.Frag) (mg : Str → Option Value) (base : Heap) (Γ : Gm) (x qual : Str) (st : Stmt) (c : Nat) (ps : List Str) (k : Nat) (mf : List D → M D) (nms : List Str) (dds : List D) : Prop where
  ex : ∃ f kd doc pm an cd ct us vs, Fun K "__init__" qual st f (PySem.W.fnOf "__init__" qual (defArgs st) (defBody st) (defScope st) .none (.ref kd) doc pm an cd ct) ∧
    FnOk P w K mg base CX0 k f (PySem.W.fnOf "__init__" qual (defArgs st) (defBody st) (defScope st) .none (.ref kd) doc pm an cd ct) ps (spM Γ ps.length mf) ∧ mg x = some (.ref (Γ.cl c)) ∧ Mk K (Γ.cl c) f ∧ Dfs K kd nms dds us vs ∧ Γ.K = K
/-- those given and those left out, by their numbers: the given ones by place, those by name, the defaults -/
def gF {α : Type} (n m : Nat) (is : List Nat) (ds xs ys : List α) : List α := if xs.length = n ∧ ys.length = m then is.filterMap fun i => (xs ++ ys ++ ds)[i]? else []
theorem gF_eq {α : Type} {n m : Nat} {is : List Nat} {ds xs ys : List α} : gF n m is ds xs ys = gI n (m + ds.length) is xs (ys ++ ds) := by
  unfold gF gI
  by_cases c : xs.length = n ∧ ys.length = m
  · rw [if_pos c, if_pos ⟨c.1, by rw [List.length_append, c.2]⟩, List.append_assoc]
  · rw [if_neg c, if_neg]
    intro z
    rw [List.length_append] at z
    exact c ⟨z.1, by omega⟩
section
variable {X : Cx} {Γ : Gm} {k j n c : Nat} {ps ks : List Str} {mf : List D → M D} {x qual : Str} {st : Stmt} {p pos : Pos} {e : Expr} {es : List Expr} {ml mk : DEnv → M (List D)} {kws : List Keyword} {nms : List Str} {dds : List D}
theorem permF {f kd : Addr} {doc pm : Value} {an : Option Addr} {cd ct : Value} {us0 : List Value} {vs0 : List V} (is : List Nat) (hl : is.length = ps.length) (hp : 0 < ps.length) (hi : ∀ i ∈ is, i < n + (ks.length + dds.length)) (h3 : Dfs X.K kd nms dds us0 vs0) (hK : Γ.K = X.K)
    (h : ∀ (us ws : List Value) (s : Shared), X.K.In s.heap → us.length = n → ws.length = ks.length →
      BindsTo s (PySem.W.fnOf "__init__" qual (defArgs st) (defBody st) (defScope st) .none (.ref kd) doc pm an cd ct) ⟨us, ks.zip ws⟩ (ps.zip (gF n ks.length is us0 us ws))) :
    ∃ (gU : List Value → List Value → List Value) (gV : List V → List V → List V), KBinds X.K (PySem.W.fnOf "__init__" qual (defArgs st) (defBody st) (defScope st) .none (.ref kd) doc pm an cd ct) ps ks gU gV ∧
    ∀ (μ : List Addr) (H : Hp) (xs ys : List D) (vs ws : List V), xs.length = n → ys.length = ks.length → RelL Γ μ H xs vs → RelL Γ μ H ys ws → RelL Γ μ H (gF n ks.length is dds xs ys) (gV vs ws) ∧ (gF n ks.length is dds xs ys).length = ps.length := by
  have l1 : us0.length = dds.length := by rw [h3.len.1, h3.len.2]
  have l2 : vs0.length = dds.length := by rw [h3.vals.length, l1]
  refine ⟨fun us ws => gF n ks.length is us0 us ws, fun vs zs => gF n ks.length is vs0 vs zs, ⟨fun s us ws hk e => ?_, fun {vs us zs ws} r r' => ?_⟩, fun μ H xs ys vs ws h1 h2 r r' => ?_⟩
  · by_cases c : us.length = n ∧ ws.length = ks.length
    · exact h us ws s hk c.1 c.2
    · have : gF n ks.length is us0 us ws = [] := by unfold gF; rw [if_neg c]
      rw [this] at e
      simp at e
      omega
  · unfold gF
    by_cases c : vs.length = n ∧ zs.length = ks.length
    · rw [if_pos c, if_pos ⟨by rw [← r.length]; exact c.1, by rw [← r'.length]; exact c.2⟩]
      exact Vals.pick ((r.append r').append h3.vals) fun i h => by rw [List.length_append, List.length_append, c.1, c.2, l2]; have := hi i h; omega
    · rw [if_neg c, if_neg (by rw [← r.length, ← r'.length]; exact c)]
      exact .nil
  · constructor
    · dsimp only
      unfold gF
      rw [if_pos ⟨h1, h2⟩, if_pos ⟨by rw [← r.length]; exact h1, by rw [← r'.length]; exact h2⟩]
      exact RelL.pick ((r.append r').append (h3.rel hK)) fun i h => by rw [List.length_append, List.length_append, h1, h2]; have := hi i h; omega
    · rw [gF_eq, gI_len h1 (by rw [List.length_append, h2]) hi]; exact hl
theorem kmkE (is : List Nat) (G : MkE X.prog X.w X.K X.mg X.base Γ x qual st c ps k mf nms dds) (hr : Room j X.A) (hj : k + 1 ≤ j) (few : Few n ml) (few2 : Few ks.length mk) (hl : is.length = ps.length) (hi : (is.all fun i => decide (i < n + 1 + (ks.length + dds.length))) = true) (hp : 0 < ps.length)
    (h : ∀ (kd : Addr) (doc pm : Value) (an : Option Addr) (cd ct : Value) (us0 : List Value) (vs0 : List V) (us ws : List Value) (s : Shared), X.K.In s.heap → Dfs X.K kd nms dds us0 vs0 → us.length = n + 1 → ws.length = ks.length →
      BindsTo s (PySem.W.fnOf "__init__" qual (defArgs st) (defBody st) (defScope st) .none (.ref kd) doc pm an cd ct) ⟨us, ks.zip ws⟩ (ps.zip (gF (n + 1) ks.length is us0 us ws)))
    (ha : PA X (e :: es) (TAm Γ ml)) (hkw : PK X kws (TAm Γ mk)) (hg : Gl X x := by rfl) (hall : (backToKw pos (keywordEach kws X.env)).all (·.1.isSome) = true := by rfl) (hks : (backToKw pos (keywordEach kws X.env)).filterMap (·.1) = ks := by rfl)
    (hdb : (x == ("__debug__" : Str)) = false := by decide) (he : starEach (e :: es) X.env = (false, eval e X.env) :: starEach es X.env := by rfl)
    (hpl : ((backTo pos (starEach (e :: es) X.env)).any (·.1) || (backToKw pos (keywordEach kws X.env)).any (·.1.isNone)) = false := by rfl) :
    PE X (.Call (.Name x p) (e :: es) kws pos) (T Γ (mMake c mf (gF (n + 1) ks.length is dds) ml mk)) := by
  obtain ⟨f, kd, doc, pm, an, cd, ct, us0, vs0, h1, h2, h3, h4, h5, h6⟩ := G.ex
  obtain ⟨gU, gV, kb, hrel⟩ := permF (X := X) (Γ := Γ) (f := f) (n := n + 1) (ks := ks) is hl hp (fun i z => of_decide_eq_true (List.all_eq_true.mp hi i z)) h5 h6 (fun us ws s hk e1 e2 => h kd doc pm an cd ct us0 vs0 us ws s hk h5 e1 e2)
  intro pins s σ H Q I ⟨μ, env, S, d, S', hen, hs, hm, q⟩
  obtain ⟨xs, S1, m1, m2⟩ := bd_eq hm
  obtain ⟨ys, S2, m3, m4⟩ := bd_eq m2
  refine wpAny_Call_Name_kw (ld_glob I hg h3 ?_ hdb)
  have A1 : TAm Γ ml σ H (fun vs H1 => TAm Γ mk σ H1 fun zs H2 => ∀ x dx, H2 x = none → H2 dx = none → dx ≠ x → spM Γ ps.length mf (gV (.ref x :: vs) zs) (upd (upd H2 dx (.own x)) x (.ins (Γ.cl c) dx [])) (fun v H3 => v = .non ∧ Q (.ref x) H3) E0) := by
    refine ⟨μ, env, S, xs, S1, hen, hs, m1, fun μ1 H1 e1 s1 vs rv => ?_⟩
    refine ⟨μ1, env, S1, ys, S2, hen.mono e1, s1, m3, fun μ2 H2 e2 s2 zs rz x dx nx ndx nex => ?_⟩
    obtain ⟨ea, sa⟩ := Ext.aside s2 (o := .own x) ndx
    have nx' : upd H2 dx (.own x) x = none := by rw [upd_ne (Ne.symm nex)]; exact nx
    obtain ⟨eb, sb⟩ := Ext.laid sa (o := .ins (Γ.cl c) dx []) (q := .ins c []) nx' fun μ' H' e h' => ⟨dx, [], h', .nil⟩
    have e3 := ea.trans eb
    have rx : Rel Γ (μ2 ++ [x]) (upd (upd H2 dx (.own x)) x (.ins (Γ.cl c) dx [])) (.loc S2.length) (.ref x) := ⟨x, rfl, by rw [← s2.len]; simp⟩
    try dsimp only at m4
    split at m4
    · rename_i S9 em
      cases m4
      obtain ⟨q1, q2⟩ := hrel _ _ (.loc S2.length :: xs) ys (.ref x :: vs) zs (by rw [List.length_cons, few _ _ _ _ m1]) (few2 _ _ _ _ m3) (.cons rx (RelL.mono e3 _ _ (RelL.mono e2 _ _ rv))) (RelL.mono e3 _ _ rz)
      refine ⟨_, _, _, .non, _, sb, q1, q2, em, fun μ4 H4 e4 s4 v rv4 => ⟨rv4, ?_⟩⟩
      exact q _ _ (e1.trans (e2.trans (e3.trans e4))) s4 _ (Rel.mono e4 _ _ rx)
    · cases m4
  refine PySem.W.callWith_KW (h₀ := X.base) (first := []) I.ok.mod.kin h4.kp hall (thn (ha pos pins s σ H _ I A1) fun us s1 ⟨vs, H1, I1, r, q1⟩ => ?_) hpl he
  refine thn (hkw pos pins s1 σ H1 _ I1 q1) fun ws s2 ⟨zs, H2, I2, rz, q2⟩ => ⟨I2.kIn, ?_⟩
  rw [hks]
  exact run_makek h4 h2 (hr.mono hj) kb I2 r rz q2
end
end Ev

/-! Names out of a list or a tuple; the greatest of three. -/
namespace Ev
open PySem PySem.Spec PyProof.Rows L2
def gUp (n : Nat) (gs : List D → DEnv → M DEnv) : MG := fun d env S => match d with
  | .tup xs => if xs.length = n then gs xs env S else none
  | .loc m => match S[m]? with
    | some (.lst xs) => if xs.length = n then gs xs env S else none
    | _ => none
  | _ => none
def bMax3 : List D → M D := fun xs S => match xs with
  | [.int i, .int j] => some (.int (if j > i then j else i), S)
  | [.int i, .int j, .int k] => some (.int (if k > (if j > i then j else i) then k else (if j > i then j else i)), S)
  | _ => none
section
variable {X : Cx} {es : List Expr} {pos : Pos} {gs : List D → DEnv → M DEnv}
def gUpT (K : PySem.W.Frag) (n : Nat) (t : TGs) : TG := fun v σ H Q => ∃ a xs, v = .ref a ∧ (SqT K H a xs ∨ SqL K H a xs) ∧ xs.length = n ∧ t xs σ H Q
theorem pg_up {k : Nat} {t : TGs} {n : Nat} (hc : X.calm = true) (h : PGs X es t) (hn : (assignEach es X.env).length = n) (hst : (assignEach es X.env).findIdx? (·.1) = none) : PG X (.Tuple es k pos) (gUpT X.K n t) := by
  intro pins s σ H v u Q I r hw
  obtain ⟨a, xs, e1, hq, hl, hw⟩ := hw
  subst e1
  cases r
  rcases hq with hq | hq
  · obtain ⟨its, rv, ht, hz⟩ := I.tuple hq
    refine assign_Tuple_tuple (I.ok.hd hc) ht (by simp [hn, ← hl, rv.length]) hst fun h' hx => ?_
    have I1 : Inv X pins σ H { s with heap := h' } := I.kept (t' := s.toks) fun b o e => hx b o (Nat.ne_of_lt (Heap.lt_size e)) e
    exact h pins _ σ H xs _ Q I1 (by simpa using rv) hw
  · obtain ⟨its, rv, p, hz⟩ := I.list hq
    rw [assign_Tuple]
    refine wpAny_bind (wpAny_standAt ?_)
    unfold unpack
    rw [hn, hst]
    have hs : n = its.toArray.size := by simp [← hl, rv.length]
    rw [hs]
    refine wpAny_bind (wpAny_holding (PySem.W.kun_itemsOf (I.ok.hd hc) p.isList fun h' hx => ?_))
    have I1 : Inv X pins σ H { s with heap := h' } := I.kept (t' := s.toks) fun b o e => hx b o (Nat.ne_of_lt (Heap.lt_size e)) e
    exact h pins _ σ H xs _ Q I1 (by simpa using rv) hw
theorem kg_up {Γ : Gm} {ws : List Nat} {k n : Nat} (hK : Γ.K = X.K) (hc : X.calm = true) (h : PGs X es (TGsm Γ ws gs)) (hn : (assignEach es X.env).length = n := by rfl) (hst : (assignEach es X.env).findIdx? (·.1) = none := by rfl) : PG X (.Tuple es k pos) (TGm Γ ws (gUp n gs)) :=
  (pg_up hc h hn hst).imp fun v σ H Q ⟨μ, env, S, d, env', S', he, hs, rd, h, q⟩ => by
    cases d with
    | tup xs =>
      obtain ⟨p, vs, rfl, st, rl⟩ := rd
      simp only [gUp] at h
      split at h
      · rename_i hl
        rw [hK] at st
        exact ⟨p, vs, rfl, .inl st.sqT, by rw [← rl.length]; exact hl, μ, env, S, xs, env', S', he, hs, rl, h, q⟩
      · cases h
    | loc m =>
      simp only [gUp] at h
      split at h
      · rename_i xs e
        obtain ⟨a, vs, rfl, ha, hH, rl⟩ := hs.list rd e
        split at h
        · rename_i hl
          exact ⟨a, vs, rfl, .inr (SqL.of hH), by rw [← rl.length]; exact hl, μ, env, S, xs, env', S', he, hs, rl, h, q⟩
        · cases h
      · cases h
    | _ => cases h
theorem c_max3 {Γ : Gm} (hc : X.calm = true) : CallR X (.builtin "max") (RLm Γ bMax3) := by
  intro pins s σ H xs us Q I rv ⟨μ, S, ds, d, S', hs, rl, h, q⟩
  unfold bMax3 at h
  split at h
  · cases h
    obtain ⟨v, w, rfl, r1, r2⟩ := rl.two
    cases r1; cases r2
    exact call_max2 hc pins s σ H _ us Q I rv ⟨_, _, rfl, q.self hs _ rfl⟩
  · rename_i i j k
    cases h
    obtain ⟨v, _, rfl, h1, w, _, rfl, h2, z, _, rfl, h3, rfl⟩ := rl
    cases h1; cases h2; cases h3
    cases rv with
    | cons r1 rv =>
    cases rv with
    | cons r2 rv =>
    cases rv with
    | cons r3 rv =>
    cases rv
    obtain ⟨t1, rfl⟩ := r1
    obtain ⟨t2, rfl⟩ := r2
    obtain ⟨t3, rfl⟩ := r3
    refine PySem.max_three_ints (I.ok.hd hc) fun h' tk kk => ⟨_, H, I.kept kk, ?_, q.self hs _ rfl⟩
    by_cases a1 : j > i <;> by_cases a2 : k > j <;> by_cases a3 : k > i <;> simp only [a1, a2, a3, if_true, if_false] <;> exact ⟨_, rfl⟩
  · cases h
end
end Ev

section
set_option maxHeartbeats 4000000
/-! Reasoning about programs: what a program must give. -/
namespace Ev
open PySem L2

def isN : D → Bool
  | .non => true
  | .bl _ => false
  | .int _ => false
  | .str _ => false
  | .tup _ => false
  | .sq _ => false
  | .loc _ => false
theorem iN0 : isN .non = true := rfl
theorem iN1 {b : Bool} : isN (.bl b) = false := rfl
theorem iN2 {i : Int} : isN (.int i) = false := rfl
theorem iN3 {x : Str} : isN (.str x) = false := rfl
theorem iN4 {xs : List D} : isN (.tup xs) = false := rfl
theorem iN5 {n : Nat} : isN (.loc n) = false := rfl
def Run {α : Type} (m : M α) (S : Sto) (Q : α → Sto → Prop) : Prop := ∃ a S', m S = some (a, S') ∧ Q a S'
section
variable {α β : Type} {m : M α} {f : α → M β} {S : Sto} {Q : β → Sto → Prop} {R : α → Sto → Prop}
theorem Run.mono {R' : α → Sto → Prop} (h : Run m S R) (k : ∀ a S', R a S' → R' a S') : Run m S R' := by
  obtain ⟨a, S', e, q⟩ := h
  exact ⟨a, S', e, k a S' q⟩
theorem run_bd : Run (bd m f) S Q ↔ Run m S fun a S1 => Run (f a) S1 Q := by
  constructor
  · rintro ⟨b, S', e, q⟩
    obtain ⟨a, S1, h1, h2⟩ := bd_eq e
    exact ⟨a, S1, h1, b, S', h2, q⟩
  · rintro ⟨a, S1, h1, b, S', h2, q⟩
    exact ⟨b, S', by rw [bd_some h1]; exact h2, q⟩
theorem run_congr {R' : α → Sto → Prop} (k : ∀ a S', R a S' ↔ R' a S') : Run m S R ↔ Run m S R' := ⟨fun h => h.mono fun a S' => (k a S').mp, fun h => h.mono fun a S' => (k a S').mpr⟩
theorem run_ret {a : α} : Run (ret a) S R ↔ R a S := ⟨fun ⟨_, _, e, q⟩ => by cases e; exact q, fun q => ⟨a, S, rfl, q⟩⟩
theorem run_no : Run (no : M α) S R ↔ False := ⟨fun ⟨_, _, e, _⟩ => (by cases e), fun h => h.elim⟩
theorem run_some {a : α} {S' : Sto} (h : m S = some (a, S')) : Run m S R ↔ R a S' := ⟨fun ⟨b, S2, e, q⟩ => by rw [h] at e; cases e; exact q, fun q => ⟨a, S', h, q⟩⟩
end
/-- what is wanted behind a def's body, a statement, a turn -/
def onFn (Q : D → Sto → Prop) : Out → Sto → Prop
  | .rt d, S => Q d S
  | .nx _, S => Q .non S
  | .bk _, _ => False
  | .ct _, _ => False
def onSeq (t : MS) (R : Out → Sto → Prop) : Out → Sto → Prop
  | .nx e, S => Run (t e) S R
  | .rt d, S => R (.rt d) S
  | .bk e, S => R (.bk e) S
  | .ct e, S => R (.ct e) S
def onTurn (P : DEnv → Sto → Prop) (R : Out → Sto → Prop) : Out → Sto → Prop
  | .nx e, S => P e S
  | .ct e, S => P e S
  | .bk e, S => R (.nx e) S
  | .rt d, S => R (.rt d) S
section
variable {Q : D → Sto → Prop} {R : Out → Sto → Prop} {P : DEnv → Sto → Prop} {t : MS} {e : DEnv} {d : D} {S : Sto}
theorem fn_rt : onFn Q (.rt d) S ↔ Q d S := Iff.rfl
theorem fn_nx : onFn Q (.nx e) S ↔ Q .non S := Iff.rfl
theorem seq_nx : onSeq t R (.nx e) S ↔ Run (t e) S R := Iff.rfl
theorem seq_rt : onSeq t R (.rt d) S ↔ R (.rt d) S := Iff.rfl
theorem seq_bk : onSeq t R (.bk e) S ↔ R (.bk e) S := Iff.rfl
theorem seq_ct : onSeq t R (.ct e) S ↔ R (.ct e) S := Iff.rfl
theorem turn_nx : onTurn P R (.nx e) S ↔ P e S := Iff.rfl
theorem turn_ct : onTurn P R (.ct e) S ↔ P e S := Iff.rfl
theorem turn_bk : onTurn P R (.bk e) S ↔ R (.nx e) S := Iff.rfl
theorem turn_rt : onTurn P R (.rt d) S ↔ R (.rt d) S := Iff.rfl
end
section
variable {S : Sto} {Q : D → Sto → Prop} {R : Out → Sto → Prop} {L : List D → Sto → Prop} {env : DEnv} {a b c : ME} {ml mk : DEnv → M (List D)} {f g : D → D → M D} {u : D → M D} {pf : List D → M D} {x y z : D} {i j : Int} {s t : MS} {gg : MG}
theorem run_new {o : O} : Run (new o) S Q ↔ Q (.loc S.length) (S ++ [o]) := run_some rfl
theorem run_var {k : Nat} {d : D} (h : env[k]? = some (some d)) : Run (mVar k env) S Q ↔ Q d S := run_some (by unfold mVar; rw [h])
theorem run_C {d : D} : Run (mC d env) S Q ↔ Q d S := run_some rfl
theorem run_op : Run (mOp f a b env) S Q ↔ Run (a env) S fun x S1 => Run (b env) S1 fun y S2 => Run (f x y) S2 Q := by unfold mOp; rw [run_bd]; simp only [run_bd]
theorem run_un : Run (mUn u a env) S Q ↔ Run (a env) S fun x S1 => Run (u x) S1 Q := by unfold mUn; rw [run_bd]
theorem run_nil : Run (mNil env) S L ↔ L [] S := run_ret
theorem run_cons : Run (mCons a ml env) S L ↔ Run (a env) S fun x S1 => Run (ml env) S1 fun xs S2 => L (x :: xs) S2 := by unfold mCons; simp only [run_bd, run_ret]
theorem run_tup : Run (mTup ml env) S Q ↔ Run (ml env) S fun xs S1 => Q (.tup xs) S1 := by unfold mTup; simp only [run_bd, run_ret]
theorem run_lst : Run (mLst ml env) S Q ↔ Run (ml env) S fun xs S1 => Q (.loc S1.length) (S1 ++ [.lst xs]) := by unfold mLst; simp only [run_bd, run_new]
theorem run_bool {β : Type} {p q : M β} {x : D} {S : Sto} {Q : β → Sto → Prop} : Run (match x with | .bl true => p | .bl false => q | _ => no : M β) S Q ↔ ∃ k, x = .bl k ∧ (if k = true then Run p S Q else Run q S Q) := by
  constructor
  · intro h
    cases x with
    | bl k => exact ⟨k, rfl, by cases k <;> simpa using h⟩
    | _ => exact (run_no.mp h).elim
  · rintro ⟨k, rfl, h⟩
    cases k <;> simpa using h
theorem run_and : Run (mAnd a b env) S Q ↔ Run (a env) S fun x S1 => ∃ k, x = .bl k ∧ (if k = true then Run (b env) S1 Q else Q (.bl false) S1) := by unfold mAnd; rw [run_bd]; exact run_congr fun x S1 => (run_bool (p := b env) (q := ret (.bl false))).trans (by simp only [run_ret])
theorem run_or : Run (mOr a b env) S Q ↔ Run (a env) S fun x S1 => ∃ k, x = .bl k ∧ (if k = true then Q (.bl true) S1 else Run (b env) S1 Q) := by unfold mOr; rw [run_bd]; exact run_congr fun x S1 => (run_bool (p := ret (.bl true)) (q := b env)).trans (by simp only [run_ret])
theorem run_not : Run (mNot a env) S Q ↔ Run (a env) S fun x S1 => ∃ k, x = .bl k ∧ Q (.bl (!k)) S1 := by
  unfold mNot; rw [run_bd]
  constructor
  · intro h
    refine h.mono fun x S1 h => ?_
    cases x with
    | bl k => exact ⟨k, rfl, run_ret.mp h⟩
    | _ => exact (run_no.mp h).elim
  · intro h
    refine h.mono fun x S1 ⟨k, e, h⟩ => ?_
    subst e
    exact run_ret.mpr h
theorem run_if : Run (mIf c a b env) S Q ↔ Run (c env) S fun x S1 => ∃ k, x = .bl k ∧ (if k = true then Run (a env) S1 Q else Run (b env) S1 Q) := by unfold mIf; rw [run_bd]; exact run_congr fun x S1 => run_bool (p := a env) (q := b env)
theorem run_chain : Run (mChain f g a b c env) S Q ↔ Run (a env) S fun x S1 => Run (b env) S1 fun y S2 => Run (f x y) S2 fun k S3 => ∃ t, k = .bl t ∧ (if t = true then Run (c env) S3 fun z S4 => Run (g y z) S4 Q else Q (.bl false) S3) := by
  unfold mChain; simp only [run_bd]
  exact run_congr fun x S1 => run_congr fun y S2 => run_congr fun k S3 => (run_bool (p := bd (c env) fun z => g y z) (q := ret (.bl false))).trans (by simp only [run_ret, run_bd])
theorem run_call : Run (mCall pf ml env) S Q ↔ Run (ml env) S fun ds S1 => Run (pf ds) S1 Q := by unfold mCall; rw [run_bd]
theorem run_B : Run (mB pf ml env) S Q ↔ Run (ml env) S fun ds S1 => Run (pf ds) S1 Q := by unfold mB; rw [run_bd]
theorem run_callK {h : List D → List D → List D} : Run (mCallK pf h ml mk env) S Q ↔ Run (ml env) S fun ds S1 => Run (mk env) S1 fun es S2 => Run (pf (h ds es)) S2 Q := by unfold mCallK; rw [run_bd]; simp only [run_bd]
/-! operators -/
theorem run_add : Run (oAdd (.int i) (.int j)) S Q ↔ Q (.int (i + j)) S := run_some rfl
theorem run_sub : Run (oSub (.int i) (.int j)) S Q ↔ Q (.int (i - j)) S := run_some rfl
theorem run_lt : Run (oLt (.int i) (.int j)) S Q ↔ Q (.bl (decide (i < j))) S := run_some rfl
theorem run_le : Run (oLe (.int i) (.int j)) S Q ↔ Q (.bl (decide (i ≤ j))) S := run_some rfl
theorem run_gt : Run (oGt (.int i) (.int j)) S Q ↔ Q (.bl (decide (j < i))) S := run_some rfl
theorem run_ge : Run (oGe (.int i) (.int j)) S Q ↔ Q (.bl (decide (j ≤ i))) S := run_some rfl
theorem run_neg : Run (oNeg (.int i)) S Q ↔ Q (.int (-i)) S := run_some rfl
theorem run_ic {p : Int → Int → Bool} {h : Int → Int → Int} : Run (oIc p h (.int i) (.int j)) S Q ↔ p i j = true ∧ Q (.int (h i j)) S := by
  unfold oIc
  dsimp only
  by_cases e : p i j = true
  · rw [if_pos e, run_ret]; simp [e]
  · rw [if_neg e, run_no]; simp [e]
theorem run_mod : Run (oMod (.int i) (.int j)) S Q ↔ 0 < j ∧ Q (.int (i % j)) S := by unfold oMod; rw [run_ic]; simp
theorem run_div : Run (oDiv (.int i) (.int j)) S Q ↔ (0 < j ∧ j < 1073741824) ∧ Q (.int (i / j)) S := by unfold oDiv; rw [run_ic]; simp
theorem run_pow : Run (oPow (.int i) (.int j)) S Q ↔ (0 ≤ j ∧ j ≤ 1000000 ∧ i.natAbs < 2 ^ 64) ∧ Q (.int (i ^ j.toNat)) S := by unfold oPow; rw [run_ic, decide_eq_true_iff]
theorem run_mul : Run (oMul (.int i) (.int j)) S Q ↔ ((-(2 ^ 64) < i ∧ i < 2 ^ 64) ∨ (-(2 ^ 64) < j ∧ j < 2 ^ 64)) ∧ Q (.int (i * j)) S := by
  unfold oMul
  dsimp only
  split
  · rename_i h; rw [run_ret]; exact ⟨fun q => ⟨h, q⟩, fun q => q.2⟩
  · rename_i h; rw [run_no]; exact ⟨fun q => q.elim, fun q => h q.1⟩
theorem run_rep {n : Nat} {xs : List D} {k : Int} (h : S[n]? = some (.lst xs)) (hk : -(2 ^ 63) ≤ k ∧ k < 2 ^ 63 ∧ xs.length * k.toNat ≤ sizeLine) : Run (oMul (.loc n) (.int k)) S Q ↔ Q (.loc S.length) (S ++ [.lst (rep k.toNat xs)]) :=
  run_some (by unfold oMul; dsimp only; rw [h]; dsimp only; rw [if_pos hk]; rfl)
theorem run_is {k : Bool} : Run (oIs k x .non) S Q ↔ Q (.bl (isN x != k)) S := run_some (by cases x <;> cases k <;> rfl)
theorem run_eq {k : Bool} : Run (oEq k x y) S Q ↔ ∃ t, eqD S x y = some t ∧ Q (.bl (t != k)) S := by
  unfold Run oEq
  constructor
  · rintro ⟨d, S', e, q⟩
    split at e
    · rename_i t h; cases e; exact ⟨t, h, q⟩
    · cases e
  · rintro ⟨t, h, q⟩
    exact ⟨_, _, by rw [h], q⟩
theorem run_eqInt {k : Bool} : Run (oEq k (.int i) (.int j)) S Q ↔ Q (.bl (decide (i = j) != k)) S := run_some rfl
theorem run_eqStr {k : Bool} {p q : Str} : Run (oEq k (.str p) (.str q)) S Q ↔ Q (.bl (decide (p = q) != k)) S := run_some rfl
theorem run_ixT {xs : List D} {d : D} (h : atI xs i = some d) : Run (oIx (.tup xs) (.int i)) S Q ↔ Q d S := run_some (by unfold oIx; dsimp only; rw [h]; rfl)
theorem run_ixL {n : Nat} {xs : List D} {d : D} (h0 : S[n]? = some (.lst xs)) (h : atI xs i = some d) : Run (oIx (.loc n) (.int i)) S Q ↔ Q d S := run_some (by unfold oIx; dsimp only; rw [h0]; dsimp only; rw [h]; rfl)
theorem run_ixD {n : Nat} {kvs : List (Key × D)} {k : Str} {d : D} (h0 : S[n]? = some (.dic kvs)) (h : dGet kvs (.inr k) = some d) : Run (oIx (.loc n) (.str k)) S Q ↔ Q d S := run_some (by unfold oIx; dsimp only; rw [h0]; dsimp only [keyOf]; rw [h]; rfl)
theorem run_intB {k : Bool} : Run (bInt [.bl k]) S Q ↔ Q (.int (if k then 1 else 0)) S := run_some rfl
theorem run_min : Run (bMin [.int i, .int j]) S Q ↔ Q (.int (if j < i then j else i)) S := run_some rfl
theorem run_max : Run (bMax [.int i, .int j]) S Q ↔ Q (.int (if j > i then j else i)) S := run_some rfl
theorem run_lenT {xs : List D} : Run (bLen [.tup xs]) S Q ↔ Q (.int xs.length) S := run_some rfl
theorem run_lenL {n : Nat} {xs : List D} (h : S[n]? = some (.lst xs)) : Run (bLen [.loc n]) S Q ↔ Q (.int xs.length) S := run_some (by unfold bLen; dsimp only [items]; rw [h]; rfl)
theorem run_tupleL {n : Nat} {xs : List D} (h : S[n]? = some (.lst xs)) : Run (bTuple [.loc n]) S Q ↔ Q (.tup xs) S := run_some (by unfold bTuple; dsimp only [items]; rw [h]; rfl)
theorem run_repr {p : PyData} (h : dat S x = some p) (c : (p.showable && !p.hasDict && decide (p.depth ≤ 100) && decide (p.shown.length ≤ sizeLine)) = true) : Run (bRepr [x]) S Q ↔ Q (.str p.shown) S := run_some (by unfold bRepr; dsimp only; rw [h]; dsimp only; rw [if_pos c])
theorem run_catT {z : D} {xs ys : List D} (h : (z :: xs).length + ys.length ≤ sizeLine) : Run (oAdd (.tup (z :: xs)) (.tup ys)) S Q ↔ Q (.tup ((z :: xs) ++ ys)) S := run_some (by unfold oAdd; dsimp only; rw [if_pos h])
theorem run_catL {m n : Nat} {xs ys : List D} (h1 : S[m]? = some (.lst xs)) (h2 : S[n]? = some (.lst ys)) (h : xs.length + ys.length ≤ sizeLine) : Run (oAdd (.loc m) (.loc n)) S Q ↔ Q (.loc S.length) (S ++ [.lst (xs ++ ys)]) := run_some (by unfold oAdd; dsimp only; rw [h1, h2]; dsimp only; rw [if_pos h]; rfl)
theorem run_pop {n : Nat} {xs : List D} {d : D} (h : S[n]? = some (.lst (xs ++ [d]))) : Run (mMt0 nPop (fun _ => ret (.loc n)) env) S Q ↔ Q d (S.set n (.lst xs)) := by
  unfold mMt0
  rw [run_bd, run_ret]
  exact run_some (by unfold nPop; dsimp only; rw [h]; simp)
theorem run_pop' {n : Nat} {xs : List D} {d : D} (h : S[n]? = some (.lst (xs ++ [d]))) : Run (nPop (.loc n) []) S Q ↔ Q d (S.set n (.lst xs)) := run_some (by unfold nPop; dsimp only; rw [h]; simp)
theorem run_mt0 {f : D → List D → M D} : Run (mMt0 f a env) S Q ↔ Run (a env) S fun x S1 => Run (f x []) S1 Q := by unfold mMt0; rw [run_bd]
theorem run_mt {f : D → List D → M D} : Run (mMt f a ml env) S Q ↔ Run (a env) S fun x S1 => ∃ n xs, x = .loc n ∧ S1[n]? = some (.lst xs) ∧ Run (ml env) S1 fun ds S2 => Run (f (.loc n) ds) S2 Q := by
  unfold mMt; rw [run_bd]
  constructor
  · intro h
    refine h.mono fun x S1 h => ?_
    obtain ⟨d, S', e, q⟩ := h
    dsimp only at e
    split at e
    · split at e
      · rename_i n _ xs hx
        exact ⟨n, xs, rfl, hx, run_bd.mp ⟨d, S', e, q⟩⟩
      · cases e
    · cases e
  · intro h
    refine h.mono fun x S1 ⟨n, xs, e, hx, h⟩ => ?_
    subst e
    obtain ⟨d, S', e, q⟩ := run_bd.mpr h
    refine ⟨d, S', ?_, q⟩
    dsimp only
    rw [hx]
    exact e
theorem run_app {n : Nat} {xs : List D} {d : D} (h : S[n]? = some (.lst xs)) (hl : xs.length < sizeLine) : Run (nApp (.loc n) [d]) S Q ↔ Q .non (S.set n (.lst (xs ++ [d]))) := run_some (by unfold nApp; dsimp only; rw [h]; dsimp only; rw [if_pos hl])
/-! statements -/
theorem run_fn {n : Nat} {ds : List D} : Run (mFn n s ds) S Q ↔ Run (s (startD n ds)) S (onFn Q) := by
  unfold mFn; rw [run_bd]
  constructor
  · intro h
    refine h.mono fun o S1 h => ?_
    cases o with
    | rt d => exact show Q d S1 from run_ret.mp h
    | nx d => exact show Q .non S1 from run_ret.mp h
    | bk d => exact run_no.mp h
    | ct d => exact run_no.mp h
  · intro h
    refine h.mono fun o S1 h => ?_
    cases o with
    | rt d => exact run_ret.mpr h
    | nx d => exact run_ret.mpr h
    | bk d => exact h.elim
    | ct d => exact h.elim
theorem run_seq : Run (sSeq s t env) S R ↔ Run (s env) S (onSeq t R) := by
  unfold sSeq; rw [run_bd]
  constructor
  · intro h
    refine h.mono fun o S1 h => ?_
    cases o with
    | nx e => exact h
    | rt d => exact show R (.rt d) S1 from run_ret.mp h
    | bk d => exact show R (.bk d) S1 from run_ret.mp h
    | ct d => exact show R (.ct d) S1 from run_ret.mp h
  · intro h
    refine h.mono fun o S1 h => ?_
    cases o with
    | nx e => exact h
    | rt d => exact run_ret.mpr h
    | bk d => exact run_ret.mpr h
    | ct d => exact run_ret.mpr h
theorem run_pass : Run (sPass env) S R ↔ R (.nx env) S := run_ret
theorem run_rt : Run (sRet a env) S R ↔ Run (a env) S fun d S1 => R (.rt d) S1 := by unfold sRet; simp only [run_bd, run_ret]
theorem run_drop : Run (sDrop a env) S R ↔ Run (a env) S fun _ S1 => R (.nx env) S1 := by unfold sDrop; simp only [run_bd, run_ret]
theorem run_sif : Run (sIf a s t env) S R ↔ Run (a env) S fun x S1 => ∃ k, x = .bl k ∧ (if k = true then Run (s env) S1 R else Run (t env) S1 R) := by unfold sIf; rw [run_bd]; exact run_congr fun x S1 => run_bool (p := s env) (q := t env)
theorem run_asg : Run (sAsg a gg env) S R ↔ Run (a env) S fun d S1 => Run (gg d env) S1 fun e S2 => R (.nx e) S2 := by unfold sAsg; simp only [run_bd, run_ret]
theorem run_gn {k : Nat} {d : D} {G : DEnv → Sto → Prop} : Run (gNm k d env) S G ↔ G (env.set k (some d)) S := run_ret
theorem run_par {k l : Nat} : Run (sPar k l ml env) S R ↔ Run (ml env) S fun xs S1 => ∃ u v, xs = [u, v] ∧ R (.nx ((env.set k (some u)).set l (some v))) S1 := by
  unfold sPar; rw [run_bd]
  constructor
  · intro h
    refine h.mono fun xs S1 h => ?_
    match xs, h with
    | [u, v], h => exact ⟨u, v, rfl, run_ret.mp h⟩
    | [], h => exact (run_no.mp h).elim
    | [_], h => exact (run_no.mp h).elim
    | _ :: _ :: _ :: _, h => exact (run_no.mp h).elim
  · intro h
    refine h.mono fun xs S1 ⟨u, v, e, h⟩ => ?_
    subst e
    exact run_ret.mpr h
theorem run_gt4 {G : DEnv → Sto → Prop} {n : Nat} {xs : List D} {gs : List D → DEnv → M DEnv} (h : xs.length = n) : Run (gTp n gs (.tup xs) env) S G ↔ Run (gs xs env) S G := by
  unfold gTp; dsimp only; rw [if_pos h]
theorem run_gsn {G : DEnv → Sto → Prop} : Run (gsNil [] env) S G ↔ G env S := run_ret
theorem run_gsc {G : DEnv → Sto → Prop} {d : D} {ds : List D} {gs : List D → DEnv → M DEnv} : Run (gsCons gg gs (d :: ds) env) S G ↔ Run (gg d env) S fun e S1 => Run (gs ds e) S1 G := by unfold gsCons; rw [run_bd]
theorem run_gsb {G : DEnv → Sto → Prop} {d : D} : Run (gSb a b d env) S G ↔ Run (a env) S fun x S1 => Run (b env) S1 fun y S2 => Run (oSet x y d) S2 fun _ S3 => G env S3 := by unfold gSb; simp only [run_bd, run_ret]
theorem run_setL {G : Unit → Sto → Prop} {n k : Nat} {xs : List D} {d : D} {i : Int} (h : S[n]? = some (.lst xs)) (hi : ixN xs.length i = some k) : Run (oSet (.loc n) (.int i) d) S G ↔ G () (S.set n (.lst (xs.set k d))) := run_some (by unfold oSet; dsimp only; rw [h]; dsimp only; rw [hi])
theorem run_setD {G : Unit → Sto → Prop} {n : Nat} {kvs : List (Key × D)} {d : D} {k : Str} (h : S[n]? = some (.dic kvs)) (hl : kvs.length < sizeLine) : Run (oSet (.loc n) (.str k) d) S G ↔ G () (S.set n (.dic (dPut kvs (.inr k) d))) := run_some (by unfold oSet; dsimp only; rw [h]; dsimp only [keyOf]; rw [if_pos hl])
/-! loops -/
theorem run_for {mi : MI} : Run (sFor mi gg s env) S R ↔ Run (mi env) S fun it S1 => Run (loopF it gg s it.xs env) S1 R := by unfold sFor; rw [run_bd]
theorem run_iR1 {G : Its → Sto → Prop} : Run (iR1 ml env) S G ↔ Run (ml env) S fun xs S1 => ∃ j : Int, xs = [.int j] ∧ (-(2 ^ 62) ≤ j ∧ j < 2 ^ 62) ∧ G ⟨none, rng 0 j.toNat⟩ S1 := by
  unfold iR1; rw [run_bd]
  constructor
  · intro h
    refine h.mono fun xs S1 ⟨d, S', e, q⟩ => ?_
    dsimp only at e
    split at e
    · split at e
      · rename_i c; cases e; exact ⟨_, rfl, c, q⟩
      · cases e
    · cases e
  · intro h
    refine h.mono fun xs S1 ⟨j, e, c, q⟩ => ?_
    subst e
    exact ⟨_, _, by dsimp only; rw [if_pos c], q⟩
theorem run_iR2 {G : Its → Sto → Prop} : Run (iR2 ml env) S G ↔ Run (ml env) S fun xs S1 => ∃ i j : Int, xs = [.int i, .int j] ∧ (-(2 ^ 62) ≤ i ∧ i < 2 ^ 62 ∧ -(2 ^ 62) ≤ j ∧ j < 2 ^ 62) ∧ G ⟨none, rng i (j - i).toNat⟩ S1 := by
  unfold iR2; rw [run_bd]
  constructor
  · intro h
    refine h.mono fun xs S1 ⟨d, S', e, q⟩ => ?_
    dsimp only at e
    split at e
    · split at e
      · rename_i c; cases e; exact ⟨_, _, rfl, c, q⟩
      · cases e
    · cases e
  · intro h
    refine h.mono fun xs S1 ⟨i, j, e, c, q⟩ => ?_
    subst e
    exact ⟨_, _, by dsimp only; rw [if_pos c], q⟩
theorem run_iV {G : Its → Sto → Prop} : Run (iVal a env) S G ↔ Run (a env) S fun d S1 => Run (iVal (fun _ => ret d) env) S1 G := by
  unfold iVal
  rw [run_bd]
  simp only [run_bd, run_ret]
theorem run_iVT {G : Its → Sto → Prop} {xs : List D} : Run (iVal (fun _ => ret (.tup xs)) env) S G ↔ G ⟨none, xs⟩ S := by
  unfold iVal; rw [run_bd, run_ret]; exact run_some rfl
theorem run_iVS {G : Its → Sto → Prop} {xs : List D} : Run (iVal (fun _ => ret (.sq xs)) env) S G ↔ G ⟨none, xs⟩ S := by
  unfold iVal; rw [run_bd, run_ret]; exact run_some rfl
theorem run_iVL {G : Its → Sto → Prop} {n : Nat} {xs : List D} (h : S[n]? = some (.lst xs)) : Run (iVal (fun _ => ret (.loc n)) env) S G ↔ G ⟨some n, xs⟩ S := by
  unfold iVal; rw [run_bd, run_ret]; exact run_some (by dsimp only; rw [h])
/-- a for, by what holds between two turns -/
theorem run_loop {it : Its} (P : List D → DEnv → Sto → Prop) {xs : List D} (h0 : P xs env S) (hg : ∀ ys e S1, P ys e S1 → Gd it S1 = true)
    (hs : ∀ y ys e S1, P (y :: ys) e S1 → Run (gg y e) S1 fun e1 S2 => Run (s e1) S2 (onTurn (P ys) R))
    (he : ∀ e S1, P [] e S1 → R (.nx e) S1) : Run (loopF it gg s xs env) S R := by
  induction xs generalizing env S with
  | nil =>
    refine (run_some ?_).mpr (he _ _ h0)
    unfold loopF
    rw [if_pos (hg _ _ _ h0)]
  | cons x xs ih =>
    have h := hs x xs env S h0
    have key : Run (bd (gg x env) fun e1 => bd (s e1) fun o => match o with
      | .nx e => loopF it gg s xs e
      | .ct e => loopF it gg s xs e
      | .bk e => ret (.nx e)
      | .rt d => ret (.rt d)) S R := by
      rw [run_bd]
      refine h.mono fun e1 S2 h2 => ?_
      rw [run_bd]
      refine h2.mono fun o S3 h3 => ?_
      cases o with
      | nx e => exact ih h3
      | ct e => exact ih h3
      | bk e => exact run_ret.mpr h3
      | rt d => exact run_ret.mpr h3
    obtain ⟨d, S', e, q⟩ := key
    refine ⟨d, S', ?_, q⟩
    unfold loopF
    rw [if_pos (hg _ _ _ h0)]
    exact e
theorem run_lc {mi : MI} {tt : ME} {vs : List Nat} : Run (mLc mi gg tt a vs env) S Q ↔ Run (mi env) S fun it S1 => Run (loopC it gg tt a (wipeD env vs) it.xs) S1 fun ds S2 => ds.length ≤ sizeLine ∧ Q (.loc S2.length) (S2 ++ [.lst ds]) := by
  unfold mLc
  simp only [run_bd]
  constructor
  · intro h
    refine h.mono fun it S1 h => h.mono fun ds S2 ⟨d, S', e, q⟩ => ?_
    split at e
    · rename_i c; cases e; exact ⟨c, q⟩
    · cases e
  · intro h
    refine h.mono fun it S1 h => h.mono fun ds S2 ⟨c, q⟩ => ?_
    exact ⟨_, _, by dsimp only; rw [if_pos c]; rfl, q⟩
/-- a comprehension, by what holds between two turns: the items to come, those made, the store -/
theorem run_loopC {it : Its} {tt : ME} (P : List D → List D → Sto → Prop) {xs acc : List D} {G : List D → Sto → Prop} (h0 : P xs acc S) (hg : ∀ ys as S1, P ys as S1 → Gd it S1 = true)
    (hs : ∀ y ys as S1, P (y :: ys) as S1 → Run (gg y env) S1 fun e1 S2 => Run (tt e1) S2 fun b S3 => ∃ k, b = .bl k ∧ (if k = true then Run (a e1) S3 fun d S4 => P ys (as ++ [d]) S4 else P ys as S3))
    (he : ∀ as S1, P [] as S1 → ∃ ds, as = acc ++ ds ∧ G ds S1) (hp : ∀ ys as S1, P ys as S1 → ∃ ds, as = acc ++ ds) : Run (loopC it gg tt a env xs) S G := by
  suffices ∀ (xs : List D) (ds : List D) (S : Sto), P xs (acc ++ ds) S → Run (loopC it gg tt a env xs) S fun es S' => G (ds ++ es) S' by
    have := this xs [] S (by simpa using h0)
    simpa using this
  intro xs
  induction xs with
  | nil =>
    intro ds S h
    obtain ⟨es, e, q⟩ := he _ _ h
    have := List.append_cancel_left e
    subst this
    refine (run_some ?_).mpr (show G (ds ++ []) S by simpa using q)
    unfold loopC
    rw [if_pos (hg _ _ _ h)]
  | cons x xs ih =>
    intro ds S h
    have hx := hs x xs _ S h
    have key : Run (bd (gg x env) fun e1 => bd (tt e1) fun b => match b with
      | .bl true => bd (a e1) fun d => bd (loopC it gg tt a env xs) fun ds => ret (d :: ds)
      | .bl false => loopC it gg tt a env xs
      | _ => no) S fun es S' => G (ds ++ es) S' := by
      rw [run_bd]
      refine hx.mono fun e1 S2 h2 => ?_
      rw [run_bd]
      refine h2.mono fun b S3 ⟨k, e, h3⟩ => ?_
      subst e
      cases k with
      | true =>
        rw [if_pos rfl] at h3
        show Run (bd (a e1) fun d => bd (loopC it gg tt a env xs) fun ds => ret (d :: ds)) S3 _
        rw [run_bd]
        refine h3.mono fun d S4 h4 => ?_
        rw [run_bd]
        rw [List.append_assoc] at h4
        refine (ih (ds ++ [d]) S4 h4).mono fun es S5 h5 => ?_
        rw [run_ret]
        simpa using h5
      | false =>
        rw [if_neg Bool.false_ne_true] at h3
        exact ih ds S3 h3
    obtain ⟨d, S', e, q⟩ := key
    refine ⟨d, S', ?_, q⟩
    unfold loopC
    rw [if_pos (hg _ _ _ h)]
    exact e
end
/-! stores -/
theorem get_app {S : Sto} {o u : O} {n : Nat} (h : S[n]? = some u) : (S ++ [o])[n]? = some u := by
  rw [List.getElem?_append_left (List.getElem?_eq_some_iff.mp h).1]; exact h
theorem get_new {S : Sto} {o : O} : (S ++ [o])[S.length]? = some o := by simp
theorem get_set {S : Sto} {o u : O} {n k : Nat} (h : S[n]? = some u) (hk : k ≠ n) : (S.set k o)[n]? = some u := by rw [List.getElem?_set_ne hk]; exact h
theorem get_put {S : Sto} {o u : O} {n : Nat} (h : S[n]? = some u) : (S.set n o)[n]? = some o := List.getElem?_set_self (List.getElem?_eq_some_iff.mp h).1
end Ev
namespace Ev
open PySem L2
section
variable {S : Sto} {Q : D → Sto → Prop} {env : DEnv}
def On {α : Type} (r : Option (α × Sto)) (R : α → Sto → Prop) : Prop := ∃ a S', r = some (a, S') ∧ R a S'
theorem on_some {α : Type} {a : α} {S' : Sto} {R : α → Sto → Prop} : On (some (a, S')) R ↔ R a S' := ⟨fun ⟨_, _, e, q⟩ => by cases e; exact q, fun q => ⟨a, S', rfl, q⟩⟩
theorem on_none {α : Type} {R : α → Sto → Prop} : On none R ↔ False := ⟨fun ⟨_, _, e, _⟩ => (by cases e), fun h => h.elim⟩
theorem run_any {α : Type} {m : M α} {R : α → Sto → Prop} : Run m S R ↔ On (m S) R := Iff.rfl
theorem run_var' {k : Nat} : Run (mVar k env) S Q ↔ ∃ d, env[k]? = some (some d) ∧ Q d S := by
  constructor
  · rintro ⟨d, S', e, q⟩
    unfold mVar at e
    split at e
    · rename_i d' h; cases e; exact ⟨_, h, q⟩
    · cases e
  · rintro ⟨d, h, q⟩
    exact (run_var h).mpr q
theorem run_ix {x y : D} : Run (oIx x y) S Q ↔ On (oIx x y S) Q := Iff.rfl
theorem run_set {x y z : D} {G : Unit → Sto → Prop} : Run (oSet x y z) S G ↔ On (oSet x y z S) G := Iff.rfl
theorem run_gtp {G : DEnv → Sto → Prop} {n : Nat} {d : D} {gs : List D → DEnv → M DEnv} : Run (gTp n gs d env) S G ↔ ∃ xs, d = .tup xs ∧ xs.length = n ∧ Run (gs xs env) S G := by
  unfold gTp
  constructor
  · intro h
    cases d with
    | tup xs =>
      dsimp only at h
      split at h
      · rename_i e; exact ⟨xs, rfl, e, h⟩
      · exact (run_no.mp h).elim
    | _ => exact (run_no.mp h).elim
  · rintro ⟨xs, rfl, e, h⟩
    dsimp only
    rw [if_pos e]
    exact h
end
/-- the deck at n, its cells at c -/
structure Dk (n c : Nat) (S : Sto) : Prop where
  ex : ∃ (a t : Int) (ns : List Int), S[n]? = some (.lst [.loc c, .int a, .int t]) ∧ S[c]? = some (.lst (ns.map .int)) ∧ ns.length ≤ 1000
  ne : n ≠ c
/-- all but the deck is as it was -/
structure Keep (n c : Nat) (S S' : Sto) : Prop where
  at_ : ∀ (k : Nat) (u : O), S[k]? = some u → k ≠ n → k ≠ c → S'[k]? = some u
theorem Keep.refl (n c : Nat) (S : Sto) : Keep n c S S := ⟨fun _ _ h _ _ => h⟩
theorem Keep.trans {n c : Nat} {S S1 S2 : Sto} (a : Keep n c S S1) (b : Keep n c S1 S2) : Keep n c S S2 := ⟨fun k u h h1 h2 => b.at_ k u (a.at_ k u h h1 h2) h1 h2⟩
theorem Keep.app (n c : Nat) (S : Sto) (o : O) : Keep n c S (S ++ [o]) := ⟨fun _ _ h _ _ => get_app h⟩
theorem Dk.app {n c : Nat} {S : Sto} (h : Dk n c S) (o : O) : Dk n c (S ++ [o]) := by
  obtain ⟨⟨a, t, ns, h1, h2, hl⟩, hne⟩ := h
  exact ⟨⟨a, t, ns, get_app h1, get_app h2, hl⟩, hne⟩
theorem Dk.set {n c k : Nat} {S : Sto} (h : Dk n c S) (o : O) (h1 : k ≠ n) (h2 : k ≠ c) : Dk n c (S.set k o) := by
  obtain ⟨⟨a, t, ns, g1, g2, hl⟩, hne⟩ := h
  exact ⟨⟨a, t, ns, get_set g1 h1, get_set g2 h2, hl⟩, hne⟩
end Ev

end
section
set_option maxHeartbeats 4000000
/-! The deck of the laws: cells, draws, picks. -/
namespace Ev
open PySem
open L2 (atI ixN Key)
def pDraw_1 : MS := sRet (mOp oMod (mVar 2) (mVar 1))
def pDraw_2 : MS := sIf (mOp oGe (mVar 2) (mOp oPow (mC (.int 10)) (mC (.int 18)))) (sSeq (sDrop (mMt nApp (mOp oIx (mVar 0) (mC (.int 0))) (mCons (mOp oDiv (mVar 2) (mVar 1)) mNil))) pDraw_1) sPass
def pDraw_3 : MS := sRet (mOp oMod (mOp oDiv (mOp oMod (mOp oAdd (mOp oMul (mVar 3) (mVar 3)) (mOp oMul (mC (.int 39373)) (mVar 3))) (mC (.int 2147483563))) (mC (.int 64))) (mVar 1))
def pDraw_4 : MS := sSeq (sAsg (mOp oMod (mOp oAdd (mOp oAdd (mOp oMul (mVar 3) (mVar 3)) (mOp oMul (mC (.int 69621)) (mOp oIx (mVar 0) (mC (.int 2))))) (mC (.int 23))) (mC (.int 2147483587))) (gNm 3)) pDraw_3
def pDraw_5 : MS := sSeq (sAsg (mOp oMod (mOp oMul (mOp oAdd (mOp oAdd (mOp oMod (mVar 2) (mC (.int 2147483629))) (mOp oMul (mC (.int 65537)) (mOp oIx (mVar 0) (mC (.int 2))))) (mC (.int 19))) (mC (.int 48271))) (mC (.int 2147483647))) (gNm 3)) pDraw_4
def pDraw_6 : MS := sSeq (sIf (mOp (oEq true) (mOp oIx (mVar 0) (mC (.int 0))) (mLst mNil)) (sSeq (sAsg (mMt0 nPop (mOp oIx (mVar 0) (mC (.int 0)))) (gNm 2)) pDraw_2) sPass) pDraw_5
def pDraw_7 : MS := sSeq (sAsg (mOp oIx (mVar 0) (mC (.int 1))) (gNm 2)) pDraw_6
def pDraw : List D → M D := mFn 4 (sSeq (sAsg (mOp oAdd (mOp oIx (mVar 0) (mC (.int 2))) (mC (.int 1))) (gSb (mVar 0) (mC (.int 2)))) pDraw_7)
theorem draw5 {n : Nat} {x : D} {a t many cell : Int} {S : Sto} {R : Out → Sto → Prop} (h : S[n]? = some (.lst [x, .int a, .int t])) (hm : 0 < many) (k : ∀ r, 0 ≤ r → r < many → R (.rt (.int r)) S) :
    Run (pDraw_5 [some (.loc n), some (.int many), some (.int cell), none]) S R := by
  unfold pDraw_5
  simp only [fn_rt, fn_nx, seq_nx, seq_rt, seq_bk, seq_ct, turn_nx, turn_ct, turn_bk, turn_rt, run_fn, run_seq, run_asg, run_op, run_un, run_nil, run_cons, run_tup, run_lst, run_and, run_or, run_not, run_if, run_chain, run_call, run_callK, run_B, run_add, run_sub, run_lt, run_le, run_gt, run_ge, run_neg, run_mod, run_div, run_pow, run_mul, run_is, iN0, iN1, iN2, iN3, iN4, iN5, run_eqInt, run_eqStr, run_intB, run_min, run_max, run_lenT, run_mt0, run_mt, run_pass, run_rt, run_drop, run_sif, run_gn, run_par, run_gsn, run_gsc, run_gsb, run_for, run_iR1, run_iR2, run_ret, run_new, run_C, run_var', run_gtp, run_lc, on_some, on_none, exists_eq_left, exists_eq_left', Option.some.injEq, D.bl.injEq, List.cons.injEq, D.int.injEq, D.loc.injEq, D.tup.injEq, and_true, true_and, startD, List.map_cons, List.map_nil, List.length_cons, List.length_nil, List.replicate, List.cons_append, List.nil_append, List.getElem?_cons_zero, List.getElem?_cons_succ, List.getElem?_nil, List.set_cons_zero, List.set_cons_succ, List.set_nil, Nat.add_zero, Nat.zero_add, Nat.reduceAdd, Nat.reduceSub]
  refine ⟨by decide, ?_⟩
  refine (run_ixL h rfl).mpr ?_
  simp only [fn_rt, fn_nx, seq_nx, seq_rt, seq_bk, seq_ct, turn_nx, turn_ct, turn_bk, turn_rt, run_fn, run_seq, run_asg, run_op, run_un, run_nil, run_cons, run_tup, run_lst, run_and, run_or, run_not, run_if, run_chain, run_call, run_callK, run_B, run_add, run_sub, run_lt, run_le, run_gt, run_ge, run_neg, run_mod, run_div, run_pow, run_mul, run_is, iN0, iN1, iN2, iN3, iN4, iN5, run_eqInt, run_eqStr, run_intB, run_min, run_max, run_lenT, run_mt0, run_mt, run_pass, run_rt, run_drop, run_sif, run_gn, run_par, run_gsn, run_gsc, run_gsb, run_for, run_iR1, run_iR2, run_ret, run_new, run_C, run_var', run_gtp, run_lc, on_some, on_none, exists_eq_left, exists_eq_left', Option.some.injEq, D.bl.injEq, List.cons.injEq, D.int.injEq, D.loc.injEq, D.tup.injEq, and_true, true_and, startD, List.map_cons, List.map_nil, List.length_cons, List.length_nil, List.replicate, List.cons_append, List.nil_append, List.getElem?_cons_zero, List.getElem?_cons_succ, List.getElem?_nil, List.set_cons_zero, List.set_cons_succ, List.set_nil, Nat.add_zero, Nat.zero_add, Nat.reduceAdd, Nat.reduceSub]
  refine ⟨.inl ⟨by decide, by decide⟩, .inr ⟨by decide, by decide⟩, by decide, ?_⟩
  generalize hx : ((cell % 2147483629 + 65537 * t + 19) * 48271 % 2147483647 : Int) = x1
  have b1 : 0 ≤ x1 ∧ x1 < 2147483647 := by rw [← hx]; exact ⟨Int.emod_nonneg _ (by decide), Int.emod_lt_of_pos _ (by decide)⟩
  unfold pDraw_4
  simp only [fn_rt, fn_nx, seq_nx, seq_rt, seq_bk, seq_ct, turn_nx, turn_ct, turn_bk, turn_rt, run_fn, run_seq, run_asg, run_op, run_un, run_nil, run_cons, run_tup, run_lst, run_and, run_or, run_not, run_if, run_chain, run_call, run_callK, run_B, run_add, run_sub, run_lt, run_le, run_gt, run_ge, run_neg, run_mod, run_div, run_pow, run_mul, run_is, iN0, iN1, iN2, iN3, iN4, iN5, run_eqInt, run_eqStr, run_intB, run_min, run_max, run_lenT, run_mt0, run_mt, run_pass, run_rt, run_drop, run_sif, run_gn, run_par, run_gsn, run_gsc, run_gsb, run_for, run_iR1, run_iR2, run_ret, run_new, run_C, run_var', run_gtp, run_lc, on_some, on_none, exists_eq_left, exists_eq_left', Option.some.injEq, D.bl.injEq, List.cons.injEq, D.int.injEq, D.loc.injEq, D.tup.injEq, and_true, true_and, startD, List.map_cons, List.map_nil, List.length_cons, List.length_nil, List.replicate, List.cons_append, List.nil_append, List.getElem?_cons_zero, List.getElem?_cons_succ, List.getElem?_nil, List.set_cons_zero, List.set_cons_succ, List.set_nil, Nat.add_zero, Nat.zero_add, Nat.reduceAdd, Nat.reduceSub]
  refine ⟨.inl ⟨by omega, by omega⟩, ?_⟩
  refine (run_ixL h rfl).mpr ?_
  simp only [fn_rt, fn_nx, seq_nx, seq_rt, seq_bk, seq_ct, turn_nx, turn_ct, turn_bk, turn_rt, run_fn, run_seq, run_asg, run_op, run_un, run_nil, run_cons, run_tup, run_lst, run_and, run_or, run_not, run_if, run_chain, run_call, run_callK, run_B, run_add, run_sub, run_lt, run_le, run_gt, run_ge, run_neg, run_mod, run_div, run_pow, run_mul, run_is, iN0, iN1, iN2, iN3, iN4, iN5, run_eqInt, run_eqStr, run_intB, run_min, run_max, run_lenT, run_mt0, run_mt, run_pass, run_rt, run_drop, run_sif, run_gn, run_par, run_gsn, run_gsc, run_gsb, run_for, run_iR1, run_iR2, run_ret, run_new, run_C, run_var', run_gtp, run_lc, on_some, on_none, exists_eq_left, exists_eq_left', Option.some.injEq, D.bl.injEq, List.cons.injEq, D.int.injEq, D.loc.injEq, D.tup.injEq, and_true, true_and, startD, List.map_cons, List.map_nil, List.length_cons, List.length_nil, List.replicate, List.cons_append, List.nil_append, List.getElem?_cons_zero, List.getElem?_cons_succ, List.getElem?_nil, List.set_cons_zero, List.set_cons_succ, List.set_nil, Nat.add_zero, Nat.zero_add, Nat.reduceAdd, Nat.reduceSub]
  refine ⟨.inl ⟨by decide, by decide⟩, by decide, ?_⟩
  generalize hy : ((x1 * x1 + 69621 * t + 23) % 2147483587 : Int) = y1
  have b2 : 0 ≤ y1 ∧ y1 < 2147483587 := by rw [← hy]; exact ⟨Int.emod_nonneg _ (by decide), Int.emod_lt_of_pos _ (by decide)⟩
  unfold pDraw_3
  simp only [fn_rt, fn_nx, seq_nx, seq_rt, seq_bk, seq_ct, turn_nx, turn_ct, turn_bk, turn_rt, run_fn, run_seq, run_asg, run_op, run_un, run_nil, run_cons, run_tup, run_lst, run_and, run_or, run_not, run_if, run_chain, run_call, run_callK, run_B, run_add, run_sub, run_lt, run_le, run_gt, run_ge, run_neg, run_mod, run_div, run_pow, run_mul, run_is, iN0, iN1, iN2, iN3, iN4, iN5, run_eqInt, run_eqStr, run_intB, run_min, run_max, run_lenT, run_mt0, run_mt, run_pass, run_rt, run_drop, run_sif, run_gn, run_par, run_gsn, run_gsc, run_gsb, run_for, run_iR1, run_iR2, run_ret, run_new, run_C, run_var', run_gtp, run_lc, on_some, on_none, exists_eq_left, exists_eq_left', Option.some.injEq, D.bl.injEq, List.cons.injEq, D.int.injEq, D.loc.injEq, D.tup.injEq, and_true, true_and, startD, List.map_cons, List.map_nil, List.length_cons, List.length_nil, List.replicate, List.cons_append, List.nil_append, List.getElem?_cons_zero, List.getElem?_cons_succ, List.getElem?_nil, List.set_cons_zero, List.set_cons_succ, List.set_nil, Nat.add_zero, Nat.zero_add, Nat.reduceAdd, Nat.reduceSub]
  refine ⟨.inl ⟨by omega, by omega⟩, .inl ⟨by decide, by decide⟩, by decide, ⟨by decide, by decide⟩, hm, ?_⟩
  exact k _ (Int.emod_nonneg _ (by omega)) (Int.emod_lt_of_pos _ hm)
theorem eq_nil {n m : Nat} {ns : List Int} {S : Sto} (h : S[n]? = some (.lst (ns.map .int))) (h2 : S[m]? = some (.lst [])) : eqD S (.loc n) (.loc m) = some ns.isEmpty := by
  have hints : ∀ (f : Nat → Option PyData) (ns : List Int), datWL f (ns.map .int) = some (ns.map .int) := by
    intro f ns
    induction ns with
    | nil => rfl
    | cons n ns ih => simp only [List.map_cons, datWL, datW, ih]
  have lay : ∀ ns : List Int, PyData.canLayAll0 (ns.map .int) = true ∧ PyData.depthAll (ns.map .int) = 0 := by
    intro ns
    induction ns with
    | nil => exact ⟨by simp [PyData.canLayAll0], by simp [PyData.depthAll]⟩
    | cons n ns ih => exact ⟨by simp [PyData.canLayAll0, PyData.canLay0, ih.1], by simp [PyData.depthAll, PyData.depth, ih.2]⟩
  have d1 : dat S (.loc n) = some (.list (ns.map .int)) := by
    simp only [dat, datW, datN, h, hints, Option.map_some]
  have d2 : dat S (.loc m) = some (.list []) := by
    simp only [dat, datW, datN, h2, datWL, Option.map_some]
  have s1 : SeqAt.shaped (.list (ns.map .int)) = true := by
    simp [SeqAt.shaped, PyData.canLay0, PyData.depth, (lay ns).1, (lay ns).2]
  have s2 : SeqAt.shaped (.list []) = true := by simp [SeqAt.shaped, PyData.canLay0, PyData.canLayAll0, PyData.depth, PyData.depthAll]
  have e : eqD S (.loc n) (.loc m) = (match dat S (.loc n), dat S (.loc m) with
    | some p, some q => if (SeqAt.shaped p && SeqAt.shaped q) = true then some (PyData.eqv p q) else none
    | _, _ => none) := rfl
  rw [e, d1, d2]
  dsimp only
  rw [s1, s2]
  cases ns <;> simp [PyData.eqv, PyData.eqvAll]
theorem draw_run {n c : Nat} {S : Sto} {many : Int} {Q : D → Sto → Prop} (h : Dk n c S) (hm : 0 < many) (hm2 : many < 1073741824) (k : ∀ r S', 0 ≤ r → r < many → Dk n c S' → Keep n c S S' → Q (.int r) S') : Run (pDraw [.loc n, .int many]) S Q := by
  obtain ⟨⟨a, t, ns, h1, h2, hl⟩, hne⟩ := h
  unfold pDraw
  simp only [fn_rt, fn_nx, seq_nx, seq_rt, seq_bk, seq_ct, turn_nx, turn_ct, turn_bk, turn_rt, run_fn, run_seq, run_asg, run_op, run_un, run_nil, run_cons, run_tup, run_lst, run_and, run_or, run_not, run_if, run_chain, run_call, run_callK, run_B, run_add, run_sub, run_lt, run_le, run_gt, run_ge, run_neg, run_mod, run_div, run_pow, run_mul, run_is, iN0, iN1, iN2, iN3, iN4, iN5, run_eqInt, run_eqStr, run_intB, run_min, run_max, run_lenT, run_mt0, run_mt, run_pass, run_rt, run_drop, run_sif, run_gn, run_par, run_gsn, run_gsc, run_gsb, run_for, run_iR1, run_iR2, run_ret, run_new, run_C, run_var', run_gtp, run_lc, on_some, on_none, exists_eq_left, exists_eq_left', Option.some.injEq, D.bl.injEq, List.cons.injEq, D.int.injEq, D.loc.injEq, D.tup.injEq, and_true, true_and, startD, List.map_cons, List.map_nil, List.length_cons, List.length_nil, List.replicate, List.cons_append, List.nil_append, List.getElem?_cons_zero, List.getElem?_cons_succ, List.getElem?_nil, List.set_cons_zero, List.set_cons_succ, List.set_nil, Nat.add_zero, Nat.zero_add, Nat.reduceAdd, Nat.reduceSub]
  refine (run_ixL h1 (d := .int t) rfl).mpr ?_
  simp only [fn_rt, fn_nx, seq_nx, seq_rt, seq_bk, seq_ct, turn_nx, turn_ct, turn_bk, turn_rt, run_fn, run_seq, run_asg, run_op, run_un, run_nil, run_cons, run_tup, run_lst, run_and, run_or, run_not, run_if, run_chain, run_call, run_callK, run_B, run_add, run_sub, run_lt, run_le, run_gt, run_ge, run_neg, run_mod, run_div, run_pow, run_mul, run_is, iN0, iN1, iN2, iN3, iN4, iN5, run_eqInt, run_eqStr, run_intB, run_min, run_max, run_lenT, run_mt0, run_mt, run_pass, run_rt, run_drop, run_sif, run_gn, run_par, run_gsn, run_gsc, run_gsb, run_for, run_iR1, run_iR2, run_ret, run_new, run_C, run_var', run_gtp, run_lc, on_some, on_none, exists_eq_left, exists_eq_left', Option.some.injEq, D.bl.injEq, List.cons.injEq, D.int.injEq, D.loc.injEq, D.tup.injEq, and_true, true_and, startD, List.map_cons, List.map_nil, List.length_cons, List.length_nil, List.replicate, List.cons_append, List.nil_append, List.getElem?_cons_zero, List.getElem?_cons_succ, List.getElem?_nil, List.set_cons_zero, List.set_cons_succ, List.set_nil, Nat.add_zero, Nat.zero_add, Nat.reduceAdd, Nat.reduceSub]
  refine (run_setL h1 (k := 2) rfl).mpr ?_
  have g1 : (S.set n (.lst ([D.loc c, D.int a, D.int t].set 2 (D.int (t + 1)))))[n]? = some (.lst [.loc c, .int a, .int (t + 1)]) := get_put h1
  have g2 : (S.set n (.lst ([D.loc c, D.int a, D.int t].set 2 (D.int (t + 1)))))[c]? = some (.lst (ns.map .int)) := get_set h2 hne
  have g3 : Keep n c S (S.set n (.lst ([D.loc c, D.int a, D.int t].set 2 (D.int (t + 1))))) := ⟨fun _ _ h a b => get_set h (fun z => a z.symm)⟩
  generalize (S.set n (.lst ([D.loc c, D.int a, D.int t].set 2 (D.int (t + 1))))) = S1 at g1 g2 g3 ⊢
  unfold pDraw_7
  simp only [fn_rt, fn_nx, seq_nx, seq_rt, seq_bk, seq_ct, turn_nx, turn_ct, turn_bk, turn_rt, run_fn, run_seq, run_asg, run_op, run_un, run_nil, run_cons, run_tup, run_lst, run_and, run_or, run_not, run_if, run_chain, run_call, run_callK, run_B, run_add, run_sub, run_lt, run_le, run_gt, run_ge, run_neg, run_mod, run_div, run_pow, run_mul, run_is, iN0, iN1, iN2, iN3, iN4, iN5, run_eqInt, run_eqStr, run_intB, run_min, run_max, run_lenT, run_mt0, run_mt, run_pass, run_rt, run_drop, run_sif, run_gn, run_par, run_gsn, run_gsc, run_gsb, run_for, run_iR1, run_iR2, run_ret, run_new, run_C, run_var', run_gtp, run_lc, on_some, on_none, exists_eq_left, exists_eq_left', Option.some.injEq, D.bl.injEq, List.cons.injEq, D.int.injEq, D.loc.injEq, D.tup.injEq, and_true, true_and, startD, List.map_cons, List.map_nil, List.length_cons, List.length_nil, List.replicate, List.cons_append, List.nil_append, List.getElem?_cons_zero, List.getElem?_cons_succ, List.getElem?_nil, List.set_cons_zero, List.set_cons_succ, List.set_nil, Nat.add_zero, Nat.zero_add, Nat.reduceAdd, Nat.reduceSub]
  refine (run_ixL g1 (d := .int a) rfl).mpr ?_
  unfold pDraw_6
  simp only [fn_rt, fn_nx, seq_nx, seq_rt, seq_bk, seq_ct, turn_nx, turn_ct, turn_bk, turn_rt, run_fn, run_seq, run_asg, run_op, run_un, run_nil, run_cons, run_tup, run_lst, run_and, run_or, run_not, run_if, run_chain, run_call, run_callK, run_B, run_add, run_sub, run_lt, run_le, run_gt, run_ge, run_neg, run_mod, run_div, run_pow, run_mul, run_is, iN0, iN1, iN2, iN3, iN4, iN5, run_eqInt, run_eqStr, run_intB, run_min, run_max, run_lenT, run_mt0, run_mt, run_pass, run_rt, run_drop, run_sif, run_gn, run_par, run_gsn, run_gsc, run_gsb, run_for, run_iR1, run_iR2, run_ret, run_new, run_C, run_var', run_gtp, run_lc, on_some, on_none, exists_eq_left, exists_eq_left', Option.some.injEq, D.bl.injEq, List.cons.injEq, D.int.injEq, D.loc.injEq, D.tup.injEq, and_true, true_and, startD, List.map_cons, List.map_nil, List.length_cons, List.length_nil, List.replicate, List.cons_append, List.nil_append, List.getElem?_cons_zero, List.getElem?_cons_succ, List.getElem?_nil, List.set_cons_zero, List.set_cons_succ, List.set_nil, Nat.add_zero, Nat.zero_add, Nat.reduceAdd, Nat.reduceSub]
  refine (run_ixL g1 (d := .loc c) rfl).mpr ?_
  have f1 := get_app (o := .lst []) g1
  have f2 := get_app (o := .lst []) g2
  have f3 := g3.trans (Keep.app n c S1 (.lst []))
  have f4 : (S1 ++ [O.lst []])[S1.length]? = some (.lst []) := get_new
  refine run_eq.mpr ⟨_, eq_nil f2 f4, ?_⟩
  generalize S1 ++ [O.lst []] = S2 at f1 f2 f3 f4 ⊢
  clear f4
  rcases List.eq_nil_or_concat ns with rfl | ⟨init, last, rfl⟩
  · refine ⟨false, rfl, ?_⟩
    rw [if_neg Bool.false_ne_true]
    exact draw5 f1 hm fun r r0 r1 => k r S2 r0 r1 ⟨⟨a, t + 1, [], f1, f2, by simp⟩, hne⟩ f3
  · refine ⟨true, by simp, ?_⟩
    rw [if_pos rfl]
    try simp only [fn_rt, fn_nx, seq_nx, seq_rt, seq_bk, seq_ct, turn_nx, turn_ct, turn_bk, turn_rt, run_fn, run_seq, run_asg, run_op, run_un, run_nil, run_cons, run_tup, run_lst, run_and, run_or, run_not, run_if, run_chain, run_call, run_callK, run_B, run_add, run_sub, run_lt, run_le, run_gt, run_ge, run_neg, run_mod, run_div, run_pow, run_mul, run_is, iN0, iN1, iN2, iN3, iN4, iN5, run_eqInt, run_eqStr, run_intB, run_min, run_max, run_lenT, run_mt0, run_mt, run_pass, run_rt, run_drop, run_sif, run_gn, run_par, run_gsn, run_gsc, run_gsb, run_for, run_iR1, run_iR2, run_ret, run_new, run_C, run_var', run_gtp, run_lc, on_some, on_none, exists_eq_left, exists_eq_left', Option.some.injEq, D.bl.injEq, List.cons.injEq, D.int.injEq, D.loc.injEq, D.tup.injEq, and_true, true_and, startD, List.map_cons, List.map_nil, List.length_cons, List.length_nil, List.replicate, List.cons_append, List.nil_append, List.getElem?_cons_zero, List.getElem?_cons_succ, List.getElem?_nil, List.set_cons_zero, List.set_cons_succ, List.set_nil, Nat.add_zero, Nat.zero_add, Nat.reduceAdd, Nat.reduceSub]
    refine (run_ixL f1 (d := .loc c) rfl).mpr ?_
    rw [List.concat_eq_append, List.map_append] at f2
    refine (run_pop' (xs := init.map .int) (d := .int last) f2).mpr ?_
    have e1 : (S2.set c (.lst (init.map .int)))[n]? = some (.lst [.loc c, .int a, .int (t + 1)]) := get_set f1 (Ne.symm hne)
    have e2 : (S2.set c (.lst (init.map .int)))[c]? = some (.lst (init.map .int)) := get_put f2
    have e3 : Keep n c S (S2.set c (.lst (init.map .int))) := f3.trans ⟨fun _ _ h a b => get_set h (fun z => b z.symm)⟩
    generalize S2.set c (.lst (init.map .int)) = S3 at e1 e2 e3 ⊢
    have hl2 : init.length ≤ 1000 := by simp at hl; omega
    unfold pDraw_2
    simp only [fn_rt, fn_nx, seq_nx, seq_rt, seq_bk, seq_ct, turn_nx, turn_ct, turn_bk, turn_rt, run_fn, run_seq, run_asg, run_op, run_un, run_nil, run_cons, run_tup, run_lst, run_and, run_or, run_not, run_if, run_chain, run_call, run_callK, run_B, run_add, run_sub, run_lt, run_le, run_gt, run_ge, run_neg, run_mod, run_div, run_pow, run_mul, run_is, iN0, iN1, iN2, iN3, iN4, iN5, run_eqInt, run_eqStr, run_intB, run_min, run_max, run_lenT, run_mt0, run_mt, run_pass, run_rt, run_drop, run_sif, run_gn, run_par, run_gsn, run_gsc, run_gsb, run_for, run_iR1, run_iR2, run_ret, run_new, run_C, run_var', run_gtp, run_lc, on_some, on_none, exists_eq_left, exists_eq_left', Option.some.injEq, D.bl.injEq, List.cons.injEq, D.int.injEq, D.loc.injEq, D.tup.injEq, and_true, true_and, startD, List.map_cons, List.map_nil, List.length_cons, List.length_nil, List.replicate, List.cons_append, List.nil_append, List.getElem?_cons_zero, List.getElem?_cons_succ, List.getElem?_nil, List.set_cons_zero, List.set_cons_succ, List.set_nil, Nat.add_zero, Nat.zero_add, Nat.reduceAdd, Nat.reduceSub]
    refine ⟨⟨by decide, by decide, by decide⟩, ?_⟩
    by_cases big : (10 : Int) ^ Int.toNat 18 ≤ last
    · rw [decide_eq_true big, if_pos rfl]
      refine (run_ixL e1 (d := .loc c) rfl).mpr ?_
      refine ⟨c, _, rfl, e2, ⟨hm, hm2⟩, ?_⟩
      have hl3 : (init.map D.int).length < sizeLine := by rw [List.length_map]; exact Nat.lt_of_le_of_lt hl2 (by decide)
      refine (run_app e2 hl3).mpr ?_
      unfold pDraw_1
      simp only [fn_rt, fn_nx, seq_nx, seq_rt, seq_bk, seq_ct, turn_nx, turn_ct, turn_bk, turn_rt, run_fn, run_seq, run_asg, run_op, run_un, run_nil, run_cons, run_tup, run_lst, run_and, run_or, run_not, run_if, run_chain, run_call, run_callK, run_B, run_add, run_sub, run_lt, run_le, run_gt, run_ge, run_neg, run_mod, run_div, run_pow, run_mul, run_is, iN0, iN1, iN2, iN3, iN4, iN5, run_eqInt, run_eqStr, run_intB, run_min, run_max, run_lenT, run_mt0, run_mt, run_pass, run_rt, run_drop, run_sif, run_gn, run_par, run_gsn, run_gsc, run_gsb, run_for, run_iR1, run_iR2, run_ret, run_new, run_C, run_var', run_gtp, run_lc, on_some, on_none, exists_eq_left, exists_eq_left', Option.some.injEq, D.bl.injEq, List.cons.injEq, D.int.injEq, D.loc.injEq, D.tup.injEq, and_true, true_and, startD, List.map_cons, List.map_nil, List.length_cons, List.length_nil, List.replicate, List.cons_append, List.nil_append, List.getElem?_cons_zero, List.getElem?_cons_succ, List.getElem?_nil, List.set_cons_zero, List.set_cons_succ, List.set_nil, Nat.add_zero, Nat.zero_add, Nat.reduceAdd, Nat.reduceSub]
      refine ⟨hm, k _ _ (Int.emod_nonneg _ (by omega)) (Int.emod_lt_of_pos _ hm) ⟨⟨a, t + 1, init ++ [last / many], get_set e1 (Ne.symm hne), ?_, ?_⟩, hne⟩ (e3.trans ⟨fun _ _ h a b => get_set h (fun z => b z.symm)⟩)⟩
      · rw [get_put e2]; simp
      · simp at hl ⊢; omega
    · rw [decide_eq_false big, if_neg Bool.false_ne_true]
      exact draw5 e1 hm fun r r0 r1 => k r S3 r0 r1 ⟨⟨a, t + 1, init, e1, e2, hl2⟩, hne⟩ e3
/-- a pick of a written list: pre.. any item -/
def pPick : List D → M D := mFn 2 (sRet (mOp oIx (mVar 1) (mCall pDraw (mCons (mVar 0) (mCons (mB bLen (mCons (mVar 1) mNil)) mNil)))))
theorem atI_of {xs : List D} {r : Int} (h0 : 0 ≤ r) (h1 : r < xs.length) : ∃ d, atI xs r = some d ∧ d ∈ xs := by
  obtain ⟨j, rfl⟩ : ∃ j : Nat, r = (j : Int) := ⟨r.toNat, by omega⟩
  have hl : j < xs.length := by omega
  exact ⟨xs[j], L2.atI_nat (List.getElem?_eq_getElem hl), List.getElem_mem hl⟩
theorem pick_run {n c l : Nat} {S : Sto} {xs : List D} {Q : D → Sto → Prop} (h : Dk n c S) (hx : S[l]? = some (.lst xs)) (n1 : l ≠ n) (n2 : l ≠ c) (h0 : 0 < xs.length) (h1 : xs.length < 1000) (k : ∀ d S', d ∈ xs → Dk n c S' → Keep n c S S' → Q d S') : Run (pPick [.loc n, .loc l]) S Q := by
  unfold pPick
  simp only [fn_rt, fn_nx, seq_nx, seq_rt, seq_bk, seq_ct, turn_nx, turn_ct, turn_bk, turn_rt, run_fn, run_seq, run_asg, run_op, run_un, run_nil, run_cons, run_tup, run_lst, run_and, run_or, run_not, run_if, run_chain, run_call, run_callK, run_B, run_add, run_sub, run_lt, run_le, run_gt, run_ge, run_neg, run_mod, run_div, run_pow, run_mul, run_is, iN0, iN1, iN2, iN3, iN4, iN5, run_eqInt, run_eqStr, run_intB, run_min, run_max, run_lenT, run_mt0, run_mt, run_pass, run_rt, run_drop, run_sif, run_gn, run_par, run_gsn, run_gsc, run_gsb, run_for, run_iR1, run_iR2, run_ret, run_new, run_C, run_var', run_gtp, run_lc, on_some, on_none, exists_eq_left, exists_eq_left', Option.some.injEq, D.bl.injEq, List.cons.injEq, D.int.injEq, D.loc.injEq, D.tup.injEq, and_true, true_and, startD, List.map_cons, List.map_nil, List.length_cons, List.length_nil, List.replicate, List.cons_append, List.nil_append, List.getElem?_cons_zero, List.getElem?_cons_succ, List.getElem?_nil, List.set_cons_zero, List.set_cons_succ, List.set_nil, Nat.add_zero, Nat.zero_add, Nat.reduceAdd, Nat.reduceSub]
  refine (run_lenL hx).mpr ?_
  refine draw_run h (by omega) (by omega) fun r S1 r0 r1 D1 K1 => ?_
  obtain ⟨d, hd, hm⟩ := atI_of r0 r1
  exact (run_ixL (K1.at_ _ _ hx n1 n2) hd).mpr (k d S1 hm D1 K1)
theorem pickT_run {n c : Nat} {S : Sto} {xs : List D} {Q : D → Sto → Prop} (h : Dk n c S) (h0 : 0 < xs.length) (h1 : xs.length < 1000) (k : ∀ d S', d ∈ xs → Dk n c S' → Keep n c S S' → Q d S') : Run (pPick [.loc n, .tup xs]) S Q := by
  unfold pPick
  simp only [fn_rt, fn_nx, seq_nx, seq_rt, seq_bk, seq_ct, turn_nx, turn_ct, turn_bk, turn_rt, run_fn, run_seq, run_asg, run_op, run_un, run_nil, run_cons, run_tup, run_lst, run_and, run_or, run_not, run_if, run_chain, run_call, run_callK, run_B, run_add, run_sub, run_lt, run_le, run_gt, run_ge, run_neg, run_mod, run_div, run_pow, run_mul, run_is, iN0, iN1, iN2, iN3, iN4, iN5, run_eqInt, run_eqStr, run_intB, run_min, run_max, run_lenT, run_mt0, run_mt, run_pass, run_rt, run_drop, run_sif, run_gn, run_par, run_gsn, run_gsc, run_gsb, run_for, run_iR1, run_iR2, run_ret, run_new, run_C, run_var', run_gtp, run_lc, on_some, on_none, exists_eq_left, exists_eq_left', Option.some.injEq, D.bl.injEq, List.cons.injEq, D.int.injEq, D.loc.injEq, D.tup.injEq, and_true, true_and, startD, List.map_cons, List.map_nil, List.length_cons, List.length_nil, List.replicate, List.cons_append, List.nil_append, List.getElem?_cons_zero, List.getElem?_cons_succ, List.getElem?_nil, List.set_cons_zero, List.set_cons_succ, List.set_nil, Nat.add_zero, Nat.zero_add, Nat.reduceAdd, Nat.reduceSub]
  refine draw_run h (by omega) (by omega) fun r S1 r0 r1 D1 K1 => ?_
  obtain ⟨d, hd, hm⟩ := atI_of r0 r1
  exact (run_ixT hd).mpr (k d S1 hm D1 K1)
/-- between two ints -/
def pBounds : List D → M D := mFn 3 (sRet (mOp oIx (mLst (mCons (mVar 1) (mCons (mVar 2) (mCons (mOp oAdd (mVar 1) (mCall pDraw (mCons (mVar 0) (mCons (mOp oAdd (mOp oSub (mVar 2) (mVar 1)) (mC (.int 1))) mNil)))) mNil)))) (mCall pDraw (mCons (mVar 0) (mCons (mC (.int 3)) mNil)))))
theorem bounds_run {n c : Nat} {S : Sto} {lo hi : Int} {Q : D → Sto → Prop} (h : Dk n c S) (h0 : lo ≤ hi) (h1 : hi - lo < 1000000) (k : ∀ r S', lo ≤ r → r ≤ hi → Dk n c S' → Keep n c S S' → Q (.int r) S') : Run (pBounds [.loc n, .int lo, .int hi]) S Q := by
  unfold pBounds
  simp only [fn_rt, fn_nx, seq_nx, seq_rt, seq_bk, seq_ct, turn_nx, turn_ct, turn_bk, turn_rt, run_fn, run_seq, run_asg, run_op, run_un, run_nil, run_cons, run_tup, run_lst, run_and, run_or, run_not, run_if, run_chain, run_call, run_callK, run_B, run_add, run_sub, run_lt, run_le, run_gt, run_ge, run_neg, run_mod, run_div, run_pow, run_mul, run_is, iN0, iN1, iN2, iN3, iN4, iN5, run_eqInt, run_eqStr, run_intB, run_min, run_max, run_lenT, run_mt0, run_mt, run_pass, run_rt, run_drop, run_sif, run_gn, run_par, run_gsn, run_gsc, run_gsb, run_for, run_iR1, run_iR2, run_ret, run_new, run_C, run_var', run_gtp, run_lc, on_some, on_none, exists_eq_left, exists_eq_left', Option.some.injEq, D.bl.injEq, List.cons.injEq, D.int.injEq, D.loc.injEq, D.tup.injEq, and_true, true_and, startD, List.map_cons, List.map_nil, List.length_cons, List.length_nil, List.replicate, List.cons_append, List.nil_append, List.getElem?_cons_zero, List.getElem?_cons_succ, List.getElem?_nil, List.set_cons_zero, List.set_cons_succ, List.set_nil, Nat.add_zero, Nat.zero_add, Nat.reduceAdd, Nat.reduceSub]
  refine draw_run h (by omega) (by omega) fun r S1 r0 r1 D1 K1 => ?_
  simp only [fn_rt, fn_nx, seq_nx, seq_rt, seq_bk, seq_ct, turn_nx, turn_ct, turn_bk, turn_rt, run_fn, run_seq, run_asg, run_op, run_un, run_nil, run_cons, run_tup, run_lst, run_and, run_or, run_not, run_if, run_chain, run_call, run_callK, run_B, run_add, run_sub, run_lt, run_le, run_gt, run_ge, run_neg, run_mod, run_div, run_pow, run_mul, run_is, iN0, iN1, iN2, iN3, iN4, iN5, run_eqInt, run_eqStr, run_intB, run_min, run_max, run_lenT, run_mt0, run_mt, run_pass, run_rt, run_drop, run_sif, run_gn, run_par, run_gsn, run_gsc, run_gsb, run_for, run_iR1, run_iR2, run_ret, run_new, run_C, run_var', run_gtp, run_lc, on_some, on_none, exists_eq_left, exists_eq_left', Option.some.injEq, D.bl.injEq, List.cons.injEq, D.int.injEq, D.loc.injEq, D.tup.injEq, and_true, true_and, startD, List.map_cons, List.map_nil, List.length_cons, List.length_nil, List.replicate, List.cons_append, List.nil_append, List.getElem?_cons_zero, List.getElem?_cons_succ, List.getElem?_nil, List.set_cons_zero, List.set_cons_succ, List.set_nil, Nat.add_zero, Nat.zero_add, Nat.reduceAdd, Nat.reduceSub]
  have f4 : (S1 ++ [O.lst [D.int lo, D.int hi, D.int (lo + r)]])[S1.length]? = some (.lst [D.int lo, D.int hi, D.int (lo + r)]) := get_new
  have D2 := D1.app (.lst [D.int lo, D.int hi, D.int (lo + r)])
  have K2 := K1.trans (Keep.app n c S1 (.lst [D.int lo, D.int hi, D.int (lo + r)]))
  have nn : S1.length ≠ n := by
    obtain ⟨⟨_, _, _, g, _⟩, _⟩ := D1
    exact Nat.ne_of_gt (List.getElem?_eq_some_iff.mp g).1
  have nc : S1.length ≠ c := by
    obtain ⟨⟨_, _, _, _, g, _⟩, _⟩ := D1
    exact Nat.ne_of_gt (List.getElem?_eq_some_iff.mp g).1
  refine draw_run D2 (by omega) (by omega) fun q S2 q0 q1 D3 K3 => ?_
  obtain ⟨d, hd, hm⟩ := atI_of (xs := [D.int lo, D.int hi, D.int (lo + r)]) q0 (by simpa using q1)
  refine (run_ixL (K3.at_ _ _ f4 nn nc) hd).mpr ?_
  simp only [List.mem_cons, List.not_mem_nil, or_false] at hm
  rcases hm with rfl | rfl | rfl
  · exact k _ _ (by omega) (by omega) D3 (K2.trans K3)
  · exact k _ _ (by omega) (by omega) D3 (K2.trans K3)
  · exact k _ _ (by omega) (by omega) D3 (K2.trans K3)
end Ev
namespace Ev
open PySem
open L2 (atI ixN Key)
section
variable {S : Sto} {Q : D → Sto → Prop} {env : DEnv} {a b c d e f : D} {xs : List D}
theorem run_ixM {i : Int} : Run (oIx (.tup xs) (.int i)) S Q ↔ ∃ d, atI xs i = some d ∧ Q d S := by
  constructor
  · rintro ⟨d, S', h, q⟩
    unfold oIx at h
    obtain ⟨z, h1, h2⟩ := Option.map_eq_some_iff.mp h
    cases h2
    exact ⟨_, h1, q⟩
  · rintro ⟨d, h, q⟩
    exact (run_ixT h).mpr q
theorem at0 : atI (a :: xs) 0 = some a := L2.atI_nat (j := 0) rfl
theorem at1 : atI (a :: b :: xs) 1 = some b := L2.atI_nat (j := 1) rfl
theorem at2 : atI (a :: b :: c :: xs) 2 = some c := L2.atI_nat (j := 2) rfl
theorem at3 : atI (a :: b :: c :: d :: xs) 3 = some d := L2.atI_nat (j := 3) rfl
theorem at4 : atI (a :: b :: c :: d :: e :: xs) 4 = some e := L2.atI_nat (j := 4) rfl
theorem at5 : atI (a :: b :: c :: d :: e :: f :: xs) 5 = some f := L2.atI_nat (j := 5) rfl
theorem am4 : atI [a, b, c, d] (-1) = some d := rfl
theorem am4' : atI [a, b, c, d] (-2) = some c := rfl
theorem am5 : atI [a, b, c, d, e] (-1) = some e := rfl
theorem am5' : atI [a, b, c, d, e] (-2) = some d := rfl
theorem am6 : atI [a, b, c, d, e, f] (-1) = some f := rfl
theorem am6' : atI [a, b, c, d, e, f] (-2) = some e := rfl
theorem run_sl {m : ME} {lo hi : MO} : Run (mSl m lo hi env) S Q ↔ Run (m env) S fun x S1 => Run (lo env) S1 fun l S2 => Run (hi env) S2 fun h S3 => Run (oSl x l h) S3 Q := by
  unfold mSl; simp only [run_bd]
theorem run_pNo {G : Option Int → Sto → Prop} : Run (pNo env) S G ↔ G none S := run_ret
theorem run_pS {G : Option Int → Sto → Prop} {m : ME} : Run (pSome m env) S G ↔ Run (m env) S fun x S1 => ∃ i, x = .int i ∧ G (some i) S1 := by
  unfold pSome; rw [run_bd]
  refine run_congr fun x S1 => ?_
  constructor
  · intro h
    cases x with
    | int i => exact ⟨i, rfl, run_ret.mp h⟩
    | _ => exact (run_no.mp h).elim
  · rintro ⟨i, rfl, h⟩
    exact run_ret.mpr h
end
/-- only more things -/
def Gr (S S' : Sto) : Prop := ∀ (k : Nat) (u : O), S[k]? = some u → S'[k]? = some u
theorem Gr.refl (S : Sto) : Gr S S := fun _ _ h => h
theorem Gr.trans {S S1 S2 : Sto} (a : Gr S S1) (b : Gr S1 S2) : Gr S S2 := fun k u h => b k u (a k u h)
theorem Gr.app (S : Sto) (o : O) : Gr S (S ++ [o]) := fun _ _ h => get_app h
theorem Gr.keep {S S' : Sto} (g : Gr S S') (n c : Nat) : Keep n c S S' := ⟨fun k u h _ _ => g k u h⟩
theorem Dk.gr {n c : Nat} {S S' : Sto} (h : Dk n c S) (g : Gr S S') : Dk n c S' := by
  obtain ⟨⟨a, t, ns, g1, g2, hl⟩, hne⟩ := h
  exact ⟨⟨a, t, ns, g _ _ g1, g _ _ g2, hl⟩, hne⟩
theorem Dk.new {n c : Nat} {S : Sto} (h : Dk n c S) : S.length ≠ n ∧ S.length ≠ c := by
  obtain ⟨⟨_, _, _, g, g2, _⟩, _⟩ := h
  exact ⟨Nat.ne_of_gt (List.getElem?_eq_some_iff.mp g).1, Nat.ne_of_gt (List.getElem?_eq_some_iff.mp g2).1⟩
theorem Keep.set {n c k : Nat} {S S' : Sto} (h : Keep n c S S') (o : O) (hk : S.length ≤ k) : Keep n c S (S'.set k o) := ⟨fun j u e a b => get_set (h.at_ j u e a b) (by
  have := (List.getElem?_eq_some_iff.mp e).1
  omega)⟩
/-! the deck itself -/
def pDeck_1 : MS := sRet (mLst (mCons (mRev (mVar 1)) (mCons (mOp oAdd (mB bSum (mCons (mLc (iVal (mVar 1)) (gNm 2) (mC (.bl true)) (mOp oMod (mVar 2) (mC (.int 1000003))) [2]) mNil)) (mOp oMul (mC (.int 7919)) (mB bLen (mCons (mVar 1) mNil)))) (mCons (mC (.int 0)) mNil))))
def pDeck : List D → M D := mFn 3 (sSeq (sAsg (mB bList (mCons (mSl (mVar 0) pNo (pSome (mC (.int 63)))) mNil)) (gNm 1)) pDeck_1)
theorem run_rev {m : ME} {env : DEnv} {S : Sto} {Q : D → Sto → Prop} : Run (mRev m env) S Q ↔ Run (m env) S fun x S1 => Run (mRev (fun _ => ret x) env) S1 Q := by
  unfold mRev; rw [run_bd]; simp only [run_bd, run_ret]
theorem run_revL {n : Nat} {xs : List D} {env : DEnv} {S : Sto} {Q : D → Sto → Prop} (h : S[n]? = some (.lst xs)) : Run (mRev (fun _ => ret (.loc n)) env) S Q ↔ Q (.loc S.length) (S ++ [.lst xs.reverse]) := by
  unfold mRev; rw [run_bd, run_ret]; exact run_some (by dsimp only; rw [h]; rfl)
theorem run_listL {n : Nat} {xs : List D} {S : Sto} {Q : D → Sto → Prop} (h : S[n]? = some (.lst xs)) : Run (bList [.loc n]) S Q ↔ Q (.loc S.length) (S ++ [.lst xs]) := run_some (by unfold bList; dsimp only [items]; rw [h]; rfl)
theorem intsOf_map : ∀ ns : List Int, intsOf (ns.map .int) = some ns
  | [] => rfl
  | n :: ns => by simp only [List.map_cons, intsOf, intsOf_map ns, Option.map_some]
theorem run_sumL {n : Nat} {ns : List Int} {S : Sto} {Q : D → Sto → Prop} (h : S[n]? = some (.lst (ns.map .int))) : Run (bSum [.loc n]) S Q ↔ Q (.int ns.sum) S := run_some (by unfold bSum; dsimp only; rw [h]; dsimp only; rw [intsOf_map]; rfl)
theorem cut_ints (ns : List Int) (lo hi : Option Int) : ∃ ms : List Int, cutD (ns.map .int) lo hi = ms.map .int ∧ ms.length ≤ ns.length := by
  unfold cutD
  exact ⟨_, by rw [← List.map_drop, ← List.map_take], by rw [List.length_take, List.length_drop]; omega⟩
theorem deck_run {ns : List Int} (hn : ns.length ≤ 63) {Q : D → Sto → Prop} (k : ∀ n c S', Dk n c S' → Q (.loc n) S') : Run (pDeck [.sq (ns.map .int)]) [] Q := by
  unfold pDeck
  simp only [fn_rt, fn_nx, seq_nx, seq_rt, seq_bk, seq_ct, turn_nx, turn_ct, turn_bk, turn_rt, run_fn, run_seq, run_asg, run_op, run_un, run_nil, run_cons, run_tup, run_lst, run_and, run_or, run_not, run_if, run_chain, run_call, run_callK, run_B, run_add, run_sub, run_lt, run_le, run_gt, run_ge, run_neg, run_mod, run_div, run_pow, run_mul, run_is, iN0, iN1, iN2, iN3, iN4, iN5, run_eqInt, run_eqStr, run_intB, run_min, run_max, run_lenT, run_mt0, run_mt, run_pass, run_rt, run_drop, run_sif, run_gn, run_par, run_gsn, run_gsc, run_gsb, run_for, run_iR1, run_iR2, run_ret, run_new, run_C, run_var', run_gtp, run_lc, on_some, on_none, exists_eq_left, exists_eq_left', Option.some.injEq, D.bl.injEq, List.cons.injEq, D.int.injEq, D.loc.injEq, D.tup.injEq, and_true, true_and, startD, List.map_cons, List.map_nil, List.length_cons, List.length_nil, List.replicate, List.cons_append, List.nil_append, List.getElem?_cons_zero, List.getElem?_cons_succ, List.getElem?_nil, List.set_cons_zero, List.set_cons_succ, List.set_nil, Nat.add_zero, Nat.zero_add, Nat.reduceAdd, Nat.reduceSub, run_sl, run_pNo, run_pS]
  obtain ⟨ms, hms, hml⟩ := cut_ints ns none (some 63)
  refine (run_some (m := oSl (.sq (ns.map .int)) none (some 63)) (a := .loc 0) (S' := [.lst (ms.map .int)]) (by unfold oSl; dsimp only; rw [hms]; rfl)).mpr ?_
  refine (run_listL (S := [.lst (ms.map .int)]) (n := 0) (xs := ms.map .int) rfl).mpr ?_
  unfold pDeck_1
  simp only [fn_rt, fn_nx, seq_nx, seq_rt, seq_bk, seq_ct, turn_nx, turn_ct, turn_bk, turn_rt, run_fn, run_seq, run_asg, run_op, run_un, run_nil, run_cons, run_tup, run_lst, run_and, run_or, run_not, run_if, run_chain, run_call, run_callK, run_B, run_add, run_sub, run_lt, run_le, run_gt, run_ge, run_neg, run_mod, run_div, run_pow, run_mul, run_is, iN0, iN1, iN2, iN3, iN4, iN5, run_eqInt, run_eqStr, run_intB, run_min, run_max, run_lenT, run_mt0, run_mt, run_pass, run_rt, run_drop, run_sif, run_gn, run_par, run_gsn, run_gsc, run_gsb, run_for, run_iR1, run_iR2, run_ret, run_new, run_C, run_var', run_gtp, run_lc, on_some, on_none, exists_eq_left, exists_eq_left', Option.some.injEq, D.bl.injEq, List.cons.injEq, D.int.injEq, D.loc.injEq, D.tup.injEq, and_true, true_and, startD, List.map_cons, List.map_nil, List.length_cons, List.length_nil, List.replicate, List.cons_append, List.nil_append, List.getElem?_cons_zero, List.getElem?_cons_succ, List.getElem?_nil, List.set_cons_zero, List.set_cons_succ, List.set_nil, Nat.add_zero, Nat.zero_add, Nat.reduceAdd, Nat.reduceSub]
  rw [run_rev]
  simp only [fn_rt, fn_nx, seq_nx, seq_rt, seq_bk, seq_ct, turn_nx, turn_ct, turn_bk, turn_rt, run_fn, run_seq, run_asg, run_op, run_un, run_nil, run_cons, run_tup, run_lst, run_and, run_or, run_not, run_if, run_chain, run_call, run_callK, run_B, run_add, run_sub, run_lt, run_le, run_gt, run_ge, run_neg, run_mod, run_div, run_pow, run_mul, run_is, iN0, iN1, iN2, iN3, iN4, iN5, run_eqInt, run_eqStr, run_intB, run_min, run_max, run_lenT, run_mt0, run_mt, run_pass, run_rt, run_drop, run_sif, run_gn, run_par, run_gsn, run_gsc, run_gsb, run_for, run_iR1, run_iR2, run_ret, run_new, run_C, run_var', run_gtp, run_lc, on_some, on_none, exists_eq_left, exists_eq_left', Option.some.injEq, D.bl.injEq, List.cons.injEq, D.int.injEq, D.loc.injEq, D.tup.injEq, and_true, true_and, startD, List.map_cons, List.map_nil, List.length_cons, List.length_nil, List.replicate, List.cons_append, List.nil_append, List.getElem?_cons_zero, List.getElem?_cons_succ, List.getElem?_nil, List.set_cons_zero, List.set_cons_succ, List.set_nil, Nat.add_zero, Nat.zero_add, Nat.reduceAdd, Nat.reduceSub]
  have h1 : ([O.lst (ms.map .int)] ++ [O.lst (ms.map .int)])[1]? = some (.lst (ms.map .int)) := rfl
  refine (run_revL h1).mpr ?_
  rw [run_iV]
  simp only [fn_rt, fn_nx, seq_nx, seq_rt, seq_bk, seq_ct, turn_nx, turn_ct, turn_bk, turn_rt, run_fn, run_seq, run_asg, run_op, run_un, run_nil, run_cons, run_tup, run_lst, run_and, run_or, run_not, run_if, run_chain, run_call, run_callK, run_B, run_add, run_sub, run_lt, run_le, run_gt, run_ge, run_neg, run_mod, run_div, run_pow, run_mul, run_is, iN0, iN1, iN2, iN3, iN4, iN5, run_eqInt, run_eqStr, run_intB, run_min, run_max, run_lenT, run_mt0, run_mt, run_pass, run_rt, run_drop, run_sif, run_gn, run_par, run_gsn, run_gsc, run_gsb, run_for, run_iR1, run_iR2, run_ret, run_new, run_C, run_var', run_gtp, run_lc, on_some, on_none, exists_eq_left, exists_eq_left', Option.some.injEq, D.bl.injEq, List.cons.injEq, D.int.injEq, D.loc.injEq, D.tup.injEq, and_true, true_and, startD, List.map_cons, List.map_nil, List.length_cons, List.length_nil, List.replicate, List.cons_append, List.nil_append, List.getElem?_cons_zero, List.getElem?_cons_succ, List.getElem?_nil, List.set_cons_zero, List.set_cons_succ, List.set_nil, Nat.add_zero, Nat.zero_add, Nat.reduceAdd, Nat.reduceSub]
  have h2 : ([O.lst (ms.map .int)] ++ [O.lst (ms.map .int)] ++ [O.lst (ms.map D.int).reverse])[1]? = some (.lst (ms.map .int)) := rfl
  refine (run_iVL h2).mpr ?_
  refine run_loopC (acc := []) (fun ys as S1 => S1 = [O.lst (ms.map .int)] ++ [O.lst (ms.map .int)] ++ [O.lst (ms.map D.int).reverse] ∧ (∃ zs : List Int, ys = zs.map .int) ∧ (∃ zs : List Int, as = zs.map .int) ∧ ys.length + as.length ≤ ms.length) ⟨rfl, ⟨ms, rfl⟩, ⟨[], rfl⟩, by simp⟩ ?_ ?_ ?_ ?_
  · rintro ys as S1 ⟨rfl, _⟩
    exact Gd.some h2
  · rintro y ys as S1 ⟨rfl, ⟨zs, hz⟩, ⟨ws, hw⟩, hl⟩
    cases zs with
    | nil => cases hz
    | cons z zs =>
      simp only [List.map_cons, List.cons.injEq] at hz
      obtain ⟨rfl, rfl⟩ := hz
      simp only [fn_rt, fn_nx, seq_nx, seq_rt, seq_bk, seq_ct, turn_nx, turn_ct, turn_bk, turn_rt, run_fn, run_seq, run_asg, run_op, run_un, run_nil, run_cons, run_tup, run_lst, run_and, run_or, run_not, run_if, run_chain, run_call, run_callK, run_B, run_add, run_sub, run_lt, run_le, run_gt, run_ge, run_neg, run_mod, run_div, run_pow, run_mul, run_is, iN0, iN1, iN2, iN3, iN4, iN5, run_eqInt, run_eqStr, run_intB, run_min, run_max, run_lenT, run_mt0, run_mt, run_pass, run_rt, run_drop, run_sif, run_gn, run_par, run_gsn, run_gsc, run_gsb, run_for, run_iR1, run_iR2, run_ret, run_new, run_C, run_var', run_gtp, run_lc, on_some, on_none, exists_eq_left, exists_eq_left', Option.some.injEq, D.bl.injEq, List.cons.injEq, D.int.injEq, D.loc.injEq, D.tup.injEq, and_true, true_and, wipeD, startD, List.map_cons, List.map_nil, List.length_cons, List.length_nil, List.replicate, List.cons_append, List.nil_append, List.getElem?_cons_zero, List.getElem?_cons_succ, List.getElem?_nil, List.set_cons_zero, List.set_cons_succ, List.set_nil, Nat.add_zero, Nat.zero_add, Nat.reduceAdd, Nat.reduceSub]
      refine ⟨by decide, ⟨zs, rfl⟩, ⟨ws ++ [z % 1000003], by rw [hw]; simp⟩, ?_⟩
      simp at hl ⊢
      omega
  · rintro as S1 ⟨rfl, _, ⟨ws, hw⟩, hl⟩
    refine ⟨as, by simp, ?_⟩
    subst hw
    simp at hl
    refine ⟨by simp; have : (sizeLine : Nat) = 16777216 := sizeLine_eq; omega, ?_⟩
    refine (run_sumL (ns := ws) rfl).mpr ?_
    have h3 : ([O.lst (ms.map .int)] ++ [O.lst (ms.map .int)] ++ [O.lst (ms.map D.int).reverse] ++ [O.lst (ws.map .int)])[1]? = some (.lst (ms.map .int)) := rfl
    refine (run_lenL h3).mpr ?_
    simp only [fn_rt, fn_nx, seq_nx, seq_rt, seq_bk, seq_ct, turn_nx, turn_ct, turn_bk, turn_rt, run_fn, run_seq, run_asg, run_op, run_un, run_nil, run_cons, run_tup, run_lst, run_and, run_or, run_not, run_if, run_chain, run_call, run_callK, run_B, run_add, run_sub, run_lt, run_le, run_gt, run_ge, run_neg, run_mod, run_div, run_pow, run_mul, run_is, iN0, iN1, iN2, iN3, iN4, iN5, run_eqInt, run_eqStr, run_intB, run_min, run_max, run_lenT, run_mt0, run_mt, run_pass, run_rt, run_drop, run_sif, run_gn, run_par, run_gsn, run_gsc, run_gsb, run_for, run_iR1, run_iR2, run_ret, run_new, run_C, run_var', run_gtp, run_lc, on_some, on_none, exists_eq_left, exists_eq_left', Option.some.injEq, D.bl.injEq, List.cons.injEq, D.int.injEq, D.loc.injEq, D.tup.injEq, and_true, true_and, startD, List.map_cons, List.map_nil, List.length_cons, List.length_nil, List.replicate, List.cons_append, List.nil_append, List.getElem?_cons_zero, List.getElem?_cons_succ, List.getElem?_nil, List.set_cons_zero, List.set_cons_succ, List.set_nil, Nat.add_zero, Nat.zero_add, Nat.reduceAdd, Nat.reduceSub]
    refine ⟨.inl ⟨by decide, by decide⟩, ?_⟩
    refine k _ 2 _ ⟨⟨_, 0, ms.reverse, rfl, by rw [List.map_reverse]; rfl, by simp; omega⟩, by decide⟩
  · intro ys as S1 _
    exact ⟨as, by simp⟩
end Ev
namespace Ev
open PySem
open L2 (atI ixN Key)
mutual
/-- data whose text is short: small ints, plain texts, no dict -/
def sm : PyData → Bool
  | .none | .bool _ => true
  | .int i => decide (i.natAbs < 10 ^ 12)
  | .str x => x.cps.toList.all fun c => decide (c < 16 ^ 8)
  | .list xs | .tuple xs => smL xs
  | .dict _ => false
def smL : List PyData → Bool
  | [] => true
  | x :: xs => sm x && smL xs
end
mutual
theorem sm_ok : ∀ p : PyData, sm p = true → p.showable = true ∧ p.hasDict = false ∧ p.leavesShort 13 = true
  | .none, _ => ⟨by simp [PyData.showable], by simp [PyData.hasDict], by simp [PyData.leavesShort]⟩
  | .bool _, _ => ⟨by simp [PyData.showable], by simp [PyData.hasDict], by simp [PyData.leavesShort]⟩
  | .int i, h => by
    have h' : i.natAbs < 10 ^ 12 := by simpa [sm] using h
    refine ⟨?_, by simp [PyData.hasDict], by simpa [PyData.leavesShort] using PyData.shown_int_le h'⟩
    simp only [PyData.showable, decide_eq_true_eq]
    by_cases h0 : i.natAbs = 0
    · rw [h0]; decide
    · exact (Nat.log2_lt h0).mpr (Nat.lt_of_lt_of_le h' (by decide +kernel))
  | .str x, h => ⟨by simp [PyData.showable], by simp [PyData.hasDict], by simpa [PyData.leavesShort, sm] using h⟩
  | .list xs, h => by
    obtain ⟨h1, h2, h3⟩ := smL_ok xs (by simpa [sm] using h)
    exact ⟨by simpa [PyData.showable] using h1, by simpa [PyData.hasDict] using h2, by simpa [PyData.leavesShort] using h3⟩
  | .tuple xs, h => by
    obtain ⟨h1, h2, h3⟩ := smL_ok xs (by simpa [sm] using h)
    exact ⟨by simpa [PyData.showable] using h1, by simpa [PyData.hasDict] using h2, by simpa [PyData.leavesShort] using h3⟩
  | .dict _, h => by simp [sm] at h
theorem smL_ok : ∀ ps : List PyData, smL ps = true → PyData.showableAll ps = true ∧ PyData.hasDictAll ps = false ∧ PyData.leavesShortAll 13 ps = true
  | [], _ => ⟨by simp [PyData.showableAll], by simp [PyData.hasDictAll], by simp [PyData.leavesShortAll]⟩
  | p :: ps, h => by
    simp only [smL, Bool.and_eq_true] at h
    obtain ⟨h1, h2, h3⟩ := sm_ok p h.1
    obtain ⟨g1, g2, g3⟩ := smL_ok ps h.2
    exact ⟨by simp [PyData.showableAll, h1, g1], by simp [PyData.hasDictAll, h2, g2], by simp [PyData.leavesShortAll, h3, g3]⟩
end
mutual
def wt : PyData → Nat
  | .str x => x.cps.size
  | .list xs | .tuple xs => wtL xs
  | .int _ => 40
  | .none | .bool _ | .dict _ => 0
def wtL : List PyData → Nat
  | [] => 0
  | x :: xs => wt x + 1 + wtL xs
end
mutual
theorem wt_ok : ∀ p : PyData, sm p = true → p.weight ≤ wt p
  | .none, _ => by simp [PyData.weight]
  | .bool _, _ => by simp [PyData.weight]
  | .int i, h => by
    have h' : i.natAbs < 10 ^ 12 := by simpa [sm] using h
    simp only [PyData.weight, wt]
    split
    · omega
    · rename_i h0
      have : i.natAbs.log2 < 40 := (Nat.log2_lt (by simpa using h0)).mpr (Nat.lt_of_lt_of_le h' (by decide +kernel))
      omega
  | .str _, _ => by simp [PyData.weight, wt]
  | .list xs, h => by have := wtL_ok xs (by simpa [sm] using h); simpa [PyData.weight, wt] using this
  | .tuple xs, h => by have := wtL_ok xs (by simpa [sm] using h); simpa [PyData.weight, wt] using this
  | .dict _, h => by simp [sm] at h
theorem wtL_ok : ∀ ps : List PyData, smL ps = true → PyData.weightAll ps ≤ wtL ps
  | [], _ => by simp [PyData.weightAll]
  | p :: ps, h => by
    simp only [smL, Bool.and_eq_true] at h
    have h1 := wt_ok p h.1
    have h2 := wtL_ok ps h.2
    simp only [PyData.weightAll, wtL]
    omega
end
theorem run_reprS {x : D} {S : Sto} {Q : D → Sto → Prop} {p : PyData} (h : dat S x = some p) (hs : sm p = true) (hd : p.depth ≤ 100) (hw : wt p ≤ 2 ^ 20) : Run (bRepr [x]) S Q ↔ Q (.str p.shown) S := by
  obtain ⟨h1, h2, h3⟩ := sm_ok p hs
  refine run_repr h ?_
  simp only [h1, h2, Bool.not_false, Bool.and_self, Bool.true_and, Bool.and_eq_true, decide_eq_true_eq]
  exact ⟨hd, PyData.shown_fits (by decide) (by decide) h3 (Nat.le_trans (wt_ok p hs) hw)⟩
/-- ints of a list that stands in the store -/
theorem datL_ints (f : Nat → Option PyData) : ∀ ns : List Int, datWL f (ns.map .int) = some (ns.map .int)
  | [] => rfl
  | n :: ns => by simp only [List.map_cons, datWL, datW, datL_ints f ns]
theorem dat_ints {S : Sto} {n : Nat} {ns : List Int} (h : S[n]? = some (.lst (ns.map .int))) : dat S (.loc n) = some (.list (ns.map .int)) := by
  simp only [dat, datW, datN, h, datL_ints, Option.map_some]
theorem smL_ints : ∀ ns : List Int, (∀ n ∈ ns, n.natAbs < 10 ^ 12) → smL (ns.map .int) = true
  | [], _ => by simp [smL]
  | n :: ns, h => by simp only [List.map_cons, smL, sm, Bool.and_eq_true, decide_eq_true_eq]; exact ⟨h n (by simp), smL_ints ns fun m hm => h m (by simp [hm])⟩
theorem depth_ints : ∀ ns : List Int, PyData.depthAll (ns.map .int) = 0
  | [] => by simp [PyData.depthAll]
  | n :: ns => by simp [PyData.depthAll, PyData.depth, depth_ints ns]
theorem wt_ints : ∀ ns : List Int, wtL (ns.map .int) = 41 * ns.length
  | [] => by simp [wtL]
  | n :: ns => by have := wt_ints ns; simp only [List.map_cons, wtL, wt, List.length_cons]; omega
theorem run_reprL {n : Nat} {ns : List Int} {S : Sto} {Q : D → Sto → Prop} (h : S[n]? = some (.lst (ns.map .int))) (hs : ∀ n ∈ ns, n.natAbs < 10 ^ 12) (hl : ns.length ≤ 1000) : Run (bRepr [.loc n]) S Q ↔ Q (.str (PyData.shown (.list (ns.map .int)))) S :=
  run_reprS (dat_ints h) (by simpa [sm] using smL_ints ns hs) (by simp [PyData.depth, depth_ints]) (by have := wt_ints ns; simp only [wt]; omega)
theorem run_reprI {i : Int} {S : Sto} {Q : D → Sto → Prop} (h : i.natAbs < 10 ^ 12) : Run (bRepr [.int i]) S Q ↔ Q (.str (PyData.shown (.int i))) S :=
  run_reprS rfl (by simpa [sm] using h) (by simp [PyData.depth]) (by simp [wt])
end Ev
namespace Ev
open PySem
open L2 (atI ixN Key)
section
variable {S : Sto} {Q : D → Sto → Prop} {env : DEnv}
theorem run_dict {ps : List (ME × ME)} : Run (mDict ps env) S Q ↔ Run (mPairs ps env) S fun xs S1 => ∃ kvs, keysOf xs = some kvs ∧ kvs.length ≤ 15 ∧ Q (.loc S1.length) (S1 ++ [.dic (merge kvs)]) := by
  unfold mDict
  rw [run_bd]
  refine run_congr fun xs S1 => ?_
  constructor
  · rintro ⟨d, S', e, q⟩
    dsimp only at e
    split at e
    · rename_i kvs ek
      split at e
      · rename_i c; cases e; exact ⟨kvs, ek, c, q⟩
      · cases e
    · cases e
  · rintro ⟨kvs, ek, c, q⟩
    exact ⟨_, _, by dsimp only; rw [ek]; dsimp only; rw [if_pos c]; rfl, q⟩
theorem run_pairs0 {G : List (D × D) → Sto → Prop} : Run (mPairs [] env) S G ↔ G [] S := run_ret
theorem run_pairs1 {a b : ME} {ps : List (ME × ME)} {G : List (D × D) → Sto → Prop} : Run (mPairs ((a, b) :: ps) env) S G ↔ Run (a env) S fun x S1 => Run (b env) S1 fun y S2 => Run (mPairs ps env) S2 fun xs S3 => G ((x, y) :: xs) S3 := by
  simp only [mPairs, run_bd, run_ret]
end
end Ev

end
section
set_option maxHeartbeats 4000000
namespace Wwindfleet_k37_rooms_grown_and_clashing
open PySem Ev
def pgrown_room_1 : MS := sRet (mTup (mCons (mVar 9) (mCons (mB bMax (mCons (mC (.int 0)) (mCons (mOp oSub (mVar 4) (mVar 2)) mNil))) (mCons (mVar 10) (mCons (mB bMin (mCons (mOp oSub (mFld 0 "high" (mVar 0)) (mC (.int 1))) (mCons (mOp oAdd (mVar 6) (mVar 2)) mNil))) (mCons (mVar 7) (mCons (mVar 8) mNil)))))))
def pgrown_room_2 : MS := sSeq (sPar 9 10 (mCons (mB bMax (mCons (mC (.int 0)) (mCons (mOp oSub (mVar 3) (mVar 2)) mNil))) (mCons (mB bMin (mCons (mOp oSub (mFld 0 "wide" (mVar 0)) (mC (.int 1))) (mCons (mOp oAdd (mVar 5) (mVar 2)) mNil))) mNil))) pgrown_room_1
def pgrown_room : List D → M D := mFn 11 (sSeq (sAsg (mVar 1) (gTp 6 (gsCons (gNm 3) (gsCons (gNm 4) (gsCons (gNm 5) (gsCons (gNm 6) (gsCons (gNm 7) (gsCons (gNm 8) gsNil)))))))) pgrown_room_2)
def pgrown : List D → M D := mFn 4 (sRet (mB bTuple (mCons (mLc (iVal (mVar 1)) (gNm 3) (mC (.bl true)) (mCall pgrown_room (mCons (mVar 0) (mCons (mVar 3) (mCons (mVar 2) mNil)))) [3]) mNil)))
def p_law_deck_1 : MS := sRet (mLst (mCons (mRev (mVar 1)) (mCons (mOp oAdd (mB bSum (mCons (mLc (iVal (mVar 1)) (gNm 2) (mC (.bl true)) (mOp oMod (mVar 2) (mC (.int 1000003))) [2]) mNil)) (mOp oMul (mC (.int 7919)) (mB bLen (mCons (mVar 1) mNil)))) (mCons (mC (.int 0)) mNil))))
def p_law_deck : List D → M D := mFn 3 (sSeq (sAsg (mB bList (mCons (mSl (mVar 0) pNo (pSome (mC (.int 63)))) mNil)) (gNm 1)) p_law_deck_1)
def p_law_draw_1 : MS := sRet (mOp oMod (mVar 2) (mVar 1))
def p_law_draw_2 : MS := sIf (mOp oGe (mVar 2) (mOp oPow (mC (.int 10)) (mC (.int 18)))) (sSeq (sDrop (mMt nApp (mOp oIx (mVar 0) (mC (.int 0))) (mCons (mOp oDiv (mVar 2) (mVar 1)) mNil))) p_law_draw_1) sPass
def p_law_draw_3 : MS := sRet (mOp oMod (mOp oDiv (mOp oMod (mOp oAdd (mOp oMul (mVar 3) (mVar 3)) (mOp oMul (mC (.int 39373)) (mVar 3))) (mC (.int 2147483563))) (mC (.int 64))) (mVar 1))
def p_law_draw_4 : MS := sSeq (sAsg (mOp oMod (mOp oAdd (mOp oAdd (mOp oMul (mVar 3) (mVar 3)) (mOp oMul (mC (.int 69621)) (mOp oIx (mVar 0) (mC (.int 2))))) (mC (.int 23))) (mC (.int 2147483587))) (gNm 3)) p_law_draw_3
def p_law_draw_5 : MS := sSeq (sAsg (mOp oMod (mOp oMul (mOp oAdd (mOp oAdd (mOp oMod (mVar 2) (mC (.int 2147483629))) (mOp oMul (mC (.int 65537)) (mOp oIx (mVar 0) (mC (.int 2))))) (mC (.int 19))) (mC (.int 48271))) (mC (.int 2147483647))) (gNm 3)) p_law_draw_4
def p_law_draw_6 : MS := sSeq (sIf (mOp (oEq true) (mOp oIx (mVar 0) (mC (.int 0))) (mLst mNil)) (sSeq (sAsg (mMt0 nPop (mOp oIx (mVar 0) (mC (.int 0)))) (gNm 2)) p_law_draw_2) sPass) p_law_draw_5
def p_law_draw_7 : MS := sSeq (sAsg (mOp oIx (mVar 0) (mC (.int 1))) (gNm 2)) p_law_draw_6
def p_law_draw : List D → M D := mFn 4 (sSeq (sAsg (mOp oAdd (mOp oIx (mVar 0) (mC (.int 2))) (mC (.int 1))) (gSb (mVar 0) (mC (.int 2)))) p_law_draw_7)
def p_law_pick : List D → M D := mFn 2 (sRet (mOp oIx (mVar 1) (mCall p_law_draw (mCons (mVar 0) (mCons (mB bLen (mCons (mVar 1) mNil)) mNil)))))
def p_law_fields_1 : MS := sRet (mLst (mCons (mCall p_law_pick (mCons (mVar 0) (mCons (mVar 1) mNil))) (mCons (mCall p_law_pick (mCons (mVar 0) (mCons (mVar 1) mNil))) (mCons (mCall p_law_pick (mCons (mVar 0) (mCons (mLst (mCons (mC (.int 1)) (mCons (mC (.int 9)) (mCons (mC (.int 10)) (mCons (mC (.int 24)) mNil))))) mNil))) mNil))))
def p_law_fields : List D → M D := mFn 2 (sSeq (sAsg (mLst (mCons (mC (.int 1)) (mCons (mC (.int 2)) (mCons (mC (.int 9)) (mCons (mC (.int 10)) (mCons (mC (.int 12)) (mCons (mC (.int 5)) mNil))))))) (gNm 1)) p_law_fields_1)
def p_law_bounds : List D → M D := mFn 3 (sRet (mOp oIx (mLst (mCons (mVar 1) (mCons (mVar 2) (mCons (mOp oAdd (mVar 1) (mCall p_law_draw (mCons (mVar 0) (mCons (mOp oAdd (mOp oSub (mVar 2) (mVar 1)) (mC (.int 1))) mNil)))) mNil)))) (mCall p_law_draw (mCons (mVar 0) (mCons (mC (.int 3)) mNil)))))
def p_law_space_1 : MS := sRet (mOp oAdd (mOp oAdd (mTup (mCons (mVar 2) (mCons (mVar 3) mNil))) (mVar 5)) (mTup (mCons (mVar 4) (mCons (mCall p_law_bounds (mCons (mVar 0) (mCons (mVar 4) (mCons (mOp oIx (mVar 1) (mC (.int 2))) mNil)))) mNil))))
def p_law_space_2 : MS := sSeq (sAsg (mTup (mCons (mCall p_law_bounds (mCons (mVar 0) (mCons (mVar 2) (mCons (mOp oSub (mOp oIx (mVar 1) (mC (.int 0))) (mC (.int 1))) mNil)))) (mCons (mCall p_law_bounds (mCons (mVar 0) (mCons (mVar 3) (mCons (mOp oSub (mOp oIx (mVar 1) (mC (.int 1))) (mC (.int 1))) mNil)))) mNil))) (gNm 5)) p_law_space_1
def p_law_space : List D → M D := mFn 7 (sSeq (sAsg (mLc (iR1 (mCons (mC (.int 3)) mNil)) (gNm 6) (mC (.bl true)) (mCall p_law_bounds (mCons (mVar 0) (mCons (mC (.int 0)) (mCons (mOp oSub (mOp oIx (mVar 1) (mVar 6)) (mB bInt (mCons (mOp oLt (mVar 6) (mC (.int 2))) mNil))) mNil)))) [6]) (gUp 3 (gsCons (gNm 2) (gsCons (gNm 3) (gsCons (gNm 4) gsNil))))) p_law_space_2)
def p_law_beside_1 : MS := sDrop (mMt nApp (mVar 3) (mCons (mB bMax (mCons (mC (.int 0)) (mCons (mB bMin (mCons (mVar 8) (mCons (mOp oIx (mVar 4) (mVar 5)) mNil))) mNil))) mNil))
def p_law_beside_2 : MS := sSeq (sAsg (mOp oIx (mLst (mCons (mOp oIx (mVar 2) (mVar 5)) (mCons (mOp oAdd (mOp oIx (mVar 2) (mVar 5)) (mC (.int 1))) (mCons (mOp oSub (mOp oIx (mVar 2) (mVar 5)) (mC (.int 1))) (mCons (mOp oAdd (mOp oIx (mVar 2) (mVar 5)) (mC (.int 2))) (mCons (mOp oSub (mOp oIx (mVar 2) (mVar 5)) (mC (.int 2))) (mCons (mOp oAdd (mVar 7) (mC (.int 1))) mNil))))))) (mVar 6)) (gNm 8)) p_law_beside_1
def p_law_beside_3 : MS := sSeq (sPar 6 7 (mCons (mCall p_law_draw (mCons (mVar 0) (mCons (mC (.int 6)) mNil))) (mCons (mOp oIx (mVar 2) (mOp oIx (mLst (mCons (mC (.int 2)) (mCons (mC (.int 3)) (mCons (mC (.int 0)) (mCons (mC (.int 1)) (mCons (mC (.int 5)) (mCons (mC (.int 4)) mNil))))))) (mVar 5))) mNil))) p_law_beside_2
def p_law_beside_4 : MS := sRet (mTup (mCons (mB bMin (mCons (mVar 9) (mCons (mVar 11) mNil))) (mCons (mB bMin (mCons (mVar 10) (mCons (mVar 12) mNil))) (mCons (mB bMax (mCons (mVar 9) (mCons (mVar 11) mNil))) (mCons (mB bMax (mCons (mVar 10) (mCons (mVar 12) mNil))) (mCons (mB bMin (mCons (mVar 13) (mCons (mVar 14) mNil))) (mCons (mB bMax (mCons (mVar 13) (mCons (mVar 14) mNil))) mNil)))))))
def p_law_beside_5 : MS := sSeq (sAsg (mVar 3) (gUp 6 (gsCons (gNm 9) (gsCons (gNm 10) (gsCons (gNm 11) (gsCons (gNm 12) (gsCons (gNm 13) (gsCons (gNm 14) gsNil)))))))) p_law_beside_4
def p_law_beside_6 : MS := sSeq (sFor (iR1 (mCons (mC (.int 6)) mNil)) (gNm 5) p_law_beside_3) p_law_beside_5
def p_law_beside : List D → M D := mFn 15 (sSeq (sPar 3 4 (mCons (mLst mNil) (mCons (mOp oAdd (mOp oMul (mLst (mCons (mOp oSub (mOp oIx (mVar 1) (mC (.int 0))) (mC (.int 1))) (mCons (mOp oSub (mOp oIx (mVar 1) (mC (.int 1))) (mC (.int 1))) mNil))) (mC (.int 2))) (mOp oMul (mLst (mCons (mOp oIx (mVar 1) (mC (.int 2))) mNil)) (mC (.int 2)))) mNil))) p_law_beside_6)
def p_law_off : List D → M D := mFn 3 (sRet (mB bMax3 (mCons (mOp oSub (mOp oIx (mVar 0) (mVar 1)) (mVar 2)) (mCons (mC (.int 0)) (mCons (mOp oSub (mVar 2) (mOp oIx (mVar 0) (mOp oAdd (mVar 1) (mC (.int 2))))) mNil)))))
def p_law_wider_1 : MS := sRet (mOp oAdd (mTup (mCons (mOp oIx (mVar 3) (mC (.int 0))) (mCons (mOp oIx (mVar 4) (mC (.int 0))) (mCons (mOp oIx (mVar 3) (mUn oNeg (mC (.int 1)))) (mCons (mOp oIx (mVar 4) (mUn oNeg (mC (.int 1)))) mNil))))) (mSl (mVar 1) (pSome (mC (.int 4))) pNo))
def p_law_wider_2 : MS := sSeq (sAsg (mLc (iR1 (mCons (mOp oIx (mVar 0) (mC (.int 1))) mNil)) (gNm 6) (mOp oLe (mCall p_law_off (mCons (mVar 1) (mCons (mC (.int 1)) (mCons (mVar 6) mNil)))) (mVar 2)) (mVar 6) [6]) (gNm 4)) p_law_wider_1
def p_law_wider : List D → M D := mFn 7 (sSeq (sAsg (mLc (iR1 (mCons (mOp oIx (mVar 0) (mC (.int 0))) mNil)) (gNm 5) (mOp oLe (mCall p_law_off (mCons (mVar 1) (mCons (mC (.int 0)) (mCons (mVar 5) mNil)))) (mVar 2)) (mVar 5) [5]) (gNm 3)) p_law_wider_2)
def pdo_boxes_meet_1 : MS := sRet (mAnd (mOp oLe (mVar 2) (mVar 8)) (mAnd (mOp oLe (mVar 6) (mVar 4)) (mAnd (mOp oLe (mVar 3) (mVar 9)) (mOp oLe (mVar 7) (mVar 5)))))
def pdo_boxes_meet_2 : MS := sSeq (sAsg (mVar 1) (gTp 4 (gsCons (gNm 6) (gsCons (gNm 7) (gsCons (gNm 8) (gsCons (gNm 9) gsNil)))))) pdo_boxes_meet_1
def pdo_boxes_meet : List D → M D := mFn 10 (sSeq (sAsg (mVar 0) (gTp 4 (gsCons (gNm 2) (gsCons (gNm 3) (gsCons (gNm 4) (gsCons (gNm 5) gsNil)))))) pdo_boxes_meet_2)
def pdo_clash : List D → M D := mFn 2 (sRet (mAnd (mCall pdo_boxes_meet (mCons (mSl (mVar 0) pNo (pSome (mC (.int 4)))) (mCons (mSl (mVar 1) pNo (pSome (mC (.int 4)))) mNil))) (mAnd (mOp oLe (mOp oIx (mVar 0) (mC (.int 4))) (mOp oIx (mVar 1) (mC (.int 5)))) (mOp oLe (mOp oIx (mVar 1) (mC (.int 4))) (mOp oIx (mVar 0) (mC (.int 5)))))))
def p_law_meet_1 : MS := sIf (mOp (oEq false) (mLc (iR2 (mCons (mOp oIx (mVar 0) (mVar 2)) (mCons (mOp oAdd (mOp oIx (mVar 0) (mVar 3)) (mC (.int 1))) mNil))) (gNm 4) (mChain oLe oLe (mOp oIx (mVar 1) (mVar 2)) (mVar 4) (mOp oIx (mVar 1) (mVar 3))) (mVar 4) [4]) (mLst mNil)) (sRet (mC (.bl false))) sPass
def p_law_meet_2 : MS := sRet (mC (.bl true))
def p_law_meet : List D → M D := mFn 5 (sSeq (sFor (iVal (mTup (mCons (mTup (mCons (mC (.int 0)) (mCons (mC (.int 2)) mNil))) (mCons (mTup (mCons (mC (.int 1)) (mCons (mC (.int 3)) mNil))) (mCons (mTup (mCons (mC (.int 4)) (mCons (mC (.int 5)) mNil))) mNil))))) (gTp 2 (gsCons (gNm 2) (gsCons (gNm 3) gsNil))) p_law_meet_1) p_law_meet_2)
def p_law_gap : List D → M D := mFn 3 (sRet (mB bMax3 (mCons (mOp oSub (mOp oIx (mVar 0) (mVar 2)) (mOp oIx (mVar 1) (mOp oAdd (mVar 2) (mC (.int 2))))) (mCons (mOp oSub (mOp oIx (mVar 1) (mVar 2)) (mOp oIx (mVar 0) (mOp oAdd (mVar 2) (mC (.int 2))))) (mCons (mC (.int 0)) mNil)))))
def p_law_two_right_1 : MS := sRet (mAnd (mOp (oEq false) (mB bRepr (mCons (mCall pdo_clash (mCons (mOp oIx (mCall pgrown (mCons (mVar 0) (mCons (mTup (mCons (mVar 1) mNil)) (mCons (mVar 3) mNil)))) (mC (.int 0))) (mCons (mVar 2) mNil))) mNil)) (mB bRepr (mCons (mVar 7) mNil))) (mOp (oEq false) (mB bRepr (mCons (mTup (mCons (mVar 1) (mCons (mVar 2) mNil))) mNil)) (mVar 5)))
def p_law_two_right_2 : MS := sSeq (sAsg (mAnd (mOp oLe (mB bMax (mCons (mCall p_law_gap (mCons (mVar 1) (mCons (mVar 2) (mCons (mC (.int 0)) mNil)))) (mCons (mCall p_law_gap (mCons (mVar 1) (mCons (mVar 2) (mCons (mC (.int 1)) mNil)))) mNil))) (mVar 3)) (mAnd (mOp oLe (mOp oIx (mVar 1) (mC (.int 4))) (mOp oIx (mVar 2) (mC (.int 5)))) (mOp oLe (mOp oIx (mVar 2) (mC (.int 4))) (mOp oIx (mVar 1) (mC (.int 5)))))) (gNm 7)) p_law_two_right_1
def p_law_two_right_3 : MS := sSeq (sIf (mOp (oEq true) (mB bRepr (mCons (mVar 6) mNil)) (mB bRepr (mCons (mOp oMul (mLst (mCons (mVar 4) mNil)) (mC (.int 3))) mNil))) (sRet (mC (.bl false))) sPass) p_law_two_right_2
def p_law_two_right_4 : MS := sSeq (sAsg (mLst (mCons (mCall pdo_clash (mCons (mVar 1) (mCons (mVar 2) mNil))) (mCons (mCall pdo_clash (mCons (mVar 2) (mCons (mVar 1) mNil))) (mCons (mCallK pdo_clash (gI 0 2 [1, 0]) mNil (mCons (mVar 2) (mCons (mVar 1) mNil))) mNil)))) (gNm 6)) p_law_two_right_3
def p_law_two_right : List D → M D := mFn 8 (sSeq (sPar 4 5 (mCons (mCall p_law_meet (mCons (mVar 1) (mCons (mVar 2) mNil))) (mCons (mB bRepr (mCons (mTup (mCons (mVar 1) (mCons (mVar 2) mNil))) mNil)) mNil))) p_law_two_right_4)
def pis_whole : List D → M D := mFn 1 (sRet (mAnd (mIsi "int" (mVar 0)) (mNot (mIsi "bool" (mVar 0)))))
def pis_whole_from : List D → M D := mFn 3 (sRet (mAnd (mCall pis_whole (mCons (mVar 0) mNil)) (mChain oLe oLe (mVar 1) (mVar 0) (mVar 2))))
def pis_tuple_of : List D → M D := mFn 2 (sRet (mAnd (mIsi "tuple" (mVar 0)) (mOp (oEq false) (mB bLen (mCons (mVar 0) mNil)) (mVar 1))))
def pare_wholes_from : List D → M D := mFn 4 (sRet (mB bAll (mCons (mLc (iVal (mVar 0)) (gNm 3) (mC (.bl true)) (mCall pis_whole_from (mCons (mVar 3) (mCons (mVar 1) (mCons (mVar 2) mNil)))) [3]) mNil)))
def pis_height_row : List D → M D := mFn 2 (sRet (mAnd (mCall pis_tuple_of (mCons (mVar 1) (mCons (mFld 0 "wide" (mVar 0)) mNil))) (mCall pare_wholes_from (mCons (mVar 1) (mCons (mC (.int 0)) (mCons (mC (.int 9)) mNil))))))
def pare_heights : List D → M D := mFn 3 (sRet (mAnd (mCall pis_tuple_of (mCons (mVar 1) (mCons (mFld 0 "high" (mVar 0)) mNil))) (mB bAll (mCons (mLc (iVal (mVar 1)) (gNm 2) (mC (.bl true)) (mCall pis_height_row (mCons (mVar 0) (mCons (mVar 2) mNil))) [2]) mNil))))
def pis_tuple_to : List D → M D := mFn 2 (sRet (mAnd (mIsi "tuple" (mVar 0)) (mOp oLe (mB bLen (mCons (mVar 0) mNil)) (mVar 1))))
def pis_span : List D → M D := mFn 3 (sRet (mAnd (mCall pare_wholes_from (mCons (mTup (mCons (mVar 0) (mCons (mVar 1) mNil))) (mCons (mC (.int 0)) (mCons (mVar 2) mNil)))) (mOp oLe (mVar 0) (mVar 1))))
def pis_box_1 : MS := sRet (mAnd (mCall pis_span (mCons (mVar 2) (mCons (mVar 4) (mCons (mOp oSub (mFld 0 "wide" (mVar 0)) (mC (.int 1))) mNil)))) (mCall pis_span (mCons (mVar 3) (mCons (mVar 5) (mCons (mOp oSub (mFld 0 "high" (mVar 0)) (mC (.int 1))) mNil)))))
def pis_box_2 : MS := sSeq (sAsg (mVar 1) (gTp 4 (gsCons (gNm 2) (gsCons (gNm 3) (gsCons (gNm 4) (gsCons (gNm 5) gsNil)))))) pis_box_1
def pis_box : List D → M D := mFn 6 (sSeq (sIf (mNot (mCall pis_tuple_of (mCons (mVar 1) (mCons (mC (.int 4)) mNil)))) (sRet (mC (.bl false))) sPass) pis_box_2)
def pis_room : List D → M D := mFn 2 (sRet (mAnd (mCall pis_tuple_of (mCons (mVar 1) (mCons (mC (.int 6)) mNil))) (mAnd (mCall pis_box (mCons (mVar 0) (mCons (mSl (mVar 1) pNo (pSome (mC (.int 4)))) mNil))) (mCall pis_span (mCons (mOp oIx (mVar 1) (mC (.int 4))) (mCons (mOp oIx (mVar 1) (mC (.int 5))) (mCons (mFld 0 "day" (mVar 0)) mNil)))))))
def pare_rooms : List D → M D := mFn 3 (sRet (mAnd (mCall pis_tuple_to (mCons (mVar 1) (mCons (mC (.int 8)) mNil))) (mB bAll (mCons (mLc (iVal (mVar 1)) (gNm 2) (mC (.bl true)) (mCall pis_room (mCons (mVar 0) (mCons (mVar 2) mNil))) [2]) mNil))))
def pis_pad : List D → M D := mFn 2 (sRet (mAnd (mCall pis_tuple_of (mCons (mVar 1) (mCons (mC (.int 5)) mNil))) (mAnd (mCall pis_box (mCons (mVar 0) (mCons (mSl (mVar 1) pNo (pSome (mC (.int 4)))) mNil))) (mCall pis_whole_from (mCons (mOp oIx (mVar 1) (mC (.int 4))) (mCons (mC (.int 1)) (mCons (mC (.int 4)) mNil)))))))
def pare_pads_1 : MS := sIf (mB bAny (mCons (mLc (iVal (mSl (mVar 1) pNo (pSome (mVar 2)))) (gNm 4) (mC (.bl true)) (mCall pdo_boxes_meet (mCons (mSl (mVar 3) pNo (pSome (mC (.int 4)))) (mCons (mSl (mVar 4) pNo (pSome (mC (.int 4)))) mNil))) [4]) mNil)) (sRet (mC (.bl false))) sPass
def pare_pads_2 : MS := sRet (mC (.bl true))
def pare_pads_3 : MS := sSeq (sFor (iEn (mVar 1)) (gTp 2 (gsCons (gNm 2) (gsCons (gNm 3) gsNil))) pare_pads_1) pare_pads_2
def pare_pads : List D → M D := mFn 5 (sSeq (sIf (mOr (mNot (mCall pis_tuple_to (mCons (mVar 1) (mCons (mC (.int 4)) mNil)))) (mNot (mB bAll (mCons (mLc (iVal (mVar 1)) (gNm 3) (mC (.bl true)) (mCall pis_pad (mCons (mVar 0) (mCons (mVar 3) mNil))) [3]) mNil)))) (sRet (mC (.bl false))) sPass) pare_pads_3)
def pLand_mk_1 : MS := sFldD 0 "pads" (mVar 0) (mVar 7)
def pLand_mk_2 : MS := sSeq (sIf (mNot (mCall pare_pads (mCons (mVar 0) (mCons (mVar 7) mNil)))) sNever sPass) pLand_mk_1
def pLand_mk_3 : MS := sSeq (sFldD 0 "people" (mVar 0) (mVar 6)) pLand_mk_2
def pLand_mk_4 : MS := sSeq (sIf (mNot (mCall pare_rooms (mCons (mVar 0) (mCons (mVar 6) mNil)))) sNever sPass) pLand_mk_3
def pLand_mk_5 : MS := sSeq (sFldD 0 "barred" (mVar 0) (mVar 5)) pLand_mk_4
def pLand_mk_6 : MS := sSeq (sIf (mNot (mCall pare_rooms (mCons (mVar 0) (mCons (mVar 5) mNil)))) sNever sPass) pLand_mk_5
def pLand_mk_7 : MS := sSeq (sFldD 0 "heights" (mVar 0) (mVar 4)) pLand_mk_6
def pLand_mk_8 : MS := sSeq (sIf (mAnd (mOp (oIs true) (mVar 4) (mC .non)) (mNot (mCall pare_heights (mCons (mVar 0) (mCons (mVar 4) mNil))))) sNever sPass) pLand_mk_7
def pLand_mk_9 : MS := sSeq (sFldD 0 "day" (mVar 0) (mVar 3)) pLand_mk_8
def pLand_mk_10 : MS := sSeq (sIf (mNot (mCall pis_whole_from (mCons (mVar 3) (mCons (mC (.int 1)) (mCons (mC (.int 24)) mNil))))) sNever sPass) pLand_mk_9
def pLand_mk_11 : MS := sSeq (sFldD 0 "high" (mVar 0) (mVar 2)) pLand_mk_10
def pLand_mk_12 : MS := sSeq (sIf (mNot (mCall pis_whole_from (mCons (mVar 2) (mCons (mC (.int 1)) (mCons (mC (.int 12)) mNil))))) sNever sPass) pLand_mk_11
def pLand_mk_13 : MS := sSeq (sFldD 0 "wide" (mVar 0) (mVar 1)) pLand_mk_12
def pLand_mk : List D → M D := mFn 8 (sSeq (sIf (mNot (mCall pis_whole_from (mCons (mVar 1) (mCons (mC (.int 1)) (mCons (mC (.int 12)) mNil))))) sNever sPass) pLand_mk_13)
def plaw_1 : MS := sIf (mNot (mCall p_law_two_right (mCons (mVar 4) (mCons (mVar 10) (mCons (mVar 11) (mCons (mVar 2) mNil)))))) (sRet (mC (.bl false))) sPass
def plaw_2 : MS := sFor (iVal (mOp oAdd (mVar 5) (mVar 6))) (gNm 11) plaw_1
def plaw_3 : MS := sRet (mC (.bl true))
def plaw_4 : MS := sSeq (sFor (iVal (mOp oAdd (mVar 5) (mVar 6))) (gNm 10) plaw_2) plaw_3
def plaw_5 : MS := sSeq (sIf (mOr (mOp (oEq true) (mB bRepr (mCons (mVar 9) mNil)) (mB bRepr (mCons (mLst (mCons (mVar 7) (mCons (mVar 7) mNil))) mNil))) (mOp (oEq true) (mB bRepr (mCons (mVar 5) mNil)) (mVar 8))) (sRet (mC (.bl false))) sPass) plaw_4
def plaw_6 : MS := sSeq (sAsg (mLst (mCons (mCall pgrown (mCons (mVar 4) (mCons (mB bTuple (mCons (mVar 5) mNil)) (mCons (mVar 2) mNil)))) (mCons (mCallK pgrown (gI 0 3 [2, 1, 0]) mNil (mCons (mVar 2) (mCons (mB bTuple (mCons (mVar 5) mNil)) (mCons (mVar 4) mNil)))) mNil))) (gNm 9)) plaw_5
def plaw_7 : MS := sSeq (sPar 7 8 (mCons (mB bTuple (mCons (mLc (iVal (mVar 5)) (gNm 10) (mC (.bl true)) (mCall p_law_wider (mCons (mVar 3) (mCons (mVar 10) (mCons (mVar 2) mNil)))) [10]) mNil)) (mCons (mB bRepr (mCons (mVar 5) mNil)) mNil))) plaw_6
def plaw_8 : MS := sSeq (sAsg (mLc (iVal (mVar 5)) (gNm 10) (mC (.bl true)) (mCall p_law_beside (mCons (mVar 1) (mCons (mVar 3) (mCons (mVar 10) mNil)))) [10]) (gNm 6)) plaw_7
def plaw_9 : MS := sSeq (sAsg (mLc (iR1 (mCons (mCall p_law_draw (mCons (mVar 1) (mCons (mC (.int 6)) mNil))) mNil)) (gNm 12) (mC (.bl true)) (mCall p_law_space (mCons (mVar 1) (mCons (mVar 3) mNil))) [12]) (gNm 5)) plaw_8
def plaw_10 : MS := sSeq (sAsg (mMake 0 pLand_mk (gF 3 1 [0, 1, 2, 3, 5, 6, 7, 8] [.int 12, .non, .tup [], .tup [], .tup []]) (mCons (mOp oIx (mVar 3) (mC (.int 0))) (mCons (mOp oIx (mVar 3) (mC (.int 1))) mNil)) (mCons (mOp oIx (mVar 3) (mC (.int 2))) mNil)) (gNm 4)) plaw_9
def plaw_11 : MS := sSeq (sAsg (mTup (mCons (mCall p_law_draw (mCons (mVar 1) (mCons (mC (.int 4)) mNil))) (mCons (mCall p_law_fields (mCons (mVar 1) mNil)) mNil))) (gTp 2 (gsCons (gNm 2) (gsCons (gNm 3) gsNil)))) plaw_10
def plaw : List D → M D := mFn 13 (sSeq (sAsg (mCall p_law_deck (mCons (mVar 0) mNil)) (gNm 1)) plaw_11)
end Wwindfleet_k37_rooms_grown_and_clashing

end
section
set_option maxHeartbeats 4000000
namespace Wwindfleet_k37_rooms_grown_and_clashing
open PySem PySem.Spec PyProof.Rows L2 Ev
def top (i : Nat) : Stmt := PySem.Challenge.pw_windfleet_k37_rooms_grown_and_clashing.main.body.getD i (.Pass ⟨0, 0, 0, 0⟩)
structure Blt (K : PySem.W.Frag) (mg : Str → Option Value) : Prop where
  all_ : mg "all" = none
  any_ : mg "any" = none
  bool_ : mg "bool" = none
  enumerate_ : mg "enumerate" = none
  int_ : mg "int" = none
  isinstance_ : mg "isinstance" = none
  len_ : mg "len" = none
  list_ : mg "list" = none
  max_ : mg "max" = none
  min_ : mg "min" = none
  range_ : mg "range" = none
  repr_ : mg "repr" = none
  sum_ : mg "sum" = none
  tuple_ : mg "tuple" = none
  HIGHEST_ : CInt mg "HIGHEST" 9
  LONGEST_DAY_ : CInt mg "LONGEST_DAY" 24
  MOST_ON_PAD_ : CInt mg "MOST_ON_PAD" 4
  MOST_PADS_ : CInt mg "MOST_PADS" 4
  MOST_ROOMS_ : CInt mg "MOST_ROOMS" 8
  WIDEST_ : CInt mg "WIDEST" 12
section
variable {P : Program} {w : World} {K : PySem.W.Frag} {mg : Str → Option Value} {base : Heap} {cl : Nat → Addr}
def sgrown_room : Stmt := top 30
theorem Sgrown_room : FnScope ["land", "room", "by", "x1", "y1", "x2", "y2", "first", "last", "low", "high"] ["land", "room", "by"] (defScope sgrown_room) := ⟨rfl, rfl, rfl, by decide +kernel, rfl, by decide +kernel, by decide +kernel⟩
theorem Ogrown_room (B : Blt K mg) (F : DefAt K mg "grown_room" sgrown_room ["land", "room", "by"]) (C0 : ClsD K (cl 0) ["wide", "high", "day", "heights", "barred", "people", "pads"]) : Ok P w K mg base ⟨K, cl⟩ "grown_room" sgrown_room ["land", "room", "by"] 1 pgrown_room :=
  ok_of F Sgrown_room fun f cdv A outer s H E hr =>
    @kss_cons _ _ _ _ _ _ (@ks_asg _ _ _ _ _ _ _ _ (kv 1) (@kg_tup _ _ _ _ _ _ _ _ rfl rfl (@kgs_cons _ _ _ _ _ _ _ _ (kg_name 3 Sgrown_room.nd rfl (by first | exact Or.inl rfl | exact Or.inr rfl)) (@kgs_cons _ _ _ _ _ _ _ _ (kg_name 4 Sgrown_room.nd rfl (by first | exact Or.inl rfl | exact Or.inr rfl)) (@kgs_cons _ _ _ _ _ _ _ _ (kg_name 5 Sgrown_room.nd rfl (by first | exact Or.inl rfl | exact Or.inr rfl)) (@kgs_cons _ _ _ _ _ _ _ _ (kg_name 6 Sgrown_room.nd rfl (by first | exact Or.inl rfl | exact Or.inr rfl)) (@kgs_cons _ _ _ _ _ _ _ _ (kg_name 7 Sgrown_room.nd rfl (by first | exact Or.inl rfl | exact Or.inr rfl)) (kgs_cons (kg_name 8 Sgrown_room.nd rfl (by first | exact Or.inl rfl | exact Or.inr rfl)) kgs_nil) (by rfl)) (by rfl)) (by rfl)) (by rfl)) (by rfl)) (by rfl) (by rfl)) (by rfl) (by rfl) (by rfl)) (@kss_cons _ _ _ _ _ _ (@ks_par _ _ _ _ _ 9 10 _ _ _ _ _ _ _ _ _ rfl Sgrown_room.nd rfl rfl (by decide) rfl rfl (@ka_c _ _ _ _ _ _ (@k_bltS _ _ _ _ _ _ _ _ _ _ (c_max rfl) rfl B.max_ (by decide +kernel) (ka_c k_int (ka_c (k_op o_sub (kv 3) (kv 2)) ka_nil u_BinOp) u_Constant) u_Constant (u_cons u_BinOp u_nil) (by decide) (by decide)) (@ka_c _ _ _ _ _ _ (@k_bltS _ _ _ _ _ _ _ _ _ _ (c_min rfl) rfl B.min_ (by decide +kernel) (ka_c (k_op o_sub (k_fld 0 rfl C0 (by decide +kernel) (kv 0)) k_int) (ka_c (k_op (o_add rfl) (kv 5) (kv 2)) ka_nil u_BinOp) u_BinOp) u_BinOp (u_cons u_BinOp u_nil) (by decide) (by decide)) ka_nil u_Call) u_Call) (by rfl) (by rfl)) (@kss_one _ _ _ _ (@ks_ret _ _ _ _ _ (@k_tup _ _ _ _ _ _ (@ka_c _ _ _ _ _ _ (kv 9) (@ka_c _ _ _ _ _ _ (@k_bltS _ _ _ _ _ _ _ _ _ _ (c_max rfl) rfl B.max_ (by decide +kernel) (ka_c k_int (ka_c (k_op o_sub (kv 4) (kv 2)) ka_nil u_BinOp) u_Constant) u_Constant (u_cons u_BinOp u_nil) (by decide) (by decide)) (@ka_c _ _ _ _ _ _ (kv 10) (@ka_c _ _ _ _ _ _ (@k_bltS _ _ _ _ _ _ _ _ _ _ (c_min rfl) rfl B.min_ (by decide +kernel) (ka_c (k_op o_sub (k_fld 0 rfl C0 (by decide +kernel) (kv 0)) k_int) (ka_c (k_op (o_add rfl) (kv 6) (kv 2)) ka_nil u_BinOp) u_BinOp) u_BinOp (u_cons u_BinOp u_nil) (by decide) (by decide)) (ka_c (kv 7) (ka_c (kv 8) ka_nil u_Name) u_Name) u_Call) u_Name) u_Call) u_Name) (Few.le (few_cons (few_cons (few_cons (few_cons (few_cons (few_cons few_nil)))))) (by decide))))))
def sgrown : Stmt := top 29
theorem Sgrown : FnScope ["land", "rooms", "by", "room"] ["land", "rooms", "by"] (defScope sgrown) := ⟨rfl, rfl, rfl, by decide +kernel, rfl, by decide +kernel, by decide +kernel⟩
theorem Ogrown (B : Blt K mg) (F : DefAt K mg "grown" sgrown ["land", "rooms", "by"]) (Ggrown_room : Ok P w K mg base ⟨K, cl⟩ "grown_room" sgrown_room ["land", "room", "by"] 1 pgrown_room) : Ok P w K mg base ⟨K, cl⟩ "grown" sgrown ["land", "rooms", "by"] 2 pgrown :=
  ok_of F Sgrown fun f cdv A outer s H E hr =>
    @kss_one _ _ _ _ (@ks_ret _ _ _ _ _ (@k_tyS _ _ _ _ _ _ _ _ _ _ (c_tuple rfl) rfl B.tuple_ (by decide +kernel) (@ka_c _ _ _ _ _ _ (@k_lc _ _ _ _ _ _ _ ([("room", 3)]) _ _ _ _ _ _ rfl Sgrown.nd (ki_val rfl (kv 1)) (blkOk_by (own := [("room", 3)]) (N := ["land", "rooms", "by", "room"]) (sc := defScope sgrown) (by decide +kernel)) (fun _ _ _ _ _ => kg_name 3 Sgrown.nd rfl (by first | exact Or.inl rfl | exact Or.inr rfl)) (fun _ _ _ _ _ => kts_nil) (fun _ _ _ _ _ => @kcS _ _ _ _ _ _ _ _ _ _ _ _ _ Ggrown_room hr (by decide) (few_cons (few_cons (few_cons few_nil))) (ka_c (kv 0) (ka_c (kv 3) (ka_c (kv 2) ka_nil u_Name) u_Name) u_Name) u_Name (u_cons u_Name (u_cons u_Name u_nil)) (by rfl) (by decide)) (by decide) (by intro _ ; rfl)) ka_nil u_ListComp) u_ListComp u_nil (by decide) (by decide)))
def s_law_deck : Stmt := top 33
theorem S_law_deck : FnScope ["_law_script", "_law_cells", "_law_cell"] ["_law_script"] (defScope s_law_deck) := ⟨rfl, rfl, rfl, by decide +kernel, rfl, by decide +kernel, by decide +kernel⟩
theorem O_law_deck (B : Blt K mg) (F : DefAt K mg "_law_deck" s_law_deck ["_law_script"])  : Ok P w K mg base ⟨K, cl⟩ "_law_deck" s_law_deck ["_law_script"] 1 p_law_deck :=
  ok_of F S_law_deck fun f cdv A outer s H E hr =>
    @kss_cons _ _ _ _ _ _ (@ks_set _ _ _ _ _ 1 _ _ S_law_deck.nd rfl (by first | exact Or.inl rfl | exact Or.inr rfl) (k_tyS (c_list rfl) rfl B.list_ (by decide +kernel) (ka_c (k_sl rfl (kv 0) kp_no (kp_some k_int)) ka_nil u_Subscript) u_Subscript u_nil) (by rfl) (by first | exact .inl rfl | exact .inr rfl | assumption)) (@kss_one _ _ _ _ (@ks_ret _ _ _ _ _ (@k_lst _ _ _ _ _ (@ka_c _ _ _ _ _ _ (k_rev rfl (kv 1)) (@ka_c _ _ _ _ _ _ (@k_op _ _ _ _ _ _ _ _ _ (o_add rfl) (@k_bltS _ _ _ _ _ _ _ _ _ _ (c_sum rfl) rfl B.sum_ (by decide +kernel) (@ka_c _ _ _ _ _ _ (@k_lc _ _ _ _ _ _ _ ([("_law_cell", 2)]) _ _ _ _ _ _ rfl S_law_deck.nd (ki_val rfl (kv 1)) (blkOk_by (own := [("_law_cell", 2)]) (N := ["_law_script", "_law_cells", "_law_cell"]) (sc := defScope s_law_deck) (by decide +kernel)) (fun _ _ _ _ _ => kg_name 2 S_law_deck.nd rfl (by first | exact Or.inl rfl | exact Or.inr rfl)) (fun _ _ _ _ _ => kts_nil) (fun _ _ _ _ _ => k_op o_mod (kv 2) k_int) (by decide) (by intro _ ; rfl)) ka_nil u_ListComp) u_ListComp u_nil (by decide) (by decide)) (k_op (o_mul rfl) k_int (k_bltS (c_len rfl) rfl B.len_ (by decide +kernel) (ka_c (kv 1) ka_nil u_Name) u_Name u_nil))) (ka_c k_int ka_nil u_Constant) u_BinOp) u_Subscript) (Few.le (few_cons (few_cons (few_cons few_nil))) (by decide)))))
def s_law_draw : Stmt := top 34
theorem S_law_draw : FnScope ["_law_deck_here", "_law_many", "_law_cell", "_law_mixed"] ["_law_deck_here", "_law_many"] (defScope s_law_draw) := ⟨rfl, rfl, rfl, by decide +kernel, rfl, by decide +kernel, by decide +kernel⟩
theorem O_law_draw (B : Blt K mg) (F : DefAt K mg "_law_draw" s_law_draw ["_law_deck_here", "_law_many"])  : Ok P w K mg base ⟨K, cl⟩ "_law_draw" s_law_draw ["_law_deck_here", "_law_many"] 1 p_law_draw :=
  ok_of F S_law_draw fun f cdv A outer s H E hr =>
    @kss_cons _ _ _ _ _ _ (ks_asg (k_op (o_add rfl) (k_ix (x_ix rfl (hu_of hr)) (kv 0) k_int (fun _ _ => rfl)) k_int) (kg_sub (hu_of hr) (kv 0) k_int)) (@kss_cons _ _ _ _ _ _ (ks_set 2 S_law_draw.nd rfl (by first | exact Or.inl rfl | exact Or.inr rfl) (k_ix (x_ix rfl (hu_of hr)) (kv 0) k_int (fun _ _ => rfl))) (@kss_cons _ _ _ _ _ _ (@ks_if _ _ _ _ _ _ _ _ _ (kt_cmp (o_ne rfl hr.units) (k_ix (x_ix rfl (hu_of hr)) (kv 0) k_int (fun _ _ => rfl)) (k_lst ka_nil (Few.le few_nil (by decide))) (nomark _)) (@kss_cons _ _ _ _ _ _ (@ks_set _ _ _ _ _ 2 _ _ S_law_draw.nd rfl (by first | exact Or.inl rfl | exact Or.inr rfl) (k_pop (k_ix (x_ix rfl (hu_of hr)) (kv 0) k_int (fun _ _ => rfl))) (by rfl) (by first | exact .inl rfl | exact .inr rfl | assumption)) (@kss_one _ _ _ _ (@ks_if _ _ _ _ _ _ _ _ _ (kt_cmp o_ge (kv 2) (k_op o_pow k_int k_int) (nomark _)) (@kss_cons _ _ _ _ _ _ (ks_expr (k_appS (k_ix (x_ix rfl (hu_of hr)) (kv 0) k_int (fun _ _ => rfl)) (ka_c (k_op o_div (kv 2) (kv 1)) ka_nil u_BinOp) u_BinOp)) (kss_one (ks_ret (k_op o_mod (kv 2) (kv 1))))) kss_nil))) kss_nil) (@kss_cons _ _ _ _ _ _ (@ks_set _ _ _ _ _ 3 _ _ S_law_draw.nd rfl (by first | exact Or.inl rfl | exact Or.inr rfl) (@k_op _ _ _ _ _ _ _ _ _ o_mod (@k_op _ _ _ _ _ _ _ _ _ (o_mul rfl) (@k_op _ _ _ _ _ _ _ _ _ (o_add rfl) (k_op (o_add rfl) (k_op o_mod (kv 2) k_int) (k_op (o_mul rfl) k_int (k_ix (x_ix rfl (hu_of hr)) (kv 0) k_int (fun _ _ => rfl)))) k_int) k_int) k_int) (by rfl) (by first | exact .inl rfl | exact .inr rfl | assumption)) (@kss_cons _ _ _ _ _ _ (@ks_set _ _ _ _ _ 3 _ _ S_law_draw.nd rfl (by first | exact Or.inl rfl | exact Or.inr rfl) (@k_op _ _ _ _ _ _ _ _ _ o_mod (@k_op _ _ _ _ _ _ _ _ _ (o_add rfl) (k_op (o_add rfl) (k_op (o_mul rfl) (kv 3) (kv 3)) (k_op (o_mul rfl) k_int (k_ix (x_ix rfl (hu_of hr)) (kv 0) k_int (fun _ _ => rfl)))) k_int) k_int) (by rfl) (by first | exact .inl rfl | exact .inr rfl | assumption)) (@kss_one _ _ _ _ (@ks_ret _ _ _ _ _ (k_op o_mod (k_op o_div (k_op o_mod (k_op (o_add rfl) (k_op (o_mul rfl) (kv 3) (kv 3)) (k_op (o_mul rfl) k_int (kv 3))) k_int) k_int) (kv 1))))))))
def s_law_pick : Stmt := top 35
theorem S_law_pick : FnScope ["_law_deck_here", "_law_some"] ["_law_deck_here", "_law_some"] (defScope s_law_pick) := ⟨rfl, rfl, rfl, by decide +kernel, rfl, by decide +kernel, by decide +kernel⟩
theorem O_law_pick (B : Blt K mg) (F : DefAt K mg "_law_pick" s_law_pick ["_law_deck_here", "_law_some"]) (G_law_draw : Ok P w K mg base ⟨K, cl⟩ "_law_draw" s_law_draw ["_law_deck_here", "_law_many"] 1 p_law_draw) : Ok P w K mg base ⟨K, cl⟩ "_law_pick" s_law_pick ["_law_deck_here", "_law_some"] 2 p_law_pick :=
  ok_of F S_law_pick fun f cdv A outer s H E hr =>
    @kss_one _ _ _ _ (@ks_ret _ _ _ _ _ (@k_ix _ _ _ _ _ _ _ _ (x_ix rfl (hu_of hr)) (kv 1) (@kcS _ _ _ _ _ _ _ _ _ _ _ _ _ G_law_draw hr (by decide) (few_cons (few_cons few_nil)) (ka_c (kv 0) (ka_c (k_bltS (c_len rfl) rfl B.len_ (by decide +kernel) (ka_c (kv 1) ka_nil u_Name) u_Name u_nil) ka_nil u_Call) u_Name) u_Name (u_cons u_Call u_nil) (by rfl) (by decide)) (fun _ _ => rfl)))
def s_law_fields : Stmt := top 37
theorem S_law_fields : FnScope ["_law_deck_here", "_law_some"] ["_law_deck_here"] (defScope s_law_fields) := ⟨rfl, rfl, rfl, by decide +kernel, rfl, by decide +kernel, by decide +kernel⟩
theorem O_law_fields (B : Blt K mg) (F : DefAt K mg "_law_fields" s_law_fields ["_law_deck_here"]) (G_law_pick : Ok P w K mg base ⟨K, cl⟩ "_law_pick" s_law_pick ["_law_deck_here", "_law_some"] 2 p_law_pick) : Ok P w K mg base ⟨K, cl⟩ "_law_fields" s_law_fields ["_law_deck_here"] 3 p_law_fields :=
  ok_of F S_law_fields fun f cdv A outer s H E hr =>
    @kss_cons _ _ _ _ _ _ (@ks_set _ _ _ _ _ 1 _ _ S_law_fields.nd rfl (by first | exact Or.inl rfl | exact Or.inr rfl) (@k_lst _ _ _ _ _ (@ka_c _ _ _ _ _ _ k_int (ka_c k_int (ka_c k_int (ka_c k_int (ka_c k_int (ka_c k_int ka_nil u_Constant) u_Constant) u_Constant) u_Constant) u_Constant) u_Constant) (Few.le (few_cons (few_cons (few_cons (few_cons (few_cons (few_cons few_nil)))))) (by decide))) (by rfl) (by first | exact .inl rfl | exact .inr rfl | assumption)) (@kss_one _ _ _ _ (@ks_ret _ _ _ _ _ (@k_lst _ _ _ _ _ (@ka_c _ _ _ _ _ _ (kcS G_law_pick hr (by decide) (few_cons (few_cons few_nil)) (ka_c (kv 0) (ka_c (kv 1) ka_nil u_Name) u_Name) u_Name (u_cons u_Name u_nil)) (@ka_c _ _ _ _ _ _ (kcS G_law_pick hr (by decide) (few_cons (few_cons few_nil)) (ka_c (kv 0) (ka_c (kv 1) ka_nil u_Name) u_Name) u_Name (u_cons u_Name u_nil)) (@ka_c _ _ _ _ _ _ (@kcS _ _ _ _ _ _ _ _ _ _ _ _ _ G_law_pick hr (by decide) (few_cons (few_cons few_nil)) (@ka_c _ _ _ _ _ _ (kv 0) (@ka_c _ _ _ _ _ _ (@k_lst _ _ _ _ _ (ka_c k_int (ka_c k_int (ka_c k_int (ka_c k_int ka_nil u_Constant) u_Constant) u_Constant) u_Constant) (Few.le (few_cons (few_cons (few_cons (few_cons few_nil)))) (by decide))) ka_nil u_List) u_Name) u_Name (u_cons u_List u_nil) (by rfl) (by decide)) ka_nil u_Call) u_Call) u_Call) (Few.le (few_cons (few_cons (few_cons few_nil))) (by decide)))))
def s_law_bounds : Stmt := top 36
theorem S_law_bounds : FnScope ["_law_deck_here", "_law_least", "_law_most"] ["_law_deck_here", "_law_least", "_law_most"] (defScope s_law_bounds) := ⟨rfl, rfl, rfl, by decide +kernel, rfl, by decide +kernel, by decide +kernel⟩
theorem O_law_bounds (B : Blt K mg) (F : DefAt K mg "_law_bounds" s_law_bounds ["_law_deck_here", "_law_least", "_law_most"]) (G_law_draw : Ok P w K mg base ⟨K, cl⟩ "_law_draw" s_law_draw ["_law_deck_here", "_law_many"] 1 p_law_draw) : Ok P w K mg base ⟨K, cl⟩ "_law_bounds" s_law_bounds ["_law_deck_here", "_law_least", "_law_most"] 2 p_law_bounds :=
  ok_of F S_law_bounds fun f cdv A outer s H E hr =>
    @kss_one _ _ _ _ (@ks_ret _ _ _ _ _ (@k_ix _ _ _ _ _ _ _ _ (x_ix rfl (hu_of hr)) (@k_lst _ _ _ _ _ (@ka_c _ _ _ _ _ _ (kv 1) (@ka_c _ _ _ _ _ _ (kv 2) (@ka_c _ _ _ _ _ _ (@k_op _ _ _ _ _ _ _ _ _ (o_add rfl) (kv 1) (@kcS _ _ _ _ _ _ _ _ _ _ _ _ _ G_law_draw hr (by decide) (few_cons (few_cons few_nil)) (ka_c (kv 0) (ka_c (k_op (o_add rfl) (k_op o_sub (kv 2) (kv 1)) k_int) ka_nil u_BinOp) u_Name) u_Name (u_cons u_BinOp u_nil) (by rfl) (by decide))) ka_nil u_BinOp) u_Name) u_Name) (Few.le (few_cons (few_cons (few_cons few_nil))) (by decide))) (@kcS _ _ _ _ _ _ _ _ _ _ _ _ _ G_law_draw hr (by decide) (few_cons (few_cons few_nil)) (ka_c (kv 0) (ka_c k_int ka_nil u_Constant) u_Name) u_Name (u_cons u_Constant u_nil) (by rfl) (by decide)) (fun _ _ => rfl)))
def s_law_space : Stmt := top 38
theorem S_law_space : FnScope ["_law_deck_here", "_law_sizes", "_law_a", "_law_b", "_law_c", "_law_side", "_law_k"] ["_law_deck_here", "_law_sizes"] (defScope s_law_space) := ⟨rfl, rfl, rfl, by decide +kernel, rfl, by decide +kernel, by decide +kernel⟩
theorem O_law_space (B : Blt K mg) (F : DefAt K mg "_law_space" s_law_space ["_law_deck_here", "_law_sizes"]) (G_law_bounds : Ok P w K mg base ⟨K, cl⟩ "_law_bounds" s_law_bounds ["_law_deck_here", "_law_least", "_law_most"] 2 p_law_bounds) : Ok P w K mg base ⟨K, cl⟩ "_law_space" s_law_space ["_law_deck_here", "_law_sizes"] 3 p_law_space :=
  ok_of F S_law_space fun f cdv A outer s H E hr =>
    @kss_cons _ _ _ _ _ _ (@ks_asg _ _ _ _ _ _ _ _ (@k_lc _ _ _ _ _ _ _ ([("_law_k", 6)]) _ _ _ _ _ _ rfl S_law_space.nd (ki_r1 rfl B.range_ (ka_c k_int ka_nil u_Constant)) (blkOk_by (own := [("_law_k", 6)]) (N := ["_law_deck_here", "_law_sizes", "_law_a", "_law_b", "_law_c", "_law_side", "_law_k"]) (sc := defScope s_law_space) (by decide +kernel)) (fun _ _ _ _ _ => kg_name 6 S_law_space.nd rfl (by first | exact Or.inl rfl | exact Or.inr rfl)) (fun _ _ _ _ _ => kts_nil) (fun _ _ _ _ _ => @kcS _ _ _ _ _ _ _ _ _ _ _ _ _ G_law_bounds hr (by decide) (few_cons (few_cons (few_cons few_nil))) (@ka_c _ _ _ _ _ _ (kv 0) (@ka_c _ _ _ _ _ _ k_int (@ka_c _ _ _ _ _ _ (@k_op _ _ _ _ _ _ _ _ _ o_sub (k_ix (x_ix rfl (hu_of hr)) (kv 1) (kv 6) (fun _ _ => rfl)) (k_tyS c_int rfl B.int_ (by decide +kernel) (ka_c (k_cmp o_lt (kv 6) k_int (nomark _)) ka_nil u_Compare) u_Compare u_nil)) ka_nil u_BinOp) u_Constant) u_Name) u_Name (u_cons u_Constant (u_cons u_BinOp u_nil)) (by rfl) (by decide)) (by decide) (by intro _ ; rfl)) (@kg_up _ _ _ _ _ _ _ _ rfl rfl (@kgs_cons _ _ _ _ _ _ _ _ (kg_name 2 S_law_space.nd rfl (by first | exact Or.inl rfl | exact Or.inr rfl)) (@kgs_cons _ _ _ _ _ _ _ _ (kg_name 3 S_law_space.nd rfl (by first | exact Or.inl rfl | exact Or.inr rfl)) (kgs_cons (kg_name 4 S_law_space.nd rfl (by first | exact Or.inl rfl | exact Or.inr rfl)) kgs_nil) (by rfl)) (by rfl)) (by rfl) (by rfl)) (by rfl) (by rfl) (by rfl)) (@kss_cons _ _ _ _ _ _ (@ks_set _ _ _ _ _ 5 _ _ S_law_space.nd rfl (by first | exact Or.inl rfl | exact Or.inr rfl) (@k_tup _ _ _ _ _ _ (@ka_c _ _ _ _ _ _ (@kcS _ _ _ _ _ _ _ _ _ _ _ _ _ G_law_bounds hr (by decide) (few_cons (few_cons (few_cons few_nil))) (ka_c (kv 0) (ka_c (kv 2) (ka_c (k_op o_sub (k_ix (x_ix rfl (hu_of hr)) (kv 1) k_int (fun _ _ => rfl)) k_int) ka_nil u_BinOp) u_Name) u_Name) u_Name (u_cons u_Name (u_cons u_BinOp u_nil)) (by rfl) (by decide)) (@ka_c _ _ _ _ _ _ (@kcS _ _ _ _ _ _ _ _ _ _ _ _ _ G_law_bounds hr (by decide) (few_cons (few_cons (few_cons few_nil))) (ka_c (kv 0) (ka_c (kv 3) (ka_c (k_op o_sub (k_ix (x_ix rfl (hu_of hr)) (kv 1) k_int (fun _ _ => rfl)) k_int) ka_nil u_BinOp) u_Name) u_Name) u_Name (u_cons u_Name (u_cons u_BinOp u_nil)) (by rfl) (by decide)) ka_nil u_Call) u_Call) (Few.le (few_cons (few_cons few_nil)) (by decide))) (by rfl) (by first | exact .inl rfl | exact .inr rfl | assumption)) (@kss_one _ _ _ _ (@ks_ret _ _ _ _ _ (@k_op _ _ _ _ _ _ _ _ _ (o_add rfl) (k_op (o_add rfl) (k_tup (ka_c (kv 2) (ka_c (kv 3) ka_nil u_Name) u_Name) (Few.le (few_cons (few_cons few_nil)) (by decide))) (kv 5)) (@k_tup _ _ _ _ _ _ (@ka_c _ _ _ _ _ _ (kv 4) (@ka_c _ _ _ _ _ _ (@kcS _ _ _ _ _ _ _ _ _ _ _ _ _ G_law_bounds hr (by decide) (few_cons (few_cons (few_cons few_nil))) (ka_c (kv 0) (ka_c (kv 4) (ka_c (k_ix (x_ix rfl (hu_of hr)) (kv 1) k_int (fun _ _ => rfl)) ka_nil u_Subscript) u_Name) u_Name) u_Name (u_cons u_Name (u_cons u_Subscript u_nil)) (by rfl) (by decide)) ka_nil u_Call) u_Name) (Few.le (few_cons (few_cons few_nil)) (by decide)))))))
def s_law_beside : Stmt := top 39
theorem S_law_beside : FnScope ["_law_deck_here", "_law_sizes", "_law_it", "_law_found", "_law_most", "_law_k", "_law_way", "_law_end", "_law_far", "_law_a", "_law_b", "_law_c", "_law_d", "_law_e", "_law_f"] ["_law_deck_here", "_law_sizes", "_law_it"] (defScope s_law_beside) := ⟨rfl, rfl, rfl, by decide +kernel, rfl, by decide +kernel, by decide +kernel⟩
theorem O_law_beside (B : Blt K mg) (F : DefAt K mg "_law_beside" s_law_beside ["_law_deck_here", "_law_sizes", "_law_it"]) (G_law_draw : Ok P w K mg base ⟨K, cl⟩ "_law_draw" s_law_draw ["_law_deck_here", "_law_many"] 1 p_law_draw) : Ok P w K mg base ⟨K, cl⟩ "_law_beside" s_law_beside ["_law_deck_here", "_law_sizes", "_law_it"] 2 p_law_beside :=
  ok_of F S_law_beside fun f cdv A outer s H E hr =>
    @kss_cons _ _ _ _ _ _ (@ks_par _ _ _ _ _ 3 4 _ _ _ _ _ _ _ _ _ rfl S_law_beside.nd rfl rfl (by decide) rfl rfl (@ka_c _ _ _ _ _ _ (k_lst ka_nil (Few.le few_nil (by decide))) (@ka_c _ _ _ _ _ _ (@k_op _ _ _ _ _ _ _ _ _ (o_add rfl) (@k_op _ _ _ _ _ _ _ _ _ (o_mul rfl) (@k_lst _ _ _ _ _ (@ka_c _ _ _ _ _ _ (k_op o_sub (k_ix (x_ix rfl (hu_of hr)) (kv 1) k_int (fun _ _ => rfl)) k_int) (ka_c (k_op o_sub (k_ix (x_ix rfl (hu_of hr)) (kv 1) k_int (fun _ _ => rfl)) k_int) ka_nil u_BinOp) u_BinOp) (Few.le (few_cons (few_cons few_nil)) (by decide))) k_int) (@k_op _ _ _ _ _ _ _ _ _ (o_mul rfl) (k_lst (ka_c (k_ix (x_ix rfl (hu_of hr)) (kv 1) k_int (fun _ _ => rfl)) ka_nil u_Subscript) (Few.le (few_cons few_nil) (by decide))) k_int)) ka_nil u_BinOp) u_List) (by rfl) (by rfl)) (@kss_cons _ _ _ _ _ _ (@ks_for _ _ _ _ _ _ _ _ _ _ PassesOwn.never rfl (ki_r1 rfl B.range_ (ka_c k_int ka_nil u_Constant)) (kg_name 5 S_law_beside.nd rfl (by first | exact Or.inl rfl | exact Or.inr rfl)) (@kss_cons _ _ _ _ _ _ (@ks_par _ _ _ _ _ 6 7 _ _ _ _ _ _ _ _ _ rfl S_law_beside.nd rfl rfl (by decide) rfl rfl (@ka_c _ _ _ _ _ _ (@kcS _ _ _ _ _ _ _ _ _ _ _ _ _ G_law_draw hr (by decide) (few_cons (few_cons few_nil)) (ka_c (kv 0) (ka_c k_int ka_nil u_Constant) u_Name) u_Name (u_cons u_Constant u_nil) (by rfl) (by decide)) (@ka_c _ _ _ _ _ _ (@k_ix _ _ _ _ _ _ _ _ (x_ix rfl (hu_of hr)) (kv 2) (@k_ix _ _ _ _ _ _ _ _ (x_ix rfl (hu_of hr)) (@k_lst _ _ _ _ _ (@ka_c _ _ _ _ _ _ k_int (ka_c k_int (ka_c k_int (ka_c k_int (ka_c k_int (ka_c k_int ka_nil u_Constant) u_Constant) u_Constant) u_Constant) u_Constant) u_Constant) (Few.le (few_cons (few_cons (few_cons (few_cons (few_cons (few_cons few_nil)))))) (by decide))) (kv 5) (fun _ _ => rfl)) (fun _ _ => rfl)) ka_nil u_Subscript) u_Call) (by rfl) (by rfl)) (@kss_cons _ _ _ _ _ _ (@ks_set _ _ _ _ _ 8 _ _ S_law_beside.nd rfl (by first | exact Or.inl rfl | exact Or.inr rfl) (@k_ix _ _ _ _ _ _ _ _ (x_ix rfl (hu_of hr)) (@k_lst _ _ _ _ _ (@ka_c _ _ _ _ _ _ (k_ix (x_ix rfl (hu_of hr)) (kv 2) (kv 5) (fun _ _ => rfl)) (@ka_c _ _ _ _ _ _ (k_op (o_add rfl) (k_ix (x_ix rfl (hu_of hr)) (kv 2) (kv 5) (fun _ _ => rfl)) k_int) (@ka_c _ _ _ _ _ _ (k_op o_sub (k_ix (x_ix rfl (hu_of hr)) (kv 2) (kv 5) (fun _ _ => rfl)) k_int) (@ka_c _ _ _ _ _ _ (k_op (o_add rfl) (k_ix (x_ix rfl (hu_of hr)) (kv 2) (kv 5) (fun _ _ => rfl)) k_int) (@ka_c _ _ _ _ _ _ (k_op o_sub (k_ix (x_ix rfl (hu_of hr)) (kv 2) (kv 5) (fun _ _ => rfl)) k_int) (ka_c (k_op (o_add rfl) (kv 7) k_int) ka_nil u_BinOp) u_BinOp) u_BinOp) u_BinOp) u_BinOp) u_Subscript) (Few.le (few_cons (few_cons (few_cons (few_cons (few_cons (few_cons few_nil)))))) (by decide))) (kv 6) (fun _ _ => rfl)) (by rfl) (by first | exact .inl rfl | exact .inr rfl | assumption)) (@kss_one _ _ _ _ (@ks_expr _ _ _ _ _ (@k_appS _ _ _ _ _ _ _ _ (kv 3) (@ka_c _ _ _ _ _ _ (@k_bltS _ _ _ _ _ _ _ _ _ _ (c_max rfl) rfl B.max_ (by decide +kernel) (@ka_c _ _ _ _ _ _ k_int (@ka_c _ _ _ _ _ _ (@k_bltS _ _ _ _ _ _ _ _ _ _ (c_min rfl) rfl B.min_ (by decide +kernel) (ka_c (kv 8) (ka_c (k_ix (x_ix rfl (hu_of hr)) (kv 4) (kv 5) (fun _ _ => rfl)) ka_nil u_Subscript) u_Name) u_Name (u_cons u_Subscript u_nil) (by decide) (by decide)) ka_nil u_Call) u_Constant) u_Constant (u_cons u_Call u_nil) (by decide) (by decide)) ka_nil u_Call) u_Call (by rfl) (by rfl)) (by rfl))))) (by intro _ ; rfl)) (@kss_cons _ _ _ _ _ _ (@ks_asg _ _ _ _ _ _ _ _ (kv 3) (@kg_up _ _ _ _ _ _ _ _ rfl rfl (@kgs_cons _ _ _ _ _ _ _ _ (kg_name 9 S_law_beside.nd rfl (by first | exact Or.inl rfl | exact Or.inr rfl)) (@kgs_cons _ _ _ _ _ _ _ _ (kg_name 10 S_law_beside.nd rfl (by first | exact Or.inl rfl | exact Or.inr rfl)) (@kgs_cons _ _ _ _ _ _ _ _ (kg_name 11 S_law_beside.nd rfl (by first | exact Or.inl rfl | exact Or.inr rfl)) (@kgs_cons _ _ _ _ _ _ _ _ (kg_name 12 S_law_beside.nd rfl (by first | exact Or.inl rfl | exact Or.inr rfl)) (@kgs_cons _ _ _ _ _ _ _ _ (kg_name 13 S_law_beside.nd rfl (by first | exact Or.inl rfl | exact Or.inr rfl)) (kgs_cons (kg_name 14 S_law_beside.nd rfl (by first | exact Or.inl rfl | exact Or.inr rfl)) kgs_nil) (by rfl)) (by rfl)) (by rfl)) (by rfl)) (by rfl)) (by rfl) (by rfl)) (by rfl) (by rfl) (by rfl)) (@kss_one _ _ _ _ (@ks_ret _ _ _ _ _ (@k_tup _ _ _ _ _ _ (@ka_c _ _ _ _ _ _ (k_bltS (c_min rfl) rfl B.min_ (by decide +kernel) (ka_c (kv 9) (ka_c (kv 11) ka_nil u_Name) u_Name) u_Name (u_cons u_Name u_nil)) (@ka_c _ _ _ _ _ _ (k_bltS (c_min rfl) rfl B.min_ (by decide +kernel) (ka_c (kv 10) (ka_c (kv 12) ka_nil u_Name) u_Name) u_Name (u_cons u_Name u_nil)) (@ka_c _ _ _ _ _ _ (k_bltS (c_max rfl) rfl B.max_ (by decide +kernel) (ka_c (kv 9) (ka_c (kv 11) ka_nil u_Name) u_Name) u_Name (u_cons u_Name u_nil)) (@ka_c _ _ _ _ _ _ (k_bltS (c_max rfl) rfl B.max_ (by decide +kernel) (ka_c (kv 10) (ka_c (kv 12) ka_nil u_Name) u_Name) u_Name (u_cons u_Name u_nil)) (@ka_c _ _ _ _ _ _ (k_bltS (c_min rfl) rfl B.min_ (by decide +kernel) (ka_c (kv 13) (ka_c (kv 14) ka_nil u_Name) u_Name) u_Name (u_cons u_Name u_nil)) (@ka_c _ _ _ _ _ _ (k_bltS (c_max rfl) rfl B.max_ (by decide +kernel) (ka_c (kv 13) (ka_c (kv 14) ka_nil u_Name) u_Name) u_Name (u_cons u_Name u_nil)) ka_nil u_Call) u_Call) u_Call) u_Call) u_Call) u_Call) (Few.le (few_cons (few_cons (few_cons (few_cons (few_cons (few_cons few_nil)))))) (by decide)))))))
def s_law_off : Stmt := top 41
theorem S_law_off : FnScope ["_law_it", "_law_k", "_law_far"] ["_law_it", "_law_k", "_law_far"] (defScope s_law_off) := ⟨rfl, rfl, rfl, by decide +kernel, rfl, by decide +kernel, by decide +kernel⟩
theorem O_law_off (B : Blt K mg) (F : DefAt K mg "_law_off" s_law_off ["_law_it", "_law_k", "_law_far"])  : Ok P w K mg base ⟨K, cl⟩ "_law_off" s_law_off ["_law_it", "_law_k", "_law_far"] 1 p_law_off :=
  ok_of F S_law_off fun f cdv A outer s H E hr =>
    @kss_one _ _ _ _ (@ks_ret _ _ _ _ _ (@k_bltS _ _ _ _ _ _ _ _ _ _ (c_max3 rfl) rfl B.max_ (by decide +kernel) (@ka_c _ _ _ _ _ _ (k_op o_sub (k_ix (x_ix rfl (hu_of hr)) (kv 0) (kv 1) (fun _ _ => rfl)) (kv 2)) (@ka_c _ _ _ _ _ _ k_int (ka_c (k_op o_sub (kv 2) (k_ix (x_ix rfl (hu_of hr)) (kv 0) (k_op (o_add rfl) (kv 1) k_int) (fun _ _ => rfl))) ka_nil u_BinOp) u_Constant) u_BinOp) u_BinOp (u_cons u_Constant (u_cons u_BinOp u_nil)) (by decide) (by decide)))
def s_law_wider : Stmt := top 42
theorem S_law_wider : FnScope ["_law_sizes", "_law_it", "_law_many", "_law_across", "_law_upward", "_law_ax", "_law_ay"] ["_law_sizes", "_law_it", "_law_many"] (defScope s_law_wider) := ⟨rfl, rfl, rfl, by decide +kernel, rfl, by decide +kernel, by decide +kernel⟩
theorem O_law_wider (B : Blt K mg) (F : DefAt K mg "_law_wider" s_law_wider ["_law_sizes", "_law_it", "_law_many"]) (G_law_off : Ok P w K mg base ⟨K, cl⟩ "_law_off" s_law_off ["_law_it", "_law_k", "_law_far"] 1 p_law_off) : Ok P w K mg base ⟨K, cl⟩ "_law_wider" s_law_wider ["_law_sizes", "_law_it", "_law_many"] 2 p_law_wider :=
  ok_of F S_law_wider fun f cdv A outer s H E hr =>
    @kss_cons _ _ _ _ _ _ (@ks_setLc _ _ _ _ _ _ _ ([("_law_ax", 5)]) _ _ _ _ _ _ _ _ 3 _ rfl S_law_wider.nd rfl rfl (sw_true rfl rfl rfl (by decide +kernel)) (ki_r1 rfl B.range_ (ka_c (k_ix (x_ix rfl (hu_of hr)) (kv 0) k_int (fun _ _ => rfl)) ka_nil u_Subscript)) (blkOk_by (own := [("_law_ax", 5)]) (N := ["_law_sizes", "_law_it", "_law_many", "_law_across", "_law_upward", "_law_ax", "_law_ay"]) (sc := defScope s_law_wider) (by decide +kernel)) (fun _ _ _ _ _ => kg_name 5 S_law_wider.nd rfl (by first | exact Or.inl rfl | exact Or.inr rfl)) (fun _ _ _ _ _ => @kts_one _ _ _ _ (@kt_cmp _ _ _ _ _ _ _ _ _ o_le (@kcS _ _ _ _ _ _ _ _ _ _ _ _ _ G_law_off hr (by decide) (few_cons (few_cons (few_cons few_nil))) (ka_c (kv 1) (ka_c k_int (ka_c (kv 5) ka_nil u_Name) u_Constant) u_Name) u_Name (u_cons u_Constant (u_cons u_Name u_nil)) (by rfl) (by decide)) (kv 2) (nomark _))) (fun _ _ _ _ _ => kv 5) (by decide) (by intro _ ; rfl)) (@kss_cons _ _ _ _ _ _ (@ks_setLc _ _ _ _ _ _ _ ([("_law_ay", 6)]) _ _ _ _ _ _ _ _ 4 _ rfl S_law_wider.nd rfl rfl (sw_true rfl rfl rfl (by decide +kernel)) (ki_r1 rfl B.range_ (ka_c (k_ix (x_ix rfl (hu_of hr)) (kv 0) k_int (fun _ _ => rfl)) ka_nil u_Subscript)) (blkOk_by (own := [("_law_ay", 6)]) (N := ["_law_sizes", "_law_it", "_law_many", "_law_across", "_law_upward", "_law_ax", "_law_ay"]) (sc := defScope s_law_wider) (by decide +kernel)) (fun _ _ _ _ _ => kg_name 6 S_law_wider.nd rfl (by first | exact Or.inl rfl | exact Or.inr rfl)) (fun _ _ _ _ _ => @kts_one _ _ _ _ (@kt_cmp _ _ _ _ _ _ _ _ _ o_le (@kcS _ _ _ _ _ _ _ _ _ _ _ _ _ G_law_off hr (by decide) (few_cons (few_cons (few_cons few_nil))) (ka_c (kv 1) (ka_c k_int (ka_c (kv 6) ka_nil u_Name) u_Constant) u_Name) u_Name (u_cons u_Constant (u_cons u_Name u_nil)) (by rfl) (by decide)) (kv 2) (nomark _))) (fun _ _ _ _ _ => kv 6) (by decide) (by intro _ ; rfl)) (@kss_one _ _ _ _ (@ks_ret _ _ _ _ _ (@k_op _ _ _ _ _ _ _ _ _ (o_add rfl) (@k_tup _ _ _ _ _ _ (@ka_c _ _ _ _ _ _ (k_ix (x_ix rfl (hu_of hr)) (kv 3) k_int (fun _ _ => rfl)) (@ka_c _ _ _ _ _ _ (k_ix (x_ix rfl (hu_of hr)) (kv 4) k_int (fun _ _ => rfl)) (@ka_c _ _ _ _ _ _ (k_ix (x_ix rfl (hu_of hr)) (kv 3) (k_un u_neg k_int) (fun _ _ => rfl)) (ka_c (k_ix (x_ix rfl (hu_of hr)) (kv 4) (k_un u_neg k_int) (fun _ _ => rfl)) ka_nil u_Subscript) u_Subscript) u_Subscript) u_Subscript) (Few.le (few_cons (few_cons (few_cons (few_cons few_nil)))) (by decide))) (k_sl rfl (kv 1) (kp_some k_int) kp_no)))))
def sdo_boxes_meet : Stmt := top 27
theorem Sdo_boxes_meet : FnScope ["one", "other", "x1", "y1", "x2", "y2", "u1", "v1", "u2", "v2"] ["one", "other"] (defScope sdo_boxes_meet) := ⟨rfl, rfl, rfl, by decide +kernel, rfl, by decide +kernel, by decide +kernel⟩
theorem Odo_boxes_meet (B : Blt K mg) (F : DefAt K mg "do_boxes_meet" sdo_boxes_meet ["one", "other"])  : Ok P w K mg base ⟨K, cl⟩ "do_boxes_meet" sdo_boxes_meet ["one", "other"] 1 pdo_boxes_meet :=
  ok_of F Sdo_boxes_meet fun f cdv A outer s H E hr =>
    @kss_cons _ _ _ _ _ _ (@ks_asg _ _ _ _ _ _ _ _ (kv 0) (@kg_tup _ _ _ _ _ _ _ _ rfl rfl (@kgs_cons _ _ _ _ _ _ _ _ (kg_name 2 Sdo_boxes_meet.nd rfl (by first | exact Or.inl rfl | exact Or.inr rfl)) (@kgs_cons _ _ _ _ _ _ _ _ (kg_name 3 Sdo_boxes_meet.nd rfl (by first | exact Or.inl rfl | exact Or.inr rfl)) (@kgs_cons _ _ _ _ _ _ _ _ (kg_name 4 Sdo_boxes_meet.nd rfl (by first | exact Or.inl rfl | exact Or.inr rfl)) (kgs_cons (kg_name 5 Sdo_boxes_meet.nd rfl (by first | exact Or.inl rfl | exact Or.inr rfl)) kgs_nil) (by rfl)) (by rfl)) (by rfl)) (by rfl) (by rfl)) (by rfl) (by rfl) (by rfl)) (@kss_cons _ _ _ _ _ _ (@ks_asg _ _ _ _ _ _ _ _ (kv 1) (@kg_tup _ _ _ _ _ _ _ _ rfl rfl (@kgs_cons _ _ _ _ _ _ _ _ (kg_name 6 Sdo_boxes_meet.nd rfl (by first | exact Or.inl rfl | exact Or.inr rfl)) (@kgs_cons _ _ _ _ _ _ _ _ (kg_name 7 Sdo_boxes_meet.nd rfl (by first | exact Or.inl rfl | exact Or.inr rfl)) (@kgs_cons _ _ _ _ _ _ _ _ (kg_name 8 Sdo_boxes_meet.nd rfl (by first | exact Or.inl rfl | exact Or.inr rfl)) (kgs_cons (kg_name 9 Sdo_boxes_meet.nd rfl (by first | exact Or.inl rfl | exact Or.inr rfl)) kgs_nil) (by rfl)) (by rfl)) (by rfl)) (by rfl) (by rfl)) (by rfl) (by rfl) (by rfl)) (@kss_one _ _ _ _ (@ks_ret _ _ _ _ _ (@k_and _ _ _ _ _ _ _ _ (k_cmp o_le (kv 2) (kv 8) (nomark _)) (k_and (k_cmp o_le (kv 6) (kv 4) (nomark _)) (k_and (k_cmp o_le (kv 3) (kv 9) (nomark _)) (k_one (k_cmp o_le (kv 7) (kv 5) (nomark _)))))))))
def sdo_clash : Stmt := top 31
theorem Sdo_clash : FnScope ["one", "other"] ["one", "other"] (defScope sdo_clash) := ⟨rfl, rfl, rfl, by decide +kernel, rfl, by decide +kernel, by decide +kernel⟩
theorem Odo_clash (B : Blt K mg) (F : DefAt K mg "do_clash" sdo_clash ["one", "other"]) (Gdo_boxes_meet : Ok P w K mg base ⟨K, cl⟩ "do_boxes_meet" sdo_boxes_meet ["one", "other"] 1 pdo_boxes_meet) : Ok P w K mg base ⟨K, cl⟩ "do_clash" sdo_clash ["one", "other"] 2 pdo_clash :=
  ok_of F Sdo_clash fun f cdv A outer s H E hr =>
    @kss_one _ _ _ _ (@ks_ret _ _ _ _ _ (@k_and _ _ _ _ _ _ _ _ (@kcS _ _ _ _ _ _ _ _ _ _ _ _ _ Gdo_boxes_meet hr (by decide) (few_cons (few_cons few_nil)) (ka_c (k_sl rfl (kv 0) kp_no (kp_some k_int)) (ka_c (k_sl rfl (kv 1) kp_no (kp_some k_int)) ka_nil u_Subscript) u_Subscript) u_Subscript (u_cons u_Subscript u_nil) (by rfl) (by decide)) (@k_and _ _ _ _ _ _ _ _ (k_cmp o_le (k_ix (x_ix rfl (hu_of hr)) (kv 0) k_int (fun _ _ => rfl)) (k_ix (x_ix rfl (hu_of hr)) (kv 1) k_int (fun _ _ => rfl)) (nomark _)) (@k_one _ _ _ _ _ _ (k_cmp o_le (k_ix (x_ix rfl (hu_of hr)) (kv 1) k_int (fun _ _ => rfl)) (k_ix (x_ix rfl (hu_of hr)) (kv 0) k_int (fun _ _ => rfl)) (nomark _))))))
def s_law_meet : Stmt := top 40
theorem S_law_meet : FnScope ["_law_it", "_law_far", "_law_low", "_law_high", "_law_k"] ["_law_it", "_law_far"] (defScope s_law_meet) := ⟨rfl, rfl, rfl, by decide +kernel, rfl, by decide +kernel, by decide +kernel⟩
theorem O_law_meet (B : Blt K mg) (F : DefAt K mg "_law_meet" s_law_meet ["_law_it", "_law_far"])  : Ok P w K mg base ⟨K, cl⟩ "_law_meet" s_law_meet ["_law_it", "_law_far"] 1 p_law_meet :=
  ok_of F S_law_meet fun f cdv A outer s H E hr =>
    @kss_cons _ _ _ _ _ _ (@ks_for _ _ _ _ _ _ _ _ _ _ PassesOwn.never rfl (@ki_val _ _ _ _ _ rfl (@k_tup _ _ _ _ _ _ (@ka_c _ _ _ _ _ _ (k_tup (ka_c k_int (ka_c k_int ka_nil u_Constant) u_Constant) (Few.le (few_cons (few_cons few_nil)) (by decide))) (@ka_c _ _ _ _ _ _ (k_tup (ka_c k_int (ka_c k_int ka_nil u_Constant) u_Constant) (Few.le (few_cons (few_cons few_nil)) (by decide))) (ka_c (k_tup (ka_c k_int (ka_c k_int ka_nil u_Constant) u_Constant) (Few.le (few_cons (few_cons few_nil)) (by decide))) ka_nil u_Tuple) u_Tuple) u_Tuple) (Few.le (few_cons (few_cons (few_cons few_nil))) (by decide)))) (@kg_tup _ _ _ _ _ _ _ _ rfl rfl (@kgs_cons _ _ _ _ _ _ _ _ (kg_name 2 S_law_meet.nd rfl (by first | exact Or.inl rfl | exact Or.inr rfl)) (kgs_cons (kg_name 3 S_law_meet.nd rfl (by first | exact Or.inl rfl | exact Or.inr rfl)) kgs_nil) (by rfl)) (by rfl) (by rfl)) (@kss_one _ _ _ _ (@ks_if _ _ _ _ _ _ _ _ _ (@kt_cmp _ _ _ _ _ _ _ _ _ (o_eq rfl hr.units) (@k_lc _ _ _ _ _ _ _ ([("_law_k", 4)]) _ _ _ _ _ _ rfl S_law_meet.nd (@ki_r2 _ _ _ _ _ _ _ _ rfl B.range_ (@ka_c _ _ _ _ _ _ (k_ix (x_ix rfl (hu_of hr)) (kv 0) (kv 2) (fun _ _ => rfl)) (ka_c (k_op (o_add rfl) (k_ix (x_ix rfl (hu_of hr)) (kv 0) (kv 3) (fun _ _ => rfl)) k_int) ka_nil u_BinOp) u_Subscript) (by rfl) (by rfl)) (blkOk_by (own := [("_law_k", 4)]) (N := ["_law_it", "_law_far", "_law_low", "_law_high", "_law_k"]) (sc := defScope s_law_meet) (by decide +kernel)) (fun _ _ _ _ _ => kg_name 4 S_law_meet.nd rfl (by first | exact Or.inl rfl | exact Or.inr rfl)) (fun _ _ _ _ _ => @kts_one _ _ _ _ (@kt_chain _ _ _ _ _ _ _ _ _ _ _ _ _ o_le o_le (k_ix (x_ix rfl (hu_of hr)) (kv 1) (kv 2) (fun _ _ => rfl)) (kv 4) (k_ix (x_ix rfl (hu_of hr)) (kv 1) (kv 3) (fun _ _ => rfl)) (by with_unfolding_all rfl))) (fun _ _ _ _ _ => kv 4) (by decide) (by intro _ ; rfl)) (k_lst ka_nil (Few.le few_nil (by decide))) (nomark _)) (kss_one (ks_ret k_bl)) kss_nil)) (by intro _ ; rfl)) (kss_one (ks_ret k_bl))
def s_law_gap : Stmt := top 43
theorem S_law_gap : FnScope ["_law_it", "_law_far", "_law_k"] ["_law_it", "_law_far", "_law_k"] (defScope s_law_gap) := ⟨rfl, rfl, rfl, by decide +kernel, rfl, by decide +kernel, by decide +kernel⟩
theorem O_law_gap (B : Blt K mg) (F : DefAt K mg "_law_gap" s_law_gap ["_law_it", "_law_far", "_law_k"])  : Ok P w K mg base ⟨K, cl⟩ "_law_gap" s_law_gap ["_law_it", "_law_far", "_law_k"] 1 p_law_gap :=
  ok_of F S_law_gap fun f cdv A outer s H E hr =>
    @kss_one _ _ _ _ (@ks_ret _ _ _ _ _ (@k_bltS _ _ _ _ _ _ _ _ _ _ (c_max3 rfl) rfl B.max_ (by decide +kernel) (@ka_c _ _ _ _ _ _ (@k_op _ _ _ _ _ _ _ _ _ o_sub (k_ix (x_ix rfl (hu_of hr)) (kv 0) (kv 2) (fun _ _ => rfl)) (k_ix (x_ix rfl (hu_of hr)) (kv 1) (k_op (o_add rfl) (kv 2) k_int) (fun _ _ => rfl))) (@ka_c _ _ _ _ _ _ (@k_op _ _ _ _ _ _ _ _ _ o_sub (k_ix (x_ix rfl (hu_of hr)) (kv 1) (kv 2) (fun _ _ => rfl)) (k_ix (x_ix rfl (hu_of hr)) (kv 0) (k_op (o_add rfl) (kv 2) k_int) (fun _ _ => rfl))) (ka_c k_int ka_nil u_Constant) u_BinOp) u_BinOp) u_BinOp (u_cons u_BinOp (u_cons u_Constant u_nil)) (by decide) (by decide)))
def s_law_two_right : Stmt := top 44
theorem S_law_two_right : FnScope ["_law_made", "_law_it", "_law_far", "_law_many", "_law_due", "_law_kept", "_law_here", "_law_near"] ["_law_made", "_law_it", "_law_far", "_law_many"] (defScope s_law_two_right) := ⟨rfl, rfl, rfl, by decide +kernel, rfl, by decide +kernel, by decide +kernel⟩
theorem O_law_two_right (B : Blt K mg) (F : DefAt K mg "_law_two_right" s_law_two_right ["_law_made", "_law_it", "_law_far", "_law_many"]) (Ggrown : Ok P w K mg base ⟨K, cl⟩ "grown" sgrown ["land", "rooms", "by"] 2 pgrown) (Gdo_clash : Ok P w K mg base ⟨K, cl⟩ "do_clash" sdo_clash ["one", "other"] 2 pdo_clash) (G_law_meet : Ok P w K mg base ⟨K, cl⟩ "_law_meet" s_law_meet ["_law_it", "_law_far"] 1 p_law_meet) (G_law_gap : Ok P w K mg base ⟨K, cl⟩ "_law_gap" s_law_gap ["_law_it", "_law_far", "_law_k"] 1 p_law_gap) : Ok P w K mg base ⟨K, cl⟩ "_law_two_right" s_law_two_right ["_law_made", "_law_it", "_law_far", "_law_many"] 3 p_law_two_right :=
  ok_of F S_law_two_right fun f cdv A outer s H E hr =>
    @kss_cons _ _ _ _ _ _ (@ks_par _ _ _ _ _ 4 5 _ _ _ _ _ _ _ _ _ rfl S_law_two_right.nd rfl rfl (by decide) rfl rfl (@ka_c _ _ _ _ _ _ (kcS G_law_meet hr (by decide) (few_cons (few_cons few_nil)) (ka_c (kv 1) (ka_c (kv 2) ka_nil u_Name) u_Name) u_Name (u_cons u_Name u_nil)) (@ka_c _ _ _ _ _ _ (@k_bltS _ _ _ _ _ _ _ _ _ _ (c_repr rfl hr) rfl B.repr_ (by decide +kernel) (ka_c (k_tup (ka_c (kv 1) (ka_c (kv 2) ka_nil u_Name) u_Name) (Few.le (few_cons (few_cons few_nil)) (by decide))) ka_nil u_Tuple) u_Tuple u_nil (by decide) (by decide)) ka_nil u_Call) u_Call) (by rfl) (by rfl)) (@kss_cons _ _ _ _ _ _ (@ks_set _ _ _ _ _ 6 _ _ S_law_two_right.nd rfl (by first | exact Or.inl rfl | exact Or.inr rfl) (@k_lst _ _ _ _ _ (@ka_c _ _ _ _ _ _ (kcS Gdo_clash hr (by decide) (few_cons (few_cons few_nil)) (ka_c (kv 1) (ka_c (kv 2) ka_nil u_Name) u_Name) u_Name (u_cons u_Name u_nil)) (@ka_c _ _ _ _ _ _ (kcS Gdo_clash hr (by decide) (few_cons (few_cons few_nil)) (ka_c (kv 2) (ka_c (kv 1) ka_nil u_Name) u_Name) u_Name (u_cons u_Name u_nil)) (@ka_c _ _ _ _ _ _ (@kck0 _ _ _ _ _ (["other", "one"]) _ _ _ _ _ _ _ [1, 0] Gdo_clash hr (by decide) (few_cons (few_cons few_nil)) rfl (by decide) (by decide) (fun _ _ _ _ _ _ us ws h1 h2 => match us, ws, h1, h2 with | [], [_, _], _, _ => rfl) (kk_cons (kv 2) (kk_cons (kv 1) kk_nil)) (by rfl) (by rfl) (by rfl) (by decide) (by rfl)) ka_nil u_Call) u_Call) u_Call) (Few.le (few_cons (few_cons (few_cons few_nil))) (by decide))) (by rfl) (by first | exact .inl rfl | exact .inr rfl | assumption)) (@kss_cons _ _ _ _ _ _ (@ks_if _ _ _ _ _ _ _ _ _ (@kt_cmp _ _ _ _ _ _ _ _ _ (o_ne rfl hr.units) (k_bltS (c_repr rfl hr) rfl B.repr_ (by decide +kernel) (ka_c (kv 6) ka_nil u_Name) u_Name u_nil) (@k_bltS _ _ _ _ _ _ _ _ _ _ (c_repr rfl hr) rfl B.repr_ (by decide +kernel) (ka_c (k_op (o_mul rfl) (k_lst (ka_c (kv 4) ka_nil u_Name) (Few.le (few_cons few_nil) (by decide))) k_int) ka_nil u_BinOp) u_BinOp u_nil (by decide) (by decide)) (nomark _)) (kss_one (ks_ret k_bl)) kss_nil) (@kss_cons _ _ _ _ _ _ (@ks_set _ _ _ _ _ 7 _ _ S_law_two_right.nd rfl (by first | exact Or.inl rfl | exact Or.inr rfl) (@k_and _ _ _ _ _ _ _ _ (@k_cmp _ _ _ _ _ _ _ _ _ o_le (@k_bltS _ _ _ _ _ _ _ _ _ _ (c_max rfl) rfl B.max_ (by decide +kernel) (@ka_c _ _ _ _ _ _ (@kcS _ _ _ _ _ _ _ _ _ _ _ _ _ G_law_gap hr (by decide) (few_cons (few_cons (few_cons few_nil))) (ka_c (kv 1) (ka_c (kv 2) (ka_c k_int ka_nil u_Constant) u_Name) u_Name) u_Name (u_cons u_Name (u_cons u_Constant u_nil)) (by rfl) (by decide)) (@ka_c _ _ _ _ _ _ (@kcS _ _ _ _ _ _ _ _ _ _ _ _ _ G_law_gap hr (by decide) (few_cons (few_cons (few_cons few_nil))) (ka_c (kv 1) (ka_c (kv 2) (ka_c k_int ka_nil u_Constant) u_Name) u_Name) u_Name (u_cons u_Name (u_cons u_Constant u_nil)) (by rfl) (by decide)) ka_nil u_Call) u_Call) u_Call (u_cons u_Call u_nil) (by decide) (by decide)) (kv 3) (nomark _)) (@k_and _ _ _ _ _ _ _ _ (k_cmp o_le (k_ix (x_ix rfl (hu_of hr)) (kv 1) k_int (fun _ _ => rfl)) (k_ix (x_ix rfl (hu_of hr)) (kv 2) k_int (fun _ _ => rfl)) (nomark _)) (@k_one _ _ _ _ _ _ (k_cmp o_le (k_ix (x_ix rfl (hu_of hr)) (kv 2) k_int (fun _ _ => rfl)) (k_ix (x_ix rfl (hu_of hr)) (kv 1) k_int (fun _ _ => rfl)) (nomark _))))) (by rfl) (by first | exact .inl rfl | exact .inr rfl | assumption)) (@kss_one _ _ _ _ (@ks_ret _ _ _ _ _ (@k_and _ _ _ _ _ _ _ _ (@k_cmp _ _ _ _ _ _ _ _ _ (o_eq rfl hr.units) (@k_bltS _ _ _ _ _ _ _ _ _ _ (c_repr rfl hr) rfl B.repr_ (by decide +kernel) (@ka_c _ _ _ _ _ _ (@kcS _ _ _ _ _ _ _ _ _ _ _ _ _ Gdo_clash hr (by decide) (few_cons (few_cons few_nil)) (@ka_c _ _ _ _ _ _ (@k_ix _ _ _ _ _ _ _ _ (x_ix rfl (hu_of hr)) (@kcS _ _ _ _ _ _ _ _ _ _ _ _ _ Ggrown hr (by decide) (few_cons (few_cons (few_cons few_nil))) (ka_c (kv 0) (ka_c (k_tup (ka_c (kv 1) ka_nil u_Name) (Few.le (few_cons few_nil) (by decide))) (ka_c (kv 3) ka_nil u_Name) u_Tuple) u_Name) u_Name (u_cons u_Tuple (u_cons u_Name u_nil)) (by rfl) (by decide)) k_int (fun _ _ => rfl)) (ka_c (kv 2) ka_nil u_Name) u_Subscript) u_Subscript (u_cons u_Name u_nil) (by rfl) (by decide)) ka_nil u_Call) u_Call u_nil (by decide) (by decide)) (k_bltS (c_repr rfl hr) rfl B.repr_ (by decide +kernel) (ka_c (kv 7) ka_nil u_Name) u_Name u_nil) (nomark _)) (@k_one _ _ _ _ _ _ (@k_cmp _ _ _ _ _ _ _ _ _ (o_eq rfl hr.units) (@k_bltS _ _ _ _ _ _ _ _ _ _ (c_repr rfl hr) rfl B.repr_ (by decide +kernel) (ka_c (k_tup (ka_c (kv 1) (ka_c (kv 2) ka_nil u_Name) u_Name) (Few.le (few_cons (few_cons few_nil)) (by decide))) ka_nil u_Tuple) u_Tuple u_nil (by decide) (by decide)) (kv 5) (nomark _)))))))))
def sis_whole : Stmt := top 6
theorem Sis_whole : FnScope ["thing"] ["thing"] (defScope sis_whole) := ⟨rfl, rfl, rfl, by decide +kernel, rfl, by decide +kernel, by decide +kernel⟩
theorem Ois_whole (B : Blt K mg) (F : DefAt K mg "is_whole" sis_whole ["thing"])  : Ok P w K mg base ⟨K, cl⟩ "is_whole" sis_whole ["thing"] 1 pis_whole :=
  ok_of F Sis_whole fun f cdv A outer s H E hr =>
    @kss_one _ _ _ _ (@ks_ret _ _ _ _ _ (@k_and _ _ _ _ _ _ _ _ (k_isi ty_int rfl rfl B.isinstance_ rfl B.int_ (by decide +kernel) (kv 0)) (k_one (k_not (k_isi ty_bool rfl rfl B.isinstance_ rfl B.bool_ (by decide +kernel) (kv 0))))))
def sis_whole_from : Stmt := top 7
theorem Sis_whole_from : FnScope ["thing", "least", "greatest"] ["thing", "least", "greatest"] (defScope sis_whole_from) := ⟨rfl, rfl, rfl, by decide +kernel, rfl, by decide +kernel, by decide +kernel⟩
theorem Ois_whole_from (B : Blt K mg) (F : DefAt K mg "is_whole_from" sis_whole_from ["thing", "least", "greatest"]) (Gis_whole : Ok P w K mg base ⟨K, cl⟩ "is_whole" sis_whole ["thing"] 1 pis_whole) : Ok P w K mg base ⟨K, cl⟩ "is_whole_from" sis_whole_from ["thing", "least", "greatest"] 2 pis_whole_from :=
  ok_of F Sis_whole_from fun f cdv A outer s H E hr =>
    @kss_one _ _ _ _ (@ks_ret _ _ _ _ _ (@k_and _ _ _ _ _ _ _ _ (kcS Gis_whole hr (by decide) (few_cons few_nil) (ka_c (kv 0) ka_nil u_Name) u_Name u_nil) (k_one (k_chain o_le o_le (kv 1) (kv 0) (kv 2)))))
def sis_tuple_of : Stmt := top 10
theorem Sis_tuple_of : FnScope ["thing", "many"] ["thing", "many"] (defScope sis_tuple_of) := ⟨rfl, rfl, rfl, by decide +kernel, rfl, by decide +kernel, by decide +kernel⟩
theorem Ois_tuple_of (B : Blt K mg) (F : DefAt K mg "is_tuple_of" sis_tuple_of ["thing", "many"])  : Ok P w K mg base ⟨K, cl⟩ "is_tuple_of" sis_tuple_of ["thing", "many"] 1 pis_tuple_of :=
  ok_of F Sis_tuple_of fun f cdv A outer s H E hr =>
    @kss_one _ _ _ _ (@ks_ret _ _ _ _ _ (@k_and _ _ _ _ _ _ _ _ (k_isi ty_tuple rfl rfl B.isinstance_ rfl B.tuple_ (by decide +kernel) (kv 0)) (@k_one _ _ _ _ _ _ (k_cmp (o_eq rfl hr.units) (k_bltS (c_len rfl) rfl B.len_ (by decide +kernel) (ka_c (kv 0) ka_nil u_Name) u_Name u_nil) (kv 1) (nomark _)))))
def sare_wholes_from : Stmt := top 8
theorem Sare_wholes_from : FnScope ["things", "least", "greatest", "thing"] ["things", "least", "greatest"] (defScope sare_wholes_from) := ⟨rfl, rfl, rfl, by decide +kernel, rfl, by decide +kernel, by decide +kernel⟩
theorem Oare_wholes_from (B : Blt K mg) (F : DefAt K mg "are_wholes_from" sare_wholes_from ["things", "least", "greatest"]) (Gis_whole_from : Ok P w K mg base ⟨K, cl⟩ "is_whole_from" sis_whole_from ["thing", "least", "greatest"] 2 pis_whole_from) : Ok P w K mg base ⟨K, cl⟩ "are_wholes_from" sare_wholes_from ["things", "least", "greatest"] 3 pare_wholes_from :=
  ok_of F Sare_wholes_from fun f cdv A outer s H E hr =>
    @kss_one _ _ _ _ (@ks_ret _ _ _ _ _ (@k_bltS _ _ _ _ _ _ _ _ _ _ (c_all rfl) rfl B.all_ (by decide +kernel) (@ka_c _ _ _ _ _ _ (@k_lc _ _ _ _ _ _ _ ([("thing", 3)]) _ _ _ _ _ _ rfl Sare_wholes_from.nd (ki_val rfl (kv 0)) (blkOk_by (own := [("thing", 3)]) (N := ["things", "least", "greatest", "thing"]) (sc := defScope sare_wholes_from) (by decide +kernel)) (fun _ _ _ _ _ => kg_name 3 Sare_wholes_from.nd rfl (by first | exact Or.inl rfl | exact Or.inr rfl)) (fun _ _ _ _ _ => kts_nil) (fun _ _ _ _ _ => @kcS _ _ _ _ _ _ _ _ _ _ _ _ _ Gis_whole_from hr (by decide) (few_cons (few_cons (few_cons few_nil))) (ka_c (kv 3) (ka_c (kv 1) (ka_c (kv 2) ka_nil u_Name) u_Name) u_Name) u_Name (u_cons u_Name (u_cons u_Name u_nil)) (by rfl) (by decide)) (by decide) (by intro _ ; rfl)) ka_nil u_ListComp) u_ListComp u_nil (by decide) (by decide)))
def sis_height_row : Stmt := top 23
theorem Sis_height_row : FnScope ["land", "thing"] ["land", "thing"] (defScope sis_height_row) := ⟨rfl, rfl, rfl, by decide +kernel, rfl, by decide +kernel, by decide +kernel⟩
theorem Ois_height_row (B : Blt K mg) (F : DefAt K mg "is_height_row" sis_height_row ["land", "thing"]) (C0 : ClsD K (cl 0) ["wide", "high", "day", "heights", "barred", "people", "pads"]) (Gare_wholes_from : Ok P w K mg base ⟨K, cl⟩ "are_wholes_from" sare_wholes_from ["things", "least", "greatest"] 3 pare_wholes_from) (Gis_tuple_of : Ok P w K mg base ⟨K, cl⟩ "is_tuple_of" sis_tuple_of ["thing", "many"] 1 pis_tuple_of) : Ok P w K mg base ⟨K, cl⟩ "is_height_row" sis_height_row ["land", "thing"] 4 pis_height_row :=
  ok_of F Sis_height_row fun f cdv A outer s H E hr =>
    @kss_one _ _ _ _ (@ks_ret _ _ _ _ _ (@k_and _ _ _ _ _ _ _ _ (@kcS _ _ _ _ _ _ _ _ _ _ _ _ _ Gis_tuple_of hr (by decide) (few_cons (few_cons few_nil)) (ka_c (kv 1) (ka_c (k_fld 0 rfl C0 (by decide +kernel) (kv 0)) ka_nil u_Attribute) u_Name) u_Name (u_cons u_Attribute u_nil) (by rfl) (by decide)) (@k_one _ _ _ _ _ _ (@kcS _ _ _ _ _ _ _ _ _ _ _ _ _ Gare_wholes_from hr (by decide) (few_cons (few_cons (few_cons few_nil))) (ka_c (kv 1) (ka_c k_int (ka_c (k_gi B.HIGHEST_) ka_nil u_Name) u_Constant) u_Name) u_Name (u_cons u_Constant (u_cons u_Name u_nil)) (by rfl) (by decide)))))
def sare_heights : Stmt := top 22
theorem Sare_heights : FnScope ["land", "thing", "row"] ["land", "thing"] (defScope sare_heights) := ⟨rfl, rfl, rfl, by decide +kernel, rfl, by decide +kernel, by decide +kernel⟩
theorem Oare_heights (B : Blt K mg) (F : DefAt K mg "are_heights" sare_heights ["land", "thing"]) (C0 : ClsD K (cl 0) ["wide", "high", "day", "heights", "barred", "people", "pads"]) (Gis_tuple_of : Ok P w K mg base ⟨K, cl⟩ "is_tuple_of" sis_tuple_of ["thing", "many"] 1 pis_tuple_of) (Gis_height_row : Ok P w K mg base ⟨K, cl⟩ "is_height_row" sis_height_row ["land", "thing"] 4 pis_height_row) : Ok P w K mg base ⟨K, cl⟩ "are_heights" sare_heights ["land", "thing"] 5 pare_heights :=
  ok_of F Sare_heights fun f cdv A outer s H E hr =>
    @kss_one _ _ _ _ (@ks_ret _ _ _ _ _ (@k_and _ _ _ _ _ _ _ _ (@kcS _ _ _ _ _ _ _ _ _ _ _ _ _ Gis_tuple_of hr (by decide) (few_cons (few_cons few_nil)) (ka_c (kv 1) (ka_c (k_fld 0 rfl C0 (by decide +kernel) (kv 0)) ka_nil u_Attribute) u_Name) u_Name (u_cons u_Attribute u_nil) (by rfl) (by decide)) (@k_one _ _ _ _ _ _ (@k_bltS _ _ _ _ _ _ _ _ _ _ (c_all rfl) rfl B.all_ (by decide +kernel) (@ka_c _ _ _ _ _ _ (@k_lc _ _ _ _ _ _ _ ([("row", 2)]) _ _ _ _ _ _ rfl Sare_heights.nd (ki_val rfl (kv 1)) (blkOk_by (own := [("row", 2)]) (N := ["land", "thing", "row"]) (sc := defScope sare_heights) (by decide +kernel)) (fun _ _ _ _ _ => kg_name 2 Sare_heights.nd rfl (by first | exact Or.inl rfl | exact Or.inr rfl)) (fun _ _ _ _ _ => kts_nil) (fun _ _ _ _ _ => @kcS _ _ _ _ _ _ _ _ _ _ _ _ _ Gis_height_row hr (by decide) (few_cons (few_cons few_nil)) (ka_c (kv 0) (ka_c (kv 2) ka_nil u_Name) u_Name) u_Name (u_cons u_Name u_nil) (by rfl) (by decide)) (by decide) (by intro _ ; rfl)) ka_nil u_ListComp) u_ListComp u_nil (by decide) (by decide)))))
def sis_tuple_to : Stmt := top 11
theorem Sis_tuple_to : FnScope ["thing", "most"] ["thing", "most"] (defScope sis_tuple_to) := ⟨rfl, rfl, rfl, by decide +kernel, rfl, by decide +kernel, by decide +kernel⟩
theorem Ois_tuple_to (B : Blt K mg) (F : DefAt K mg "is_tuple_to" sis_tuple_to ["thing", "most"])  : Ok P w K mg base ⟨K, cl⟩ "is_tuple_to" sis_tuple_to ["thing", "most"] 1 pis_tuple_to :=
  ok_of F Sis_tuple_to fun f cdv A outer s H E hr =>
    @kss_one _ _ _ _ (@ks_ret _ _ _ _ _ (@k_and _ _ _ _ _ _ _ _ (k_isi ty_tuple rfl rfl B.isinstance_ rfl B.tuple_ (by decide +kernel) (kv 0)) (k_one (k_cmp o_le (k_bltS (c_len rfl) rfl B.len_ (by decide +kernel) (ka_c (kv 0) ka_nil u_Name) u_Name u_nil) (kv 1) (nomark _)))))
def sis_span : Stmt := top 9
theorem Sis_span : FnScope ["first", "last", "greatest"] ["first", "last", "greatest"] (defScope sis_span) := ⟨rfl, rfl, rfl, by decide +kernel, rfl, by decide +kernel, by decide +kernel⟩
theorem Ois_span (B : Blt K mg) (F : DefAt K mg "is_span" sis_span ["first", "last", "greatest"]) (Gare_wholes_from : Ok P w K mg base ⟨K, cl⟩ "are_wholes_from" sare_wholes_from ["things", "least", "greatest"] 3 pare_wholes_from) : Ok P w K mg base ⟨K, cl⟩ "is_span" sis_span ["first", "last", "greatest"] 4 pis_span :=
  ok_of F Sis_span fun f cdv A outer s H E hr =>
    @kss_one _ _ _ _ (@ks_ret _ _ _ _ _ (@k_and _ _ _ _ _ _ _ _ (@kcS _ _ _ _ _ _ _ _ _ _ _ _ _ Gare_wholes_from hr (by decide) (few_cons (few_cons (few_cons few_nil))) (@ka_c _ _ _ _ _ _ (k_tup (ka_c (kv 0) (ka_c (kv 1) ka_nil u_Name) u_Name) (Few.le (few_cons (few_cons few_nil)) (by decide))) (ka_c k_int (ka_c (kv 2) ka_nil u_Name) u_Constant) u_Tuple) u_Tuple (u_cons u_Constant (u_cons u_Name u_nil)) (by rfl) (by decide)) (k_one (k_cmp o_le (kv 0) (kv 1) (nomark _)))))
def sis_box : Stmt := top 20
theorem Sis_box : FnScope ["land", "thing", "x1", "y1", "x2", "y2"] ["land", "thing"] (defScope sis_box) := ⟨rfl, rfl, rfl, by decide +kernel, rfl, by decide +kernel, by decide +kernel⟩
theorem Ois_box (B : Blt K mg) (F : DefAt K mg "is_box" sis_box ["land", "thing"]) (C0 : ClsD K (cl 0) ["wide", "high", "day", "heights", "barred", "people", "pads"]) (Gis_span : Ok P w K mg base ⟨K, cl⟩ "is_span" sis_span ["first", "last", "greatest"] 4 pis_span) (Gis_tuple_of : Ok P w K mg base ⟨K, cl⟩ "is_tuple_of" sis_tuple_of ["thing", "many"] 1 pis_tuple_of) : Ok P w K mg base ⟨K, cl⟩ "is_box" sis_box ["land", "thing"] 5 pis_box :=
  ok_of F Sis_box fun f cdv A outer s H E hr =>
    @kss_cons _ _ _ _ _ _ (@ks_if _ _ _ _ _ _ _ _ _ (@kt_not _ _ _ _ _ (@kt_val _ _ _ _ (@kcS _ _ _ _ _ _ _ _ _ _ _ _ _ Gis_tuple_of hr (by decide) (few_cons (few_cons few_nil)) (ka_c (kv 1) (ka_c k_int ka_nil u_Constant) u_Name) u_Name (u_cons u_Constant u_nil) (by rfl) (by decide)) (by intro _ ; rfl))) (kss_one (ks_ret k_bl)) kss_nil) (@kss_cons _ _ _ _ _ _ (@ks_asg _ _ _ _ _ _ _ _ (kv 1) (@kg_tup _ _ _ _ _ _ _ _ rfl rfl (@kgs_cons _ _ _ _ _ _ _ _ (kg_name 2 Sis_box.nd rfl (by first | exact Or.inl rfl | exact Or.inr rfl)) (@kgs_cons _ _ _ _ _ _ _ _ (kg_name 3 Sis_box.nd rfl (by first | exact Or.inl rfl | exact Or.inr rfl)) (@kgs_cons _ _ _ _ _ _ _ _ (kg_name 4 Sis_box.nd rfl (by first | exact Or.inl rfl | exact Or.inr rfl)) (kgs_cons (kg_name 5 Sis_box.nd rfl (by first | exact Or.inl rfl | exact Or.inr rfl)) kgs_nil) (by rfl)) (by rfl)) (by rfl)) (by rfl) (by rfl)) (by rfl) (by rfl) (by rfl)) (@kss_one _ _ _ _ (@ks_ret _ _ _ _ _ (@k_and _ _ _ _ _ _ _ _ (@kcS _ _ _ _ _ _ _ _ _ _ _ _ _ Gis_span hr (by decide) (few_cons (few_cons (few_cons few_nil))) (ka_c (kv 2) (ka_c (kv 4) (ka_c (k_op o_sub (k_fld 0 rfl C0 (by decide +kernel) (kv 0)) k_int) ka_nil u_BinOp) u_Name) u_Name) u_Name (u_cons u_Name (u_cons u_BinOp u_nil)) (by rfl) (by decide)) (@k_one _ _ _ _ _ _ (@kcS _ _ _ _ _ _ _ _ _ _ _ _ _ Gis_span hr (by decide) (few_cons (few_cons (few_cons few_nil))) (ka_c (kv 3) (ka_c (kv 5) (ka_c (k_op o_sub (k_fld 0 rfl C0 (by decide +kernel) (kv 0)) k_int) ka_nil u_BinOp) u_Name) u_Name) u_Name (u_cons u_Name (u_cons u_BinOp u_nil)) (by rfl) (by decide)))))))
def sis_room : Stmt := top 21
theorem Sis_room : FnScope ["land", "thing"] ["land", "thing"] (defScope sis_room) := ⟨rfl, rfl, rfl, by decide +kernel, rfl, by decide +kernel, by decide +kernel⟩
theorem Ois_room (B : Blt K mg) (F : DefAt K mg "is_room" sis_room ["land", "thing"]) (C0 : ClsD K (cl 0) ["wide", "high", "day", "heights", "barred", "people", "pads"]) (Gis_span : Ok P w K mg base ⟨K, cl⟩ "is_span" sis_span ["first", "last", "greatest"] 4 pis_span) (Gis_tuple_of : Ok P w K mg base ⟨K, cl⟩ "is_tuple_of" sis_tuple_of ["thing", "many"] 1 pis_tuple_of) (Gis_box : Ok P w K mg base ⟨K, cl⟩ "is_box" sis_box ["land", "thing"] 5 pis_box) : Ok P w K mg base ⟨K, cl⟩ "is_room" sis_room ["land", "thing"] 6 pis_room :=
  ok_of F Sis_room fun f cdv A outer s H E hr =>
    @kss_one _ _ _ _ (@ks_ret _ _ _ _ _ (@k_and _ _ _ _ _ _ _ _ (@kcS _ _ _ _ _ _ _ _ _ _ _ _ _ Gis_tuple_of hr (by decide) (few_cons (few_cons few_nil)) (ka_c (kv 1) (ka_c k_int ka_nil u_Constant) u_Name) u_Name (u_cons u_Constant u_nil) (by rfl) (by decide)) (@k_and _ _ _ _ _ _ _ _ (@kcS _ _ _ _ _ _ _ _ _ _ _ _ _ Gis_box hr (by decide) (few_cons (few_cons few_nil)) (ka_c (kv 0) (ka_c (k_sl rfl (kv 1) kp_no (kp_some k_int)) ka_nil u_Subscript) u_Name) u_Name (u_cons u_Subscript u_nil) (by rfl) (by decide)) (@k_one _ _ _ _ _ _ (@kcS _ _ _ _ _ _ _ _ _ _ _ _ _ Gis_span hr (by decide) (few_cons (few_cons (few_cons few_nil))) (@ka_c _ _ _ _ _ _ (k_ix (x_ix rfl (hu_of hr)) (kv 1) k_int (fun _ _ => rfl)) (@ka_c _ _ _ _ _ _ (k_ix (x_ix rfl (hu_of hr)) (kv 1) k_int (fun _ _ => rfl)) (ka_c (k_fld 0 rfl C0 (by decide +kernel) (kv 0)) ka_nil u_Attribute) u_Subscript) u_Subscript) u_Subscript (u_cons u_Subscript (u_cons u_Attribute u_nil)) (by rfl) (by decide))))))
def sare_rooms : Stmt := top 24
theorem Sare_rooms : FnScope ["land", "thing", "room"] ["land", "thing"] (defScope sare_rooms) := ⟨rfl, rfl, rfl, by decide +kernel, rfl, by decide +kernel, by decide +kernel⟩
theorem Oare_rooms (B : Blt K mg) (F : DefAt K mg "are_rooms" sare_rooms ["land", "thing"]) (Gis_tuple_to : Ok P w K mg base ⟨K, cl⟩ "is_tuple_to" sis_tuple_to ["thing", "most"] 1 pis_tuple_to) (Gis_room : Ok P w K mg base ⟨K, cl⟩ "is_room" sis_room ["land", "thing"] 6 pis_room) : Ok P w K mg base ⟨K, cl⟩ "are_rooms" sare_rooms ["land", "thing"] 7 pare_rooms :=
  ok_of F Sare_rooms fun f cdv A outer s H E hr =>
    @kss_one _ _ _ _ (@ks_ret _ _ _ _ _ (@k_and _ _ _ _ _ _ _ _ (@kcS _ _ _ _ _ _ _ _ _ _ _ _ _ Gis_tuple_to hr (by decide) (few_cons (few_cons few_nil)) (ka_c (kv 1) (ka_c (k_gi B.MOST_ROOMS_) ka_nil u_Name) u_Name) u_Name (u_cons u_Name u_nil) (by rfl) (by decide)) (@k_one _ _ _ _ _ _ (@k_bltS _ _ _ _ _ _ _ _ _ _ (c_all rfl) rfl B.all_ (by decide +kernel) (@ka_c _ _ _ _ _ _ (@k_lc _ _ _ _ _ _ _ ([("room", 2)]) _ _ _ _ _ _ rfl Sare_rooms.nd (ki_val rfl (kv 1)) (blkOk_by (own := [("room", 2)]) (N := ["land", "thing", "room"]) (sc := defScope sare_rooms) (by decide +kernel)) (fun _ _ _ _ _ => kg_name 2 Sare_rooms.nd rfl (by first | exact Or.inl rfl | exact Or.inr rfl)) (fun _ _ _ _ _ => kts_nil) (fun _ _ _ _ _ => kcS Gis_room hr (by decide) (few_cons (few_cons few_nil)) (ka_c (kv 0) (ka_c (kv 2) ka_nil u_Name) u_Name) u_Name (u_cons u_Name u_nil)) (by decide) (by intro _ ; rfl)) ka_nil u_ListComp) u_ListComp u_nil (by decide) (by decide)))))
def sis_pad : Stmt := top 26
theorem Sis_pad : FnScope ["land", "thing"] ["land", "thing"] (defScope sis_pad) := ⟨rfl, rfl, rfl, by decide +kernel, rfl, by decide +kernel, by decide +kernel⟩
theorem Ois_pad (B : Blt K mg) (F : DefAt K mg "is_pad" sis_pad ["land", "thing"]) (Gis_whole_from : Ok P w K mg base ⟨K, cl⟩ "is_whole_from" sis_whole_from ["thing", "least", "greatest"] 2 pis_whole_from) (Gis_tuple_of : Ok P w K mg base ⟨K, cl⟩ "is_tuple_of" sis_tuple_of ["thing", "many"] 1 pis_tuple_of) (Gis_box : Ok P w K mg base ⟨K, cl⟩ "is_box" sis_box ["land", "thing"] 5 pis_box) : Ok P w K mg base ⟨K, cl⟩ "is_pad" sis_pad ["land", "thing"] 6 pis_pad :=
  ok_of F Sis_pad fun f cdv A outer s H E hr =>
    @kss_one _ _ _ _ (@ks_ret _ _ _ _ _ (@k_and _ _ _ _ _ _ _ _ (@kcS _ _ _ _ _ _ _ _ _ _ _ _ _ Gis_tuple_of hr (by decide) (few_cons (few_cons few_nil)) (ka_c (kv 1) (ka_c k_int ka_nil u_Constant) u_Name) u_Name (u_cons u_Constant u_nil) (by rfl) (by decide)) (@k_and _ _ _ _ _ _ _ _ (@kcS _ _ _ _ _ _ _ _ _ _ _ _ _ Gis_box hr (by decide) (few_cons (few_cons few_nil)) (ka_c (kv 0) (ka_c (k_sl rfl (kv 1) kp_no (kp_some k_int)) ka_nil u_Subscript) u_Name) u_Name (u_cons u_Subscript u_nil) (by rfl) (by decide)) (@k_one _ _ _ _ _ _ (@kcS _ _ _ _ _ _ _ _ _ _ _ _ _ Gis_whole_from hr (by decide) (few_cons (few_cons (few_cons few_nil))) (@ka_c _ _ _ _ _ _ (k_ix (x_ix rfl (hu_of hr)) (kv 1) k_int (fun _ _ => rfl)) (ka_c k_int (ka_c (k_gi B.MOST_ON_PAD_) ka_nil u_Name) u_Constant) u_Subscript) u_Subscript (u_cons u_Constant (u_cons u_Name u_nil)) (by rfl) (by decide))))))
def sare_pads : Stmt := top 25
theorem Sare_pads : FnScope ["land", "thing", "at", "pad", "other"] ["land", "thing"] (defScope sare_pads) := ⟨rfl, rfl, rfl, by decide +kernel, rfl, by decide +kernel, by decide +kernel⟩
theorem Oare_pads (B : Blt K mg) (F : DefAt K mg "are_pads" sare_pads ["land", "thing"]) (Gis_tuple_to : Ok P w K mg base ⟨K, cl⟩ "is_tuple_to" sis_tuple_to ["thing", "most"] 1 pis_tuple_to) (Gis_pad : Ok P w K mg base ⟨K, cl⟩ "is_pad" sis_pad ["land", "thing"] 6 pis_pad) (Gdo_boxes_meet : Ok P w K mg base ⟨K, cl⟩ "do_boxes_meet" sdo_boxes_meet ["one", "other"] 1 pdo_boxes_meet) : Ok P w K mg base ⟨K, cl⟩ "are_pads" sare_pads ["land", "thing"] 7 pare_pads :=
  ok_of F Sare_pads fun f cdv A outer s H E hr =>
    @kss_cons _ _ _ _ _ _ (@ks_if _ _ _ _ _ _ _ _ _ (@PW.pt _ _ _ (@kw_or _ _ _ _ _ _ _ _ (@kt_not _ _ _ _ _ (@kt_val _ _ _ _ (@kcS _ _ _ _ _ _ _ _ _ _ _ _ _ Gis_tuple_to hr (by decide) (few_cons (few_cons few_nil)) (ka_c (kv 1) (ka_c (k_gi B.MOST_PADS_) ka_nil u_Name) u_Name) u_Name (u_cons u_Name u_nil) (by rfl) (by decide)) (by intro _ ; rfl))) (@kw_or1 _ _ _ _ _ (@kt_not _ _ _ _ _ (@kt_val _ _ _ _ (@k_bltS _ _ _ _ _ _ _ _ _ _ (c_all rfl) rfl B.all_ (by decide +kernel) (@ka_c _ _ _ _ _ _ (@k_lc _ _ _ _ _ _ _ ([("pad", 3)]) _ _ _ _ _ _ rfl Sare_pads.nd (ki_val rfl (kv 1)) (blkOk_by (own := [("pad", 3)]) (N := ["land", "thing", "at", "pad", "other"]) (sc := defScope sare_pads) (by decide +kernel)) (fun _ _ _ _ _ => kg_name 3 Sare_pads.nd rfl (by first | exact Or.inl rfl | exact Or.inr rfl)) (fun _ _ _ _ _ => kts_nil) (fun _ _ _ _ _ => kcS Gis_pad hr (by decide) (few_cons (few_cons few_nil)) (ka_c (kv 0) (ka_c (kv 3) ka_nil u_Name) u_Name) u_Name (u_cons u_Name u_nil)) (by decide) (by intro _ ; rfl)) ka_nil u_ListComp) u_ListComp u_nil (by decide) (by decide)) (by intro _ ; rfl)))))) (kss_one (ks_ret k_bl)) kss_nil) (@kss_cons _ _ _ _ _ _ (@ks_for _ _ _ _ _ _ _ _ _ _ PassesOwn.never rfl (ki_en rfl rfl B.enumerate_ (kv 1)) (@kg_tup _ _ _ _ _ _ _ _ rfl rfl (@kgs_cons _ _ _ _ _ _ _ _ (kg_name 2 Sare_pads.nd rfl (by first | exact Or.inl rfl | exact Or.inr rfl)) (kgs_cons (kg_name 3 Sare_pads.nd rfl (by first | exact Or.inl rfl | exact Or.inr rfl)) kgs_nil) (by rfl)) (by rfl) (by rfl)) (@kss_one _ _ _ _ (@ks_if _ _ _ _ _ _ _ _ _ (@kt_val _ _ _ _ (@k_bltS _ _ _ _ _ _ _ _ _ _ (c_any rfl) rfl B.any_ (by decide +kernel) (@ka_c _ _ _ _ _ _ (@k_lc _ _ _ _ _ _ _ ([("other", 4)]) _ _ _ _ _ _ rfl Sare_pads.nd (ki_val rfl (k_sl rfl (kv 1) kp_no (kp_some (kv 2)))) (blkOk_by (own := [("other", 4)]) (N := ["land", "thing", "at", "pad", "other"]) (sc := defScope sare_pads) (by decide +kernel)) (fun _ _ _ _ _ => kg_name 4 Sare_pads.nd rfl (by first | exact Or.inl rfl | exact Or.inr rfl)) (fun _ _ _ _ _ => kts_nil) (fun _ _ _ _ _ => @kcS _ _ _ _ _ _ _ _ _ _ _ _ _ Gdo_boxes_meet hr (by decide) (few_cons (few_cons few_nil)) (ka_c (k_sl rfl (kv 3) kp_no (kp_some k_int)) (ka_c (k_sl rfl (kv 4) kp_no (kp_some k_int)) ka_nil u_Subscript) u_Subscript) u_Subscript (u_cons u_Subscript u_nil) (by rfl) (by decide)) (by decide) (by intro _ ; rfl)) ka_nil u_ListComp) u_ListComp u_nil (by decide) (by decide)) (by intro _ ; rfl)) (kss_one (ks_ret k_bl)) kss_nil)) (by intro _ ; rfl)) (kss_one (ks_ret k_bl)))
def sLand_mk : Stmt := inClass (top 19) 0
theorem SLand_mk : FnScope ["self", "wide", "high", "day", "heights", "barred", "people", "pads"] ["self", "wide", "high", "day", "heights", "barred", "people", "pads"] (defScope sLand_mk) := ⟨rfl, rfl, rfl, by decide +kernel, rfl, by decide +kernel, by decide +kernel⟩
theorem OLand_mk {f : Addr} {fd : FuncData} (F : Fun K "__init__" "Land.__init__" sLand_mk f fd) (B : Blt K mg) (C0 : ClsD K (cl 0) ["wide", "high", "day", "heights", "barred", "people", "pads"]) (Gis_whole_from : Ok P w K mg base ⟨K, cl⟩ "is_whole_from" sis_whole_from ["thing", "least", "greatest"] 2 pis_whole_from) (Gare_heights : Ok P w K mg base ⟨K, cl⟩ "are_heights" sare_heights ["land", "thing"] 5 pare_heights) (Gare_rooms : Ok P w K mg base ⟨K, cl⟩ "are_rooms" sare_rooms ["land", "thing"] 7 pare_rooms) (Gare_pads : Ok P w K mg base ⟨K, cl⟩ "are_pads" sare_pads ["land", "thing"] 7 pare_pads) : FnOk P w K mg base CX0 8 f fd ["self", "wide", "high", "day", "heights", "barred", "people", "pads"] (spM ⟨K, cl⟩ 8 pLand_mk) :=
  k_fn F SLand_mk (fun cdv A outer s H E hr =>
    @kss_cons _ _ _ _ _ _ (@ks_if _ _ _ _ _ _ _ _ _ (@kt_not _ _ _ _ _ (@kt_val _ _ _ _ (@kcS _ _ _ _ _ _ _ _ _ _ _ _ _ Gis_whole_from hr (by decide) (few_cons (few_cons (few_cons few_nil))) (ka_c (kv 1) (ka_c k_int (ka_c (k_gi B.WIDEST_) ka_nil u_Name) u_Constant) u_Name) u_Name (u_cons u_Constant (u_cons u_Name u_nil)) (by rfl) (by decide)) (by intro _ ; rfl))) (kss_one ks_never) kss_nil) (@kss_cons _ _ _ _ _ _ (ks_fld 0 rfl C0 (by decide +kernel) (kv 0) (kv 1)) (@kss_cons _ _ _ _ _ _ (@ks_if _ _ _ _ _ _ _ _ _ (@kt_not _ _ _ _ _ (@kt_val _ _ _ _ (@kcS _ _ _ _ _ _ _ _ _ _ _ _ _ Gis_whole_from hr (by decide) (few_cons (few_cons (few_cons few_nil))) (ka_c (kv 2) (ka_c k_int (ka_c (k_gi B.WIDEST_) ka_nil u_Name) u_Constant) u_Name) u_Name (u_cons u_Constant (u_cons u_Name u_nil)) (by rfl) (by decide)) (by intro _ ; rfl))) (kss_one ks_never) kss_nil) (@kss_cons _ _ _ _ _ _ (ks_fld 0 rfl C0 (by decide +kernel) (kv 0) (kv 2)) (@kss_cons _ _ _ _ _ _ (@ks_if _ _ _ _ _ _ _ _ _ (@kt_not _ _ _ _ _ (@kt_val _ _ _ _ (@kcS _ _ _ _ _ _ _ _ _ _ _ _ _ Gis_whole_from hr (by decide) (few_cons (few_cons (few_cons few_nil))) (ka_c (kv 3) (ka_c k_int (ka_c (k_gi B.LONGEST_DAY_) ka_nil u_Name) u_Constant) u_Name) u_Name (u_cons u_Constant (u_cons u_Name u_nil)) (by rfl) (by decide)) (by intro _ ; rfl))) (kss_one ks_never) kss_nil) (@kss_cons _ _ _ _ _ _ (ks_fld 0 rfl C0 (by decide +kernel) (kv 0) (kv 3)) (@kss_cons _ _ _ _ _ _ (@ks_if _ _ _ _ _ _ _ _ _ (@PW.pt _ _ _ (@kw_and _ _ _ _ _ _ _ _ (kt_cmp o_isnot (kv 4) k_non (nomark _)) (@kw_and1 _ _ _ _ _ (@kt_not _ _ _ _ _ (@kt_val _ _ _ _ (kcS Gare_heights hr (by decide) (few_cons (few_cons few_nil)) (ka_c (kv 0) (ka_c (kv 4) ka_nil u_Name) u_Name) u_Name (u_cons u_Name u_nil)) (by intro _ ; rfl)))))) (kss_one ks_never) kss_nil) (@kss_cons _ _ _ _ _ _ (ks_fld 0 rfl C0 (by decide +kernel) (kv 0) (kv 4)) (@kss_cons _ _ _ _ _ _ (@ks_if _ _ _ _ _ _ _ _ _ (@kt_not _ _ _ _ _ (@kt_val _ _ _ _ (kcS Gare_rooms hr (by decide) (few_cons (few_cons few_nil)) (ka_c (kv 0) (ka_c (kv 5) ka_nil u_Name) u_Name) u_Name (u_cons u_Name u_nil)) (by intro _ ; rfl))) (kss_one ks_never) kss_nil) (@kss_cons _ _ _ _ _ _ (ks_fld 0 rfl C0 (by decide +kernel) (kv 0) (kv 5)) (@kss_cons _ _ _ _ _ _ (@ks_if _ _ _ _ _ _ _ _ _ (@kt_not _ _ _ _ _ (@kt_val _ _ _ _ (kcS Gare_rooms hr (by decide) (few_cons (few_cons few_nil)) (ka_c (kv 0) (ka_c (kv 6) ka_nil u_Name) u_Name) u_Name (u_cons u_Name u_nil)) (by intro _ ; rfl))) (kss_one ks_never) kss_nil) (@kss_cons _ _ _ _ _ _ (ks_fld 0 rfl C0 (by decide +kernel) (kv 0) (kv 6)) (@kss_cons _ _ _ _ _ _ (@ks_if _ _ _ _ _ _ _ _ _ (@kt_not _ _ _ _ _ (@kt_val _ _ _ _ (kcS Gare_pads hr (by decide) (few_cons (few_cons few_nil)) (ka_c (kv 0) (ka_c (kv 7) ka_nil u_Name) u_Name) u_Name (u_cons u_Name u_nil)) (by intro _ ; rfl))) (kss_one ks_never) kss_nil) (kss_one (ks_fld 0 rfl C0 (by decide +kernel) (kv 0) (kv 7))))))))))))))))
def slaw : Stmt := top 45
theorem Slaw : FnScope ["_law_script", "_law_deck_here", "_law_many", "_law_sizes", "_law_made", "_law_spaces", "_law_near", "_law_due", "_law_kept", "_law_here", "_law_it", "_law_far", "_law_k"] ["_law_script"] (defScope slaw) := ⟨rfl, rfl, rfl, by decide +kernel, rfl, by decide +kernel, by decide +kernel⟩
theorem Flaw0 {f : Addr} {fd : FuncData} (F : Fun K "law" "law" slaw f fd) (B : Blt K mg) (M0 : MkE P w K mg base ⟨K, cl⟩ "Land" "Land.__init__" sLand_mk 0 ["self", "wide", "high", "day", "heights", "barred", "people", "pads"] 8 pLand_mk ["day", "heights", "barred", "people", "pads"] [.int 12, .non, .tup [], .tup [], .tup []]) (Ggrown : Ok P w K mg base ⟨K, cl⟩ "grown" sgrown ["land", "rooms", "by"] 2 pgrown) (G_law_deck : Ok P w K mg base ⟨K, cl⟩ "_law_deck" s_law_deck ["_law_script"] 1 p_law_deck) (G_law_draw : Ok P w K mg base ⟨K, cl⟩ "_law_draw" s_law_draw ["_law_deck_here", "_law_many"] 1 p_law_draw) (G_law_fields : Ok P w K mg base ⟨K, cl⟩ "_law_fields" s_law_fields ["_law_deck_here"] 3 p_law_fields) (G_law_space : Ok P w K mg base ⟨K, cl⟩ "_law_space" s_law_space ["_law_deck_here", "_law_sizes"] 3 p_law_space) (G_law_beside : Ok P w K mg base ⟨K, cl⟩ "_law_beside" s_law_beside ["_law_deck_here", "_law_sizes", "_law_it"] 2 p_law_beside) (G_law_wider : Ok P w K mg base ⟨K, cl⟩ "_law_wider" s_law_wider ["_law_sizes", "_law_it", "_law_many"] 2 p_law_wider) (G_law_two_right : Ok P w K mg base ⟨K, cl⟩ "_law_two_right" s_law_two_right ["_law_made", "_law_it", "_law_far", "_law_many"] 3 p_law_two_right) : FnOk P w K mg base CX0 10 f fd ["_law_script"] (spM ⟨K, cl⟩ 1 plaw) :=
  k_fn F Slaw (fun cdv A outer s H E hr =>
    @kss_cons _ _ _ _ _ _ (@ks_set _ _ _ _ _ 1 _ _ Slaw.nd rfl (by first | exact Or.inl rfl | exact Or.inr rfl) (kcS G_law_deck hr (by decide) (few_cons few_nil) (ka_c (kv 0) ka_nil u_Name) u_Name u_nil) (by rfl) (by first | exact .inl rfl | exact .inr rfl | assumption)) (@kss_cons _ _ _ _ _ _ (@ks_asg _ _ _ _ _ _ _ _ (@k_tup _ _ _ _ _ _ (@ka_c _ _ _ _ _ _ (@kcS _ _ _ _ _ _ _ _ _ _ _ _ _ G_law_draw hr (by decide) (few_cons (few_cons few_nil)) (ka_c (kv 1) (ka_c k_int ka_nil u_Constant) u_Name) u_Name (u_cons u_Constant u_nil) (by rfl) (by decide)) (ka_c (kcS G_law_fields hr (by decide) (few_cons few_nil) (ka_c (kv 1) ka_nil u_Name) u_Name u_nil) ka_nil u_Call) u_Call) (Few.le (few_cons (few_cons few_nil)) (by decide))) (@kg_tup _ _ _ _ _ _ _ _ rfl rfl (@kgs_cons _ _ _ _ _ _ _ _ (kg_name 2 Slaw.nd rfl (by first | exact Or.inl rfl | exact Or.inr rfl)) (kgs_cons (kg_name 3 Slaw.nd rfl (by first | exact Or.inl rfl | exact Or.inr rfl)) kgs_nil) (by rfl)) (by rfl) (by rfl)) (by rfl) (by rfl) (by rfl)) (@kss_cons _ _ _ _ _ _ (@ks_set _ _ _ _ _ 4 _ _ Slaw.nd rfl (by first | exact Or.inl rfl | exact Or.inr rfl) (@kmkE _ _ _ _ (2) _ _ (["day"]) _ _ _ _ _ _ _ _ _ _ _ _ _ [0, 1, 2, 3, 5, 6, 7, 8] M0 hr (by decide) (few_cons (few_cons few_nil)) (few_cons few_nil) rfl (by decide) (by decide) (fun _ _ _ _ _ _ us0 vs0 us ws s X0 D0 h1 h2 => match us, ws, h1, h2, us0, vs0, D0 with | [_, _, _], [_], _, _, _, _, .cons e0 _ (.cons e1 _ (.cons e2 _ (.cons e3 _ (.cons e4 _ (.nil))))) => binds_more X0 e1 rfl rfl (lks_one X0 e2 rfl rfl (lks_one X0 e3 rfl rfl (lks_one X0 e4 rfl rfl (lks_pure rfl)))) rfl) (@ka_c _ _ _ _ _ _ (k_ix (x_ix rfl (hu_of hr)) (kv 3) k_int (fun _ _ => rfl)) (ka_c (k_ix (x_ix rfl (hu_of hr)) (kv 3) k_int (fun _ _ => rfl)) ka_nil u_Subscript) u_Subscript) (kk_cons (k_ix (x_ix rfl (hu_of hr)) (kv 3) k_int (fun _ _ => rfl)) kk_nil) (by rfl) (by rfl) (by rfl) (by decide) (by rfl) (by rfl)) (by rfl) (by first | exact .inl rfl | exact .inr rfl | assumption)) (@kss_cons _ _ _ _ _ _ (@ks_setLc _ _ _ _ _ _ _ ([("_law_k", 12)]) _ _ _ _ _ _ _ _ 5 _ rfl Slaw.nd rfl rfl (sw_true rfl rfl rfl (by decide +kernel)) (@ki_r1 _ _ _ _ _ _ _ rfl B.range_ (@ka_c _ _ _ _ _ _ (@kcS _ _ _ _ _ _ _ _ _ _ _ _ _ G_law_draw hr (by decide) (few_cons (few_cons few_nil)) (ka_c (kv 1) (ka_c k_int ka_nil u_Constant) u_Name) u_Name (u_cons u_Constant u_nil) (by rfl) (by decide)) ka_nil u_Call) (by rfl)) (blkOk_by (own := [("_law_k", 12)]) (N := ["_law_script", "_law_deck_here", "_law_many", "_law_sizes", "_law_made", "_law_spaces", "_law_near", "_law_due", "_law_kept", "_law_here", "_law_it", "_law_far", "_law_k"]) (sc := defScope slaw) (by decide +kernel)) (fun _ _ _ _ _ => kg_name 12 Slaw.nd rfl (by first | exact Or.inl rfl | exact Or.inr rfl)) (fun _ _ _ _ _ => kts_nil) (fun _ _ _ _ _ => kcS G_law_space hr (by decide) (few_cons (few_cons few_nil)) (ka_c (kv 1) (ka_c (kv 3) ka_nil u_Name) u_Name) u_Name (u_cons u_Name u_nil)) (by decide) (by intro _ ; rfl)) (@kss_cons _ _ _ _ _ _ (@ks_setLc _ _ _ _ _ _ _ ([("_law_it", 10)]) _ _ _ _ _ _ _ _ 6 _ rfl Slaw.nd rfl rfl (sw_true rfl rfl rfl (by decide +kernel)) (ki_val rfl (kv 5)) (blkOk_by (own := [("_law_it", 10)]) (N := ["_law_script", "_law_deck_here", "_law_many", "_law_sizes", "_law_made", "_law_spaces", "_law_near", "_law_due", "_law_kept", "_law_here", "_law_it", "_law_far", "_law_k"]) (sc := defScope slaw) (by decide +kernel)) (fun _ _ _ _ _ => kg_name 10 Slaw.nd rfl (by first | exact Or.inl rfl | exact Or.inr rfl)) (fun _ _ _ _ _ => kts_nil) (fun _ _ _ _ _ => @kcS _ _ _ _ _ _ _ _ _ _ _ _ _ G_law_beside hr (by decide) (few_cons (few_cons (few_cons few_nil))) (ka_c (kv 1) (ka_c (kv 3) (ka_c (kv 10) ka_nil u_Name) u_Name) u_Name) u_Name (u_cons u_Name (u_cons u_Name u_nil)) (by rfl) (by decide)) (by decide) (by intro _ ; rfl)) (@kss_cons _ _ _ _ _ _ (@ks_par _ _ _ _ _ 7 8 _ _ _ _ _ _ _ _ _ rfl Slaw.nd rfl rfl (by decide) rfl rfl (@ka_c _ _ _ _ _ _ (@k_tyS _ _ _ _ _ _ _ _ _ _ (c_tuple rfl) rfl B.tuple_ (by decide +kernel) (@ka_c _ _ _ _ _ _ (@k_lc _ _ _ _ _ _ _ ([("_law_it", 10)]) _ _ _ _ _ _ rfl Slaw.nd (ki_val rfl (kv 5)) (blkOk_by (own := [("_law_it", 10)]) (N := ["_law_script", "_law_deck_here", "_law_many", "_law_sizes", "_law_made", "_law_spaces", "_law_near", "_law_due", "_law_kept", "_law_here", "_law_it", "_law_far", "_law_k"]) (sc := defScope slaw) (by decide +kernel)) (fun _ _ _ _ _ => kg_name 10 Slaw.nd rfl (by first | exact Or.inl rfl | exact Or.inr rfl)) (fun _ _ _ _ _ => kts_nil) (fun _ _ _ _ _ => @kcS _ _ _ _ _ _ _ _ _ _ _ _ _ G_law_wider hr (by decide) (few_cons (few_cons (few_cons few_nil))) (ka_c (kv 3) (ka_c (kv 10) (ka_c (kv 2) ka_nil u_Name) u_Name) u_Name) u_Name (u_cons u_Name (u_cons u_Name u_nil)) (by rfl) (by decide)) (by decide) (by intro _ ; rfl)) ka_nil u_ListComp) u_ListComp u_nil (by decide) (by decide)) (ka_c (k_bltS (c_repr rfl hr) rfl B.repr_ (by decide +kernel) (ka_c (kv 5) ka_nil u_Name) u_Name u_nil) ka_nil u_Call) u_Call) (by rfl) (by rfl)) (@kss_cons _ _ _ _ _ _ (@ks_set _ _ _ _ _ 9 _ _ Slaw.nd rfl (by first | exact Or.inl rfl | exact Or.inr rfl) (@k_lst _ _ _ _ _ (@ka_c _ _ _ _ _ _ (@kcS _ _ _ _ _ _ _ _ _ _ _ _ _ Ggrown hr (by decide) (few_cons (few_cons (few_cons few_nil))) (@ka_c _ _ _ _ _ _ (kv 4) (ka_c (k_tyS (c_tuple rfl) rfl B.tuple_ (by decide +kernel) (ka_c (kv 5) ka_nil u_Name) u_Name u_nil) (ka_c (kv 2) ka_nil u_Name) u_Call) u_Name) u_Name (u_cons u_Call (u_cons u_Name u_nil)) (by rfl) (by decide)) (@ka_c _ _ _ _ _ _ (@kck0 _ _ _ _ _ (["by", "rooms", "land"]) _ _ _ _ _ _ _ [2, 1, 0] Ggrown hr (by decide) (few_cons (few_cons (few_cons few_nil))) rfl (by decide) (by decide) (fun _ _ _ _ _ _ us ws h1 h2 => match us, ws, h1, h2 with | [], [_, _, _], _, _ => rfl) (@kk_cons _ _ _ _ _ _ _ _ (kv 2) (kk_cons (k_tyS (c_tuple rfl) rfl B.tuple_ (by decide +kernel) (ka_c (kv 5) ka_nil u_Name) u_Name u_nil) (kk_cons (kv 4) kk_nil))) (by rfl) (by rfl) (by rfl) (by decide) (by rfl)) ka_nil u_Call) u_Call) (Few.le (few_cons (few_cons few_nil)) (by decide))) (by rfl) (by first | exact .inl rfl | exact .inr rfl | assumption)) (@kss_cons _ _ _ _ _ _ (@ks_if _ _ _ _ _ _ _ _ _ (@PW.pt _ _ _ (@kw_or _ _ _ _ _ _ _ _ (@kt_cmp _ _ _ _ _ _ _ _ _ (o_ne rfl hr.units) (k_bltS (c_repr rfl hr) rfl B.repr_ (by decide +kernel) (ka_c (kv 9) ka_nil u_Name) u_Name u_nil) (@k_bltS _ _ _ _ _ _ _ _ _ _ (c_repr rfl hr) rfl B.repr_ (by decide +kernel) (ka_c (k_lst (ka_c (kv 7) (ka_c (kv 7) ka_nil u_Name) u_Name) (Few.le (few_cons (few_cons few_nil)) (by decide))) ka_nil u_List) u_List u_nil (by decide) (by decide)) (nomark _)) (@kw_or1 _ _ _ _ _ (@kt_cmp _ _ _ _ _ _ _ _ _ (o_ne rfl hr.units) (k_bltS (c_repr rfl hr) rfl B.repr_ (by decide +kernel) (ka_c (kv 5) ka_nil u_Name) u_Name u_nil) (kv 8) (nomark _))))) (kss_one (ks_ret k_bl)) kss_nil) (@kss_cons _ _ _ _ _ _ (@ks_for _ _ _ _ _ _ _ _ _ _ PassesOwn.never rfl (ki_val rfl (k_op (o_add rfl) (kv 5) (kv 6))) (kg_name 10 Slaw.nd rfl (by first | exact Or.inl rfl | exact Or.inr rfl)) (@kss_one _ _ _ _ (@ks_for _ _ _ _ _ _ _ _ _ _ PassesOwn.never rfl (ki_val rfl (k_op (o_add rfl) (kv 5) (kv 6))) (kg_name 11 Slaw.nd rfl (by first | exact Or.inl rfl | exact Or.inr rfl)) (@kss_one _ _ _ _ (@ks_if _ _ _ _ _ _ _ _ _ (@kt_not _ _ _ _ _ (@kt_val _ _ _ _ (@kcS _ _ _ _ _ _ _ _ _ _ _ _ _ G_law_two_right hr (by decide) (few_cons (few_cons (few_cons (few_cons few_nil)))) (ka_c (kv 4) (ka_c (kv 10) (ka_c (kv 11) (ka_c (kv 2) ka_nil u_Name) u_Name) u_Name) u_Name) u_Name (u_cons u_Name (u_cons u_Name (u_cons u_Name u_nil))) (by rfl) (by decide)) (by intro _ ; rfl))) (kss_one (ks_ret k_bl)) kss_nil)) (by intro _ ; rfl))) (by intro _ ; rfl)) (kss_one (ks_ret k_bl)))))))))))
end
end Wwindfleet_k37_rooms_grown_and_clashing

end
section
set_option maxHeartbeats 4000000
/-! A land's checks, of what is right. -/
namespace Wwindfleet_k37_rooms_grown_and_clashing
open PySem Ev
open L2 (atI ixN Key)
section
variable {S : Sto} {Q : D → Sto → Prop} {env : DEnv}
theorem run_isi {c : String} {m : ME} : Run (mIsi c m env) S Q ↔ Run (m env) S fun x S1 => ∃ t, tyD S1 x = some t ∧ Q (.bl (isTy t c)) S1 := by
  unfold mIsi
  rw [run_bd]
  refine run_congr fun x S1 => ?_
  constructor
  · rintro ⟨d, S', e, q⟩
    dsimp only at e
    split at e
    · rename_i t h; cases e; exact ⟨t, h, q⟩
    · cases e
  · rintro ⟨t, h, q⟩
    exact ⟨_, _, by dsimp only; rw [h], q⟩
theorem run_fld {c n : Nat} {f : Str} {fs : List (Str × D)} {d : D} {m : ME} (hm : m env = ret (.loc n)) (h : S[n]? = some (.ins c fs)) (hf : fGet fs f = some d) : Run (mFld c f m env) S Q ↔ Q d S := by
  unfold mFld
  rw [run_bd, hm, run_ret]
  exact run_some (by dsimp only; rw [h]; dsimp only; rw [if_pos rfl, hf]; rfl)
theorem run_fldV {c n k : Nat} {f : Str} {fs : List (Str × D)} {d : D} (he : env[k]? = some (some (.loc n))) (h : S[n]? = some (.ins c fs)) (hf : fGet fs f = some d) : Run (mFld c f (mVar k) env) S Q ↔ Q d S := by
  unfold mFld
  rw [run_bd, run_var he]
  exact run_some (by dsimp only; rw [h]; dsimp only; rw [if_pos rfl, hf]; rfl)
theorem bls_true : ∀ n : Nat, blsOf (List.replicate n (D.bl true)) = some (List.replicate n true)
  | 0 => rfl
  | n + 1 => by simp only [List.replicate_succ, blsOf, bls_true n, Option.map_some]
theorem bls_false : ∀ n : Nat, blsOf (List.replicate n (D.bl false)) = some (List.replicate n false)
  | 0 => rfl
  | n + 1 => by simp only [List.replicate_succ, blsOf, bls_false n, Option.map_some]
theorem snoc_rep {α : Type} (n : Nat) (a : α) : List.replicate n a ++ [a] = List.replicate (n + 1) a := by
  rw [List.replicate_succ']
/-- [te for x in xs], each b -/
theorem lcs_run {b : Bool} {v : Nat} {m te : ME} {xs : List D} (hm : ∀ (S : Sto) (G : D → Sto → Prop), G (.tup xs) S → Run (m env) S G) (hl : xs.length ≤ 1000)
    (he : ∀ x ∈ xs, ∀ (S1 : Sto) (G : D → Sto → Prop), Gr S S1 → (∀ S2, Gr S1 S2 → G (.bl b) S2) → Run (te ((wipeD env [v]).set v (some x))) S1 G)
    (k : ∀ S', Gr S S' → Q (.loc S'.length) (S' ++ [.lst (List.replicate xs.length (.bl b))])) : Run (mLc (iVal m) (gNm v) (mC (.bl true)) te [v] env) S Q := by
  rw [run_lc, run_iV]
  refine hm S _ ?_
  rw [run_iVT]
  refine run_loopC (acc := []) (fun ys as S1 => Gr S S1 ∧ (∀ y ∈ ys, y ∈ xs) ∧ ∃ n, as = List.replicate n (.bl b) ∧ n + ys.length = xs.length) ⟨Gr.refl _, fun _ h => h, 0, rfl, by simp⟩ (fun _ _ _ _ => Gd.none) ?_ ?_ (fun ys as S1 _ => ⟨as, by simp⟩)
  · rintro y ys as S1 ⟨g1, hy, n, rfl, hn⟩
    rw [run_gn, run_C]
    refine ⟨true, rfl, ?_⟩
    rw [if_pos rfl]
    refine he y (hy y (by simp)) S1 _ g1 fun S2 g2 => ⟨g1.trans g2, fun z hz => hy z (by simp [hz]), n + 1, snoc_rep n _, by simp at hn; omega⟩
  · rintro as S1 ⟨g1, _, n, rfl, hn⟩
    simp at hn
    subst hn
    refine ⟨List.replicate xs.length (.bl b), by simp, ?_, k S1 g1⟩
    rw [List.length_replicate]
    have : (sizeLine : Nat) = 16777216 := sizeLine_eq
    omega
theorem all_run {v : Nat} {m te : ME} {xs : List D} (hm : ∀ (S : Sto) (G : D → Sto → Prop), G (.tup xs) S → Run (m env) S G) (hl : xs.length ≤ 1000)
    (he : ∀ x ∈ xs, ∀ (S1 : Sto) (G : D → Sto → Prop), Gr S S1 → (∀ S2, Gr S1 S2 → G (.bl true) S2) → Run (te ((wipeD env [v]).set v (some x))) S1 G)
    (k : ∀ S', Gr S S' → Q (.bl true) S') : Run (mB bAll (mCons (mLc (iVal m) (gNm v) (mC (.bl true)) te [v]) mNil) env) S Q := by
  simp only [run_B, run_cons, run_nil]
  refine lcs_run hm hl he fun S' g => ?_
  refine (run_some (a := .bl true) (S' := S' ++ [.lst (List.replicate xs.length (.bl true))]) ?_).mpr (k _ (g.trans (Gr.app _ _)))
  unfold bAll
  dsimp only
  rw [get_new]
  dsimp only
  rw [bls_true]
  simp
theorem none_run {v : Nat} {m te : ME} {xs : List D} (hm : ∀ (S : Sto) (G : D → Sto → Prop), G (.tup xs) S → Run (m env) S G) (hl : xs.length ≤ 1000)
    (he : ∀ x ∈ xs, ∀ (S1 : Sto) (G : D → Sto → Prop), Gr S S1 → (∀ S2, Gr S1 S2 → G (.bl false) S2) → Run (te ((wipeD env [v]).set v (some x))) S1 G)
    (k : ∀ S', Gr S S' → Q (.bl false) S') : Run (mB bAny (mCons (mLc (iVal m) (gNm v) (mC (.bl true)) te [v]) mNil) env) S Q := by
  simp only [run_B, run_cons, run_nil]
  refine lcs_run hm hl he fun S' g => ?_
  refine (run_some (a := .bl false) (S' := S' ++ [.lst (List.replicate xs.length (.bl false))]) ?_).mpr (k _ (g.trans (Gr.app _ _)))
  unfold bAny
  dsimp only
  rw [get_new]
  dsimp only
  rw [bls_false]
  simp
theorem whole_run {i : Int} : Run (pis_whole [.int i]) S Q ↔ Q (.bl true) S := by
  unfold pis_whole
  simp [fn_rt, fn_nx, seq_nx, seq_rt, seq_bk, seq_ct, turn_nx, turn_ct, turn_bk, turn_rt, run_fn, run_seq, run_asg, run_op, run_un, run_nil, run_cons, run_tup, run_lst, run_and, run_or, run_not, run_if, run_chain, run_call, run_callK, run_B, run_add, run_sub, run_lt, run_le, run_gt, run_ge, run_neg, run_mod, run_div, run_pow, run_mul, run_is, iN0, iN1, iN2, iN3, iN4, iN5, run_eqInt, run_eqStr, run_intB, run_min, run_max, run_lenT, run_mt0, run_mt, run_pass, run_rt, run_drop, run_sif, run_gn, run_par, run_gsn, run_gsc, run_gsb, run_for, run_iR1, run_iR2, run_ret, run_new, run_C, run_var', run_gtp, run_lc, on_some, on_none, exists_eq_left, exists_eq_left', Option.some.injEq, D.bl.injEq, List.cons.injEq, D.int.injEq, D.loc.injEq, D.tup.injEq, and_true, true_and, startD, List.map_cons, List.map_nil, List.length_cons, List.length_nil, List.replicate, List.cons_append, List.nil_append, List.getElem?_cons_zero, List.getElem?_cons_succ, List.getElem?_nil, List.set_cons_zero, List.set_cons_succ, List.set_nil, Nat.add_zero, Nat.zero_add, Nat.reduceAdd, Nat.reduceSub, run_isi, tyD, isTy]
theorem wfrom_run {i a b : Int} : Run (pis_whole_from [.int i, .int a, .int b]) S Q ↔ Q (.bl (decide (a ≤ i ∧ i ≤ b))) S := by
  unfold pis_whole_from
  simp only [fn_rt, fn_nx, seq_nx, seq_rt, seq_bk, seq_ct, turn_nx, turn_ct, turn_bk, turn_rt, run_fn, run_seq, run_asg, run_op, run_un, run_nil, run_cons, run_tup, run_lst, run_and, run_or, run_not, run_if, run_chain, run_call, run_callK, run_B, run_add, run_sub, run_lt, run_le, run_gt, run_ge, run_neg, run_mod, run_div, run_pow, run_mul, run_is, iN0, iN1, iN2, iN3, iN4, iN5, run_eqInt, run_eqStr, run_intB, run_min, run_max, run_lenT, run_mt0, run_mt, run_pass, run_rt, run_drop, run_sif, run_gn, run_par, run_gsn, run_gsc, run_gsb, run_for, run_iR1, run_iR2, run_ret, run_new, run_C, run_var', run_gtp, run_lc, on_some, on_none, exists_eq_left, exists_eq_left', Option.some.injEq, D.bl.injEq, List.cons.injEq, D.int.injEq, D.loc.injEq, D.tup.injEq, and_true, true_and, startD, List.map_cons, List.map_nil, List.length_cons, List.length_nil, List.replicate, List.cons_append, List.nil_append, List.getElem?_cons_zero, List.getElem?_cons_succ, List.getElem?_nil, List.set_cons_zero, List.set_cons_succ, List.set_nil, Nat.add_zero, Nat.zero_add, Nat.reduceAdd, Nat.reduceSub, whole_run]
  by_cases h1 : a ≤ i <;> by_cases h2 : i ≤ b <;> simp [h1, h2]
theorem wfromT {i a b : Int} (h : a ≤ i ∧ i ≤ b) (q : Q (.bl true) S) : Run (pis_whole_from [.int i, .int a, .int b]) S Q := by
  rw [wfrom_run, decide_eq_true h]; exact q
theorem tof_run {xs : List D} {n : Int} : Run (pis_tuple_of [.tup xs, .int n]) S Q ↔ Q (.bl (decide ((xs.length : Int) = n))) S := by
  unfold pis_tuple_of
  simp [fn_rt, fn_nx, seq_nx, seq_rt, seq_bk, seq_ct, turn_nx, turn_ct, turn_bk, turn_rt, run_fn, run_seq, run_asg, run_op, run_un, run_nil, run_cons, run_tup, run_lst, run_and, run_or, run_not, run_if, run_chain, run_call, run_callK, run_B, run_add, run_sub, run_lt, run_le, run_gt, run_ge, run_neg, run_mod, run_div, run_pow, run_mul, run_is, iN0, iN1, iN2, iN3, iN4, iN5, run_eqInt, run_eqStr, run_intB, run_min, run_max, run_lenT, run_mt0, run_mt, run_pass, run_rt, run_drop, run_sif, run_gn, run_par, run_gsn, run_gsc, run_gsb, run_for, run_iR1, run_iR2, run_ret, run_new, run_C, run_var', run_gtp, run_lc, on_some, on_none, exists_eq_left, exists_eq_left', Option.some.injEq, D.bl.injEq, List.cons.injEq, D.int.injEq, D.loc.injEq, D.tup.injEq, and_true, true_and, startD, List.map_cons, List.map_nil, List.length_cons, List.length_nil, List.replicate, List.cons_append, List.nil_append, List.getElem?_cons_zero, List.getElem?_cons_succ, List.getElem?_nil, List.set_cons_zero, List.set_cons_succ, List.set_nil, Nat.add_zero, Nat.zero_add, Nat.reduceAdd, Nat.reduceSub, run_isi, tyD, isTy]
theorem tofT {xs : List D} {n : Int} (h : (xs.length : Int) = n) (q : Q (.bl true) S) : Run (pis_tuple_of [.tup xs, .int n]) S Q := by
  rw [tof_run, decide_eq_true h]; exact q
theorem ttoT {xs : List D} {n : Int} (h : (xs.length : Int) ≤ n) (q : Q (.bl true) S) : Run (pis_tuple_to [.tup xs, .int n]) S Q := by
  unfold pis_tuple_to
  simp [fn_rt, fn_nx, seq_nx, seq_rt, seq_bk, seq_ct, turn_nx, turn_ct, turn_bk, turn_rt, run_fn, run_seq, run_asg, run_op, run_un, run_nil, run_cons, run_tup, run_lst, run_and, run_or, run_not, run_if, run_chain, run_call, run_callK, run_B, run_add, run_sub, run_lt, run_le, run_gt, run_ge, run_neg, run_mod, run_div, run_pow, run_mul, run_is, iN0, iN1, iN2, iN3, iN4, iN5, run_eqInt, run_eqStr, run_intB, run_min, run_max, run_lenT, run_mt0, run_mt, run_pass, run_rt, run_drop, run_sif, run_gn, run_par, run_gsn, run_gsc, run_gsb, run_for, run_iR1, run_iR2, run_ret, run_new, run_C, run_var', run_gtp, run_lc, on_some, on_none, exists_eq_left, exists_eq_left', Option.some.injEq, D.bl.injEq, List.cons.injEq, D.int.injEq, D.loc.injEq, D.tup.injEq, and_true, true_and, startD, List.map_cons, List.map_nil, List.length_cons, List.length_nil, List.replicate, List.cons_append, List.nil_append, List.getElem?_cons_zero, List.getElem?_cons_succ, List.getElem?_nil, List.set_cons_zero, List.set_cons_succ, List.set_nil, Nat.add_zero, Nat.zero_add, Nat.reduceAdd, Nat.reduceSub, run_isi, tyD, isTy, h, q]
theorem wholes_run {is : List Int} {a b : Int} (hl : is.length ≤ 1000) (h : ∀ i ∈ is, a ≤ i ∧ i ≤ b) (k : ∀ S', Gr S S' → Q (.bl true) S') : Run (pare_wholes_from [.tup (is.map .int), .int a, .int b]) S Q := by
  unfold pare_wholes_from
  simp only [run_fn, run_rt, startD, List.map_cons, List.map_nil, List.length_cons, List.length_nil, List.replicate, List.cons_append, List.nil_append, List.getElem?_cons_zero, List.getElem?_cons_succ, List.getElem?_nil, List.set_cons_zero, List.set_cons_succ, List.set_nil, Nat.add_zero, Nat.zero_add, Nat.reduceAdd, Nat.reduceSub, fn_rt]
  refine all_run (xs := is.map .int) (fun S G q => (run_var rfl).mpr q) (by simpa using hl) ?_ k
  intro x hx S1 G g1 q
  simp only [List.mem_map] at hx
  obtain ⟨i, hi, rfl⟩ := hx
  simp only [fn_rt, fn_nx, seq_nx, seq_rt, seq_bk, seq_ct, turn_nx, turn_ct, turn_bk, turn_rt, run_fn, run_seq, run_asg, run_op, run_un, run_nil, run_cons, run_tup, run_lst, run_and, run_or, run_not, run_if, run_chain, run_call, run_callK, run_B, run_add, run_sub, run_lt, run_le, run_gt, run_ge, run_neg, run_mod, run_div, run_pow, run_mul, run_is, iN0, iN1, iN2, iN3, iN4, iN5, run_eqInt, run_eqStr, run_intB, run_min, run_max, run_lenT, run_mt0, run_mt, run_pass, run_rt, run_drop, run_sif, run_gn, run_par, run_gsn, run_gsc, run_gsb, run_for, run_iR1, run_iR2, run_ret, run_new, run_C, run_var', run_gtp, run_lc, on_some, on_none, exists_eq_left, exists_eq_left', Option.some.injEq, D.bl.injEq, List.cons.injEq, D.int.injEq, D.loc.injEq, D.tup.injEq, and_true, true_and, wipeD, startD, List.map_cons, List.map_nil, List.length_cons, List.length_nil, List.replicate, List.cons_append, List.nil_append, List.getElem?_cons_zero, List.getElem?_cons_succ, List.getElem?_nil, List.set_cons_zero, List.set_cons_succ, List.set_nil, Nat.add_zero, Nat.zero_add, Nat.reduceAdd, Nat.reduceSub]
  exact wfromT (h i hi) (q _ (Gr.refl _))
theorem span_run {f l g : Int} (h : 0 ≤ f ∧ f ≤ l ∧ l ≤ g) (k : ∀ S', Gr S S' → Q (.bl true) S') : Run (pis_span [.int f, .int l, .int g]) S Q := by
  unfold pis_span
  simp only [fn_rt, fn_nx, seq_nx, seq_rt, seq_bk, seq_ct, turn_nx, turn_ct, turn_bk, turn_rt, run_fn, run_seq, run_asg, run_op, run_un, run_nil, run_cons, run_tup, run_lst, run_and, run_or, run_not, run_if, run_chain, run_call, run_callK, run_B, run_add, run_sub, run_lt, run_le, run_gt, run_ge, run_neg, run_mod, run_div, run_pow, run_mul, run_is, iN0, iN1, iN2, iN3, iN4, iN5, run_eqInt, run_eqStr, run_intB, run_min, run_max, run_lenT, run_mt0, run_mt, run_pass, run_rt, run_drop, run_sif, run_gn, run_par, run_gsn, run_gsc, run_gsb, run_for, run_iR1, run_iR2, run_ret, run_new, run_C, run_var', run_gtp, run_lc, on_some, on_none, exists_eq_left, exists_eq_left', Option.some.injEq, D.bl.injEq, List.cons.injEq, D.int.injEq, D.loc.injEq, D.tup.injEq, and_true, true_and, startD, List.map_cons, List.map_nil, List.length_cons, List.length_nil, List.replicate, List.cons_append, List.nil_append, List.getElem?_cons_zero, List.getElem?_cons_succ, List.getElem?_nil, List.set_cons_zero, List.set_cons_succ, List.set_nil, Nat.add_zero, Nat.zero_add, Nat.reduceAdd, Nat.reduceSub]
  refine wholes_run (is := [f, l]) (by simp) (by intro i hi; simp at hi; omega) fun S1 g1 => ?_
  simp only [fn_rt, fn_nx, seq_nx, seq_rt, seq_bk, seq_ct, turn_nx, turn_ct, turn_bk, turn_rt, run_fn, run_seq, run_asg, run_op, run_un, run_nil, run_cons, run_tup, run_lst, run_and, run_or, run_not, run_if, run_chain, run_call, run_callK, run_B, run_add, run_sub, run_lt, run_le, run_gt, run_ge, run_neg, run_mod, run_div, run_pow, run_mul, run_is, iN0, iN1, iN2, iN3, iN4, iN5, run_eqInt, run_eqStr, run_intB, run_min, run_max, run_lenT, run_mt0, run_mt, run_pass, run_rt, run_drop, run_sif, run_gn, run_par, run_gsn, run_gsc, run_gsb, run_for, run_iR1, run_iR2, run_ret, run_new, run_C, run_var', run_gtp, run_lc, on_some, on_none, exists_eq_left, exists_eq_left', Option.some.injEq, D.bl.injEq, List.cons.injEq, D.int.injEq, D.loc.injEq, D.tup.injEq, and_true, true_and, startD, List.map_cons, List.map_nil, List.length_cons, List.length_nil, List.replicate, List.cons_append, List.nil_append, List.getElem?_cons_zero, List.getElem?_cons_succ, List.getElem?_nil, List.set_cons_zero, List.set_cons_succ, List.set_nil, Nat.add_zero, Nat.zero_add, Nat.reduceAdd, Nat.reduceSub, if_true]
  rw [decide_eq_true h.2.1]
  exact k _ g1
end
end Wwindfleet_k37_rooms_grown_and_clashing

end
section
set_option maxHeartbeats 4000000
/-! A land, made of what is right. -/
namespace Wwindfleet_k37_rooms_grown_and_clashing
open PySem Ev
open L2 (atI ixN Key)
structure Rm where
  a : Int
  b : Int
  c : Int
  d : Int
  f : Int
  l : Int
structure Pd where
  a : Int
  b : Int
  c : Int
  d : Int
  m : Int
def Rm.D (r : Rm) : D := .tup [.int r.a, .int r.b, .int r.c, .int r.d, .int r.f, .int r.l]
def Pd.D (r : Pd) : D := .tup [.int r.a, .int r.b, .int r.c, .int r.d, .int r.m]
def Bok (w h a b c d : Int) : Prop := (0 ≤ a ∧ a ≤ c ∧ c ≤ w - 1) ∧ (0 ≤ b ∧ b ≤ d ∧ d ≤ h - 1)
def Rm.ok (w h day : Int) (r : Rm) : Prop := Bok w h r.a r.b r.c r.d ∧ (0 ≤ r.f ∧ r.f ≤ r.l ∧ r.l ≤ day)
def Pd.ok (w h : Int) (r : Pd) : Prop := Bok w h r.a r.b r.c r.d ∧ (1 ≤ r.m ∧ r.m ≤ 4)
def Pd.off (p q : Pd) : Prop := ¬ (p.a ≤ q.c ∧ q.a ≤ p.c ∧ p.b ≤ q.d ∧ q.b ≤ p.d)
/-- some fields of the instance at p -/
structure Has (p : Nat) (S : Sto) (fs : List (Str × D)) : Prop where
  ex : ∃ gs, S[p]? = some (.ins 0 gs) ∧ ∀ f d, (f, d) ∈ fs → fGet gs f = some d
theorem Has.gr {p : Nat} {S S' : Sto} {fs : List (Str × D)} (h : Has p S fs) (g : Gr S S') : Has p S' fs := by
  obtain ⟨gs, h1, h2⟩ := h.ex
  exact ⟨gs, g _ _ h1, h2⟩
section
variable {S : Sto} {Q : D → Sto → Prop} {env : DEnv} {p k : Nat} {w h day : Int}
theorem Has.run {fs : List (Str × D)} {f : Str} {d : D} (hs : Has p S fs) (he : env[k]? = some (some (.loc p))) (hm : (f, d) ∈ fs) (q : Q d S) : Run (mFld 0 f (mVar k) env) S Q := by
  obtain ⟨gs, h1, h2⟩ := hs.ex
  exact (run_fldV he h1 (h2 _ _ hm)).mpr q
theorem sl6 {a b c d e f : D} : Run (oSl (.tup [a, b, c, d, e, f]) none (some 4)) S Q ↔ Q (.tup [a, b, c, d]) S := run_some rfl
theorem sl5 {a b c d e : D} : Run (oSl (.tup [a, b, c, d, e]) none (some 4)) S Q ↔ Q (.tup [a, b, c, d]) S := run_some rfl
theorem box_ok {a b c d : Int} {fs : List (Str × D)} (hs : Has p S fs) (hw : (("wide" : Str), D.int w) ∈ fs) (hh : (("high" : Str), D.int h) ∈ fs) (ok : Bok w h a b c d) (q : ∀ S', Gr S S' → Q (.bl true) S') : Run (pis_box [.loc p, .tup [.int a, .int b, .int c, .int d]]) S Q := by
  unfold pis_box
  simp only [fn_rt, fn_nx, seq_nx, seq_rt, seq_bk, seq_ct, turn_nx, turn_ct, turn_bk, turn_rt, run_fn, run_seq, run_asg, run_op, run_un, run_nil, run_cons, run_tup, run_lst, run_and, run_or, run_not, run_if, run_chain, run_call, run_callK, run_B, run_add, run_sub, run_lt, run_le, run_gt, run_ge, run_neg, run_mod, run_div, run_pow, run_mul, run_is, iN0, iN1, iN2, iN3, iN4, iN5, run_eqInt, run_eqStr, run_intB, run_min, run_max, run_lenT, run_mt0, run_mt, run_pass, run_rt, run_drop, run_sif, run_gn, run_par, run_gsn, run_gsc, run_gsb, run_for, run_iR1, run_iR2, run_ret, run_new, run_C, run_var', run_gtp, run_lc, on_some, on_none, exists_eq_left, exists_eq_left', Option.some.injEq, D.bl.injEq, List.cons.injEq, D.int.injEq, D.loc.injEq, D.tup.injEq, and_true, true_and, startD, List.map_cons, List.map_nil, List.length_cons, List.length_nil, List.replicate, List.cons_append, List.nil_append, List.getElem?_cons_zero, List.getElem?_cons_succ, List.getElem?_nil, List.set_cons_zero, List.set_cons_succ, List.set_nil, Nat.add_zero, Nat.zero_add, Nat.reduceAdd, Nat.reduceSub]
  refine tofT (by simp) ?_
  refine ⟨true, rfl, ?_⟩
  simp only [Bool.not_true, Bool.false_eq_true, if_false, fn_rt, fn_nx, seq_nx, seq_rt, seq_bk, seq_ct, turn_nx, turn_ct, turn_bk, turn_rt, run_fn, run_seq, run_asg, run_op, run_un, run_nil, run_cons, run_tup, run_lst, run_and, run_or, run_not, run_if, run_chain, run_call, run_callK, run_B, run_add, run_sub, run_lt, run_le, run_gt, run_ge, run_neg, run_mod, run_div, run_pow, run_mul, run_is, iN0, iN1, iN2, iN3, iN4, iN5, run_eqInt, run_eqStr, run_intB, run_min, run_max, run_lenT, run_mt0, run_mt, run_pass, run_rt, run_drop, run_sif, run_gn, run_par, run_gsn, run_gsc, run_gsb, run_for, run_iR1, run_iR2, run_ret, run_new, run_C, run_var', run_gtp, run_lc, on_some, on_none, exists_eq_left, exists_eq_left', Option.some.injEq, D.bl.injEq, List.cons.injEq, D.int.injEq, D.loc.injEq, D.tup.injEq, and_true, true_and, startD, List.map_cons, List.map_nil, List.length_cons, List.length_nil, List.replicate, List.cons_append, List.nil_append, List.getElem?_cons_zero, List.getElem?_cons_succ, List.getElem?_nil, List.set_cons_zero, List.set_cons_succ, List.set_nil, Nat.add_zero, Nat.zero_add, Nat.reduceAdd, Nat.reduceSub]
  unfold pis_box_2
  simp only [fn_rt, fn_nx, seq_nx, seq_rt, seq_bk, seq_ct, turn_nx, turn_ct, turn_bk, turn_rt, run_fn, run_seq, run_asg, run_op, run_un, run_nil, run_cons, run_tup, run_lst, run_and, run_or, run_not, run_if, run_chain, run_call, run_callK, run_B, run_add, run_sub, run_lt, run_le, run_gt, run_ge, run_neg, run_mod, run_div, run_pow, run_mul, run_is, iN0, iN1, iN2, iN3, iN4, iN5, run_eqInt, run_eqStr, run_intB, run_min, run_max, run_lenT, run_mt0, run_mt, run_pass, run_rt, run_drop, run_sif, run_gn, run_par, run_gsn, run_gsc, run_gsb, run_for, run_iR1, run_iR2, run_ret, run_new, run_C, run_var', run_gtp, run_lc, on_some, on_none, exists_eq_left, exists_eq_left', Option.some.injEq, D.bl.injEq, List.cons.injEq, D.int.injEq, D.loc.injEq, D.tup.injEq, and_true, true_and, startD, List.map_cons, List.map_nil, List.length_cons, List.length_nil, List.replicate, List.cons_append, List.nil_append, List.getElem?_cons_zero, List.getElem?_cons_succ, List.getElem?_nil, List.set_cons_zero, List.set_cons_succ, List.set_nil, Nat.add_zero, Nat.zero_add, Nat.reduceAdd, Nat.reduceSub]
  unfold pis_box_1
  simp only [fn_rt, fn_nx, seq_nx, seq_rt, seq_bk, seq_ct, turn_nx, turn_ct, turn_bk, turn_rt, run_fn, run_seq, run_asg, run_op, run_un, run_nil, run_cons, run_tup, run_lst, run_and, run_or, run_not, run_if, run_chain, run_call, run_callK, run_B, run_add, run_sub, run_lt, run_le, run_gt, run_ge, run_neg, run_mod, run_div, run_pow, run_mul, run_is, iN0, iN1, iN2, iN3, iN4, iN5, run_eqInt, run_eqStr, run_intB, run_min, run_max, run_lenT, run_mt0, run_mt, run_pass, run_rt, run_drop, run_sif, run_gn, run_par, run_gsn, run_gsc, run_gsb, run_for, run_iR1, run_iR2, run_ret, run_new, run_C, run_var', run_gtp, run_lc, on_some, on_none, exists_eq_left, exists_eq_left', Option.some.injEq, D.bl.injEq, List.cons.injEq, D.int.injEq, D.loc.injEq, D.tup.injEq, and_true, true_and, startD, List.map_cons, List.map_nil, List.length_cons, List.length_nil, List.replicate, List.cons_append, List.nil_append, List.getElem?_cons_zero, List.getElem?_cons_succ, List.getElem?_nil, List.set_cons_zero, List.set_cons_succ, List.set_nil, Nat.add_zero, Nat.zero_add, Nat.reduceAdd, Nat.reduceSub]
  refine hs.run rfl hw ?_
  simp only [fn_rt, fn_nx, seq_nx, seq_rt, seq_bk, seq_ct, turn_nx, turn_ct, turn_bk, turn_rt, run_fn, run_seq, run_asg, run_op, run_un, run_nil, run_cons, run_tup, run_lst, run_and, run_or, run_not, run_if, run_chain, run_call, run_callK, run_B, run_add, run_sub, run_lt, run_le, run_gt, run_ge, run_neg, run_mod, run_div, run_pow, run_mul, run_is, iN0, iN1, iN2, iN3, iN4, iN5, run_eqInt, run_eqStr, run_intB, run_min, run_max, run_lenT, run_mt0, run_mt, run_pass, run_rt, run_drop, run_sif, run_gn, run_par, run_gsn, run_gsc, run_gsb, run_for, run_iR1, run_iR2, run_ret, run_new, run_C, run_var', run_gtp, run_lc, on_some, on_none, exists_eq_left, exists_eq_left', Option.some.injEq, D.bl.injEq, List.cons.injEq, D.int.injEq, D.loc.injEq, D.tup.injEq, and_true, true_and, startD, List.map_cons, List.map_nil, List.length_cons, List.length_nil, List.replicate, List.cons_append, List.nil_append, List.getElem?_cons_zero, List.getElem?_cons_succ, List.getElem?_nil, List.set_cons_zero, List.set_cons_succ, List.set_nil, Nat.add_zero, Nat.zero_add, Nat.reduceAdd, Nat.reduceSub]
  refine span_run ok.1 fun S1 g1 => ?_
  simp only [fn_rt, fn_nx, seq_nx, seq_rt, seq_bk, seq_ct, turn_nx, turn_ct, turn_bk, turn_rt, run_fn, run_seq, run_asg, run_op, run_un, run_nil, run_cons, run_tup, run_lst, run_and, run_or, run_not, run_if, run_chain, run_call, run_callK, run_B, run_add, run_sub, run_lt, run_le, run_gt, run_ge, run_neg, run_mod, run_div, run_pow, run_mul, run_is, iN0, iN1, iN2, iN3, iN4, iN5, run_eqInt, run_eqStr, run_intB, run_min, run_max, run_lenT, run_mt0, run_mt, run_pass, run_rt, run_drop, run_sif, run_gn, run_par, run_gsn, run_gsc, run_gsb, run_for, run_iR1, run_iR2, run_ret, run_new, run_C, run_var', run_gtp, run_lc, on_some, on_none, exists_eq_left, exists_eq_left', Option.some.injEq, D.bl.injEq, List.cons.injEq, D.int.injEq, D.loc.injEq, D.tup.injEq, and_true, true_and, startD, List.map_cons, List.map_nil, List.length_cons, List.length_nil, List.replicate, List.cons_append, List.nil_append, List.getElem?_cons_zero, List.getElem?_cons_succ, List.getElem?_nil, List.set_cons_zero, List.set_cons_succ, List.set_nil, Nat.add_zero, Nat.zero_add, Nat.reduceAdd, Nat.reduceSub, if_true]
  refine (hs.gr g1).run rfl hh ?_
  simp only [fn_rt, fn_nx, seq_nx, seq_rt, seq_bk, seq_ct, turn_nx, turn_ct, turn_bk, turn_rt, run_fn, run_seq, run_asg, run_op, run_un, run_nil, run_cons, run_tup, run_lst, run_and, run_or, run_not, run_if, run_chain, run_call, run_callK, run_B, run_add, run_sub, run_lt, run_le, run_gt, run_ge, run_neg, run_mod, run_div, run_pow, run_mul, run_is, iN0, iN1, iN2, iN3, iN4, iN5, run_eqInt, run_eqStr, run_intB, run_min, run_max, run_lenT, run_mt0, run_mt, run_pass, run_rt, run_drop, run_sif, run_gn, run_par, run_gsn, run_gsc, run_gsb, run_for, run_iR1, run_iR2, run_ret, run_new, run_C, run_var', run_gtp, run_lc, on_some, on_none, exists_eq_left, exists_eq_left', Option.some.injEq, D.bl.injEq, List.cons.injEq, D.int.injEq, D.loc.injEq, D.tup.injEq, and_true, true_and, startD, List.map_cons, List.map_nil, List.length_cons, List.length_nil, List.replicate, List.cons_append, List.nil_append, List.getElem?_cons_zero, List.getElem?_cons_succ, List.getElem?_nil, List.set_cons_zero, List.set_cons_succ, List.set_nil, Nat.add_zero, Nat.zero_add, Nat.reduceAdd, Nat.reduceSub]
  exact span_run ok.2 fun S2 g2 => q _ (g1.trans g2)
theorem room_ok {r : Rm} {fs : List (Str × D)} (hs : Has p S fs) (hw : (("wide" : Str), D.int w) ∈ fs) (hh : (("high" : Str), D.int h) ∈ fs) (hd : (("day" : Str), D.int day) ∈ fs) (ok : r.ok w h day) (q : ∀ S', Gr S S' → Q (.bl true) S') : Run (pis_room [.loc p, r.D]) S Q := by
  unfold pis_room Rm.D
  simp only [fn_rt, fn_nx, seq_nx, seq_rt, seq_bk, seq_ct, turn_nx, turn_ct, turn_bk, turn_rt, run_fn, run_seq, run_asg, run_op, run_un, run_nil, run_cons, run_tup, run_lst, run_and, run_or, run_not, run_if, run_chain, run_call, run_callK, run_B, run_add, run_sub, run_lt, run_le, run_gt, run_ge, run_neg, run_mod, run_div, run_pow, run_mul, run_is, iN0, iN1, iN2, iN3, iN4, iN5, run_eqInt, run_eqStr, run_intB, run_min, run_max, run_lenT, run_mt0, run_mt, run_pass, run_rt, run_drop, run_sif, run_gn, run_par, run_gsn, run_gsc, run_gsb, run_for, run_iR1, run_iR2, run_ret, run_new, run_C, run_var', run_gtp, run_lc, on_some, on_none, exists_eq_left, exists_eq_left', Option.some.injEq, D.bl.injEq, List.cons.injEq, D.int.injEq, D.loc.injEq, D.tup.injEq, and_true, true_and, startD, List.map_cons, List.map_nil, List.length_cons, List.length_nil, List.replicate, List.cons_append, List.nil_append, List.getElem?_cons_zero, List.getElem?_cons_succ, List.getElem?_nil, List.set_cons_zero, List.set_cons_succ, List.set_nil, Nat.add_zero, Nat.zero_add, Nat.reduceAdd, Nat.reduceSub]
  refine tofT (by simp) ?_
  refine ⟨true, rfl, ?_⟩
  simp only [if_true, fn_rt, fn_nx, seq_nx, seq_rt, seq_bk, seq_ct, turn_nx, turn_ct, turn_bk, turn_rt, run_fn, run_seq, run_asg, run_op, run_un, run_nil, run_cons, run_tup, run_lst, run_and, run_or, run_not, run_if, run_chain, run_call, run_callK, run_B, run_add, run_sub, run_lt, run_le, run_gt, run_ge, run_neg, run_mod, run_div, run_pow, run_mul, run_is, iN0, iN1, iN2, iN3, iN4, iN5, run_eqInt, run_eqStr, run_intB, run_min, run_max, run_lenT, run_mt0, run_mt, run_pass, run_rt, run_drop, run_sif, run_gn, run_par, run_gsn, run_gsc, run_gsb, run_for, run_iR1, run_iR2, run_ret, run_new, run_C, run_var', run_gtp, run_lc, on_some, on_none, exists_eq_left, exists_eq_left', Option.some.injEq, D.bl.injEq, List.cons.injEq, D.int.injEq, D.loc.injEq, D.tup.injEq, and_true, true_and, startD, List.map_cons, List.map_nil, List.length_cons, List.length_nil, List.replicate, List.cons_append, List.nil_append, List.getElem?_cons_zero, List.getElem?_cons_succ, List.getElem?_nil, List.set_cons_zero, List.set_cons_succ, List.set_nil, Nat.add_zero, Nat.zero_add, Nat.reduceAdd, Nat.reduceSub, run_sl, run_pNo, run_pS, sl6]
  refine box_ok hs hw hh ok.1 fun S1 g1 => ?_
  simp only [if_true, fn_rt, fn_nx, seq_nx, seq_rt, seq_bk, seq_ct, turn_nx, turn_ct, turn_bk, turn_rt, run_fn, run_seq, run_asg, run_op, run_un, run_nil, run_cons, run_tup, run_lst, run_and, run_or, run_not, run_if, run_chain, run_call, run_callK, run_B, run_add, run_sub, run_lt, run_le, run_gt, run_ge, run_neg, run_mod, run_div, run_pow, run_mul, run_is, iN0, iN1, iN2, iN3, iN4, iN5, run_eqInt, run_eqStr, run_intB, run_min, run_max, run_lenT, run_mt0, run_mt, run_pass, run_rt, run_drop, run_sif, run_gn, run_par, run_gsn, run_gsc, run_gsb, run_for, run_iR1, run_iR2, run_ret, run_new, run_C, run_var', run_gtp, run_lc, on_some, on_none, exists_eq_left, exists_eq_left', Option.some.injEq, D.bl.injEq, List.cons.injEq, D.int.injEq, D.loc.injEq, D.tup.injEq, and_true, true_and, startD, List.map_cons, List.map_nil, List.length_cons, List.length_nil, List.replicate, List.cons_append, List.nil_append, List.getElem?_cons_zero, List.getElem?_cons_succ, List.getElem?_nil, List.set_cons_zero, List.set_cons_succ, List.set_nil, Nat.add_zero, Nat.zero_add, Nat.reduceAdd, Nat.reduceSub, run_ixM, at4, at5]
  refine (hs.gr g1).run rfl hd ?_
  exact span_run ok.2 fun S2 g2 => q _ (g1.trans g2)
theorem rooms_ok {rs : List Rm} {fs : List (Str × D)} (hs : Has p S fs) (hw : (("wide" : Str), D.int w) ∈ fs) (hh : (("high" : Str), D.int h) ∈ fs) (hd : (("day" : Str), D.int day) ∈ fs) (hl : rs.length ≤ 8) (ok : ∀ r ∈ rs, r.ok w h day) (q : ∀ S', Gr S S' → Q (.bl true) S') : Run (pare_rooms [.loc p, .tup (rs.map Rm.D)]) S Q := by
  unfold pare_rooms
  rw [run_fn, run_rt, run_and, run_call]
  simp only [run_cons, run_nil, run_C, run_var', exists_eq_left', Option.some.injEq, startD, List.map_cons, List.map_nil, List.length_cons, List.length_nil, List.replicate, List.cons_append, List.nil_append, List.getElem?_cons_zero, List.getElem?_cons_succ, List.getElem?_nil, List.set_cons_zero, List.set_cons_succ, List.set_nil, Nat.add_zero, Nat.zero_add, Nat.reduceAdd, Nat.reduceSub]
  refine ttoT (by simp; omega) ?_
  refine ⟨true, rfl, ?_⟩
  rw [if_pos rfl]
  refine all_run (xs := rs.map Rm.D) (fun S G q => (run_var rfl).mpr q) (by simp; omega) ?_ q
  intro x hx S1 G g1 q'
  simp only [List.mem_map] at hx
  obtain ⟨r, hr, rfl⟩ := hx
  simp only [fn_rt, fn_nx, seq_nx, seq_rt, seq_bk, seq_ct, turn_nx, turn_ct, turn_bk, turn_rt, run_fn, run_seq, run_asg, run_op, run_un, run_nil, run_cons, run_tup, run_lst, run_and, run_or, run_not, run_if, run_chain, run_call, run_callK, run_B, run_add, run_sub, run_lt, run_le, run_gt, run_ge, run_neg, run_mod, run_div, run_pow, run_mul, run_is, iN0, iN1, iN2, iN3, iN4, iN5, run_eqInt, run_eqStr, run_intB, run_min, run_max, run_lenT, run_mt0, run_mt, run_pass, run_rt, run_drop, run_sif, run_gn, run_par, run_gsn, run_gsc, run_gsb, run_for, run_iR1, run_iR2, run_ret, run_new, run_C, run_var', run_gtp, run_lc, on_some, on_none, exists_eq_left, exists_eq_left', Option.some.injEq, D.bl.injEq, List.cons.injEq, D.int.injEq, D.loc.injEq, D.tup.injEq, and_true, true_and, wipeD, startD, List.map_cons, List.map_nil, List.length_cons, List.length_nil, List.replicate, List.cons_append, List.nil_append, List.getElem?_cons_zero, List.getElem?_cons_succ, List.getElem?_nil, List.set_cons_zero, List.set_cons_succ, List.set_nil, Nat.add_zero, Nat.zero_add, Nat.reduceAdd, Nat.reduceSub]
  exact room_ok (hs.gr g1) hw hh hd (ok r hr) q'
end
end Wwindfleet_k37_rooms_grown_and_clashing

end
section
set_option maxHeartbeats 4000000
namespace Wwindfleet_k37_rooms_grown_and_clashing
open PySem Ev
open L2 (atI ixN Key)
section
variable {S : Sto} {Q : D → Sto → Prop} {env : DEnv} {p k : Nat} {w h day : Int}
theorem pad_ok {r : Pd} {fs : List (Str × D)} (hs : Has p S fs) (hw : (("wide" : Str), D.int w) ∈ fs) (hh : (("high" : Str), D.int h) ∈ fs) (ok : r.ok w h) (q : ∀ S', Gr S S' → Q (.bl true) S') : Run (pis_pad [.loc p, r.D]) S Q := by
  unfold pis_pad Pd.D
  simp only [fn_rt, fn_nx, seq_nx, seq_rt, seq_bk, seq_ct, turn_nx, turn_ct, turn_bk, turn_rt, run_fn, run_seq, run_asg, run_op, run_un, run_nil, run_cons, run_tup, run_lst, run_and, run_or, run_not, run_if, run_chain, run_call, run_callK, run_B, run_add, run_sub, run_lt, run_le, run_gt, run_ge, run_neg, run_mod, run_div, run_pow, run_mul, run_is, iN0, iN1, iN2, iN3, iN4, iN5, run_eqInt, run_eqStr, run_intB, run_min, run_max, run_lenT, run_mt0, run_mt, run_pass, run_rt, run_drop, run_sif, run_gn, run_par, run_gsn, run_gsc, run_gsb, run_for, run_iR1, run_iR2, run_ret, run_new, run_C, run_var', run_gtp, run_lc, on_some, on_none, exists_eq_left, exists_eq_left', Option.some.injEq, D.bl.injEq, List.cons.injEq, D.int.injEq, D.loc.injEq, D.tup.injEq, and_true, true_and, startD, List.map_cons, List.map_nil, List.length_cons, List.length_nil, List.replicate, List.cons_append, List.nil_append, List.getElem?_cons_zero, List.getElem?_cons_succ, List.getElem?_nil, List.set_cons_zero, List.set_cons_succ, List.set_nil, Nat.add_zero, Nat.zero_add, Nat.reduceAdd, Nat.reduceSub]
  refine tofT (by simp) ?_
  refine ⟨true, rfl, ?_⟩
  simp only [if_true, fn_rt, fn_nx, seq_nx, seq_rt, seq_bk, seq_ct, turn_nx, turn_ct, turn_bk, turn_rt, run_fn, run_seq, run_asg, run_op, run_un, run_nil, run_cons, run_tup, run_lst, run_and, run_or, run_not, run_if, run_chain, run_call, run_callK, run_B, run_add, run_sub, run_lt, run_le, run_gt, run_ge, run_neg, run_mod, run_div, run_pow, run_mul, run_is, iN0, iN1, iN2, iN3, iN4, iN5, run_eqInt, run_eqStr, run_intB, run_min, run_max, run_lenT, run_mt0, run_mt, run_pass, run_rt, run_drop, run_sif, run_gn, run_par, run_gsn, run_gsc, run_gsb, run_for, run_iR1, run_iR2, run_ret, run_new, run_C, run_var', run_gtp, run_lc, on_some, on_none, exists_eq_left, exists_eq_left', Option.some.injEq, D.bl.injEq, List.cons.injEq, D.int.injEq, D.loc.injEq, D.tup.injEq, and_true, true_and, startD, List.map_cons, List.map_nil, List.length_cons, List.length_nil, List.replicate, List.cons_append, List.nil_append, List.getElem?_cons_zero, List.getElem?_cons_succ, List.getElem?_nil, List.set_cons_zero, List.set_cons_succ, List.set_nil, Nat.add_zero, Nat.zero_add, Nat.reduceAdd, Nat.reduceSub, run_sl, run_pNo, run_pS, sl5]
  refine box_ok hs hw hh ok.1 fun S1 g1 => ?_
  simp only [if_true, fn_rt, fn_nx, seq_nx, seq_rt, seq_bk, seq_ct, turn_nx, turn_ct, turn_bk, turn_rt, run_fn, run_seq, run_asg, run_op, run_un, run_nil, run_cons, run_tup, run_lst, run_and, run_or, run_not, run_if, run_chain, run_call, run_callK, run_B, run_add, run_sub, run_lt, run_le, run_gt, run_ge, run_neg, run_mod, run_div, run_pow, run_mul, run_is, iN0, iN1, iN2, iN3, iN4, iN5, run_eqInt, run_eqStr, run_intB, run_min, run_max, run_lenT, run_mt0, run_mt, run_pass, run_rt, run_drop, run_sif, run_gn, run_par, run_gsn, run_gsc, run_gsb, run_for, run_iR1, run_iR2, run_ret, run_new, run_C, run_var', run_gtp, run_lc, on_some, on_none, exists_eq_left, exists_eq_left', Option.some.injEq, D.bl.injEq, List.cons.injEq, D.int.injEq, D.loc.injEq, D.tup.injEq, and_true, true_and, startD, List.map_cons, List.map_nil, List.length_cons, List.length_nil, List.replicate, List.cons_append, List.nil_append, List.getElem?_cons_zero, List.getElem?_cons_succ, List.getElem?_nil, List.set_cons_zero, List.set_cons_succ, List.set_nil, Nat.add_zero, Nat.zero_add, Nat.reduceAdd, Nat.reduceSub, run_ixM, at4]
  exact wfromT ok.2 (q _ g1)
theorem meet_iff {a b c d e f g i : Int} : Run (pdo_boxes_meet [.tup [.int a, .int b, .int c, .int d], .tup [.int e, .int f, .int g, .int i]]) S Q ↔ Q (.bl (decide (a ≤ g ∧ e ≤ c ∧ b ≤ i ∧ f ≤ d))) S := by
  unfold pdo_boxes_meet pdo_boxes_meet_2 pdo_boxes_meet_1
  simp only [fn_rt, fn_nx, seq_nx, seq_rt, seq_bk, seq_ct, turn_nx, turn_ct, turn_bk, turn_rt, run_fn, run_seq, run_asg, run_op, run_un, run_nil, run_cons, run_tup, run_lst, run_and, run_or, run_not, run_if, run_chain, run_call, run_callK, run_B, run_add, run_sub, run_lt, run_le, run_gt, run_ge, run_neg, run_mod, run_div, run_pow, run_mul, run_is, iN0, iN1, iN2, iN3, iN4, iN5, run_eqInt, run_eqStr, run_intB, run_min, run_max, run_lenT, run_mt0, run_mt, run_pass, run_rt, run_drop, run_sif, run_gn, run_par, run_gsn, run_gsc, run_gsb, run_for, run_iR1, run_iR2, run_ret, run_new, run_C, run_var', run_gtp, run_lc, on_some, on_none, exists_eq_left, exists_eq_left', Option.some.injEq, D.bl.injEq, List.cons.injEq, D.int.injEq, D.loc.injEq, D.tup.injEq, and_true, true_and, startD, List.map_cons, List.map_nil, List.length_cons, List.length_nil, List.replicate, List.cons_append, List.nil_append, List.getElem?_cons_zero, List.getElem?_cons_succ, List.getElem?_nil, List.set_cons_zero, List.set_cons_succ, List.set_nil, Nat.add_zero, Nat.zero_add, Nat.reduceAdd, Nat.reduceSub]
  by_cases h1 : a ≤ g <;> by_cases h2 : e ≤ c <;> by_cases h3 : b ≤ i <;> by_cases h4 : f ≤ d <;> simp [h1, h2, h3, h4]
theorem meet_run {a b c d e f g i : Int} (ok : ¬ (a ≤ g ∧ e ≤ c ∧ b ≤ i ∧ f ≤ d)) (q : Q (.bl false) S) : Run (pdo_boxes_meet [.tup [.int a, .int b, .int c, .int d], .tup [.int e, .int f, .int g, .int i]]) S Q := by
  rw [meet_iff, decide_eq_false ok]; exact q
theorem run_iEn {m : ME} {G : Its → Sto → Prop} {xs : List D} (hm : ∀ (S : Sto) (G : D → Sto → Prop), G (.tup xs) S → Run (m env) S G) (q : G ⟨none, enumD xs⟩ S) : Run (iEn m env) S G := by
  unfold iEn
  rw [run_bd]
  refine hm S _ ?_
  exact (run_some rfl).mpr q
/-- the pads ahead of one -/
theorem slN {xs : List D} {i : Nat} (hi : i < xs.length) (q : Q (.tup (xs.take i)) S) : Run (oSl (.tup xs) none (some (i : Int))) S Q := by
  refine (run_some (a := .tup (xs.take i)) (S' := S) ?_).mpr q
  unfold oSl
  dsimp only
  have e : HT.sIx xs.length xs.length (some (i : Int)) = i := by
    unfold HT.sIx
    simp only
    first
    | (split <;> omega)
    | (rw [if_neg (by omega)]; omega)
    | omega
  have e0 : HT.sIx xs.length 0 none = 0 := rfl
  rw [if_neg (by rw [e]; omega)]
  unfold cutD
  rw [e, e0]
  simp
theorem pads_ok {ps : List Pd} {fs : List (Str × D)} (hs : Has p S fs) (hw : (("wide" : Str), D.int w) ∈ fs) (hh : (("high" : Str), D.int h) ∈ fs) (hl : ps.length ≤ 4) (ok : ∀ r ∈ ps, r.ok w h) (off : ∀ (i j : Nat) (x y : Pd), ps[i]? = some x → ps[j]? = some y → j < i → x.off y) (q : ∀ S', Gr S S' → Q (.bl true) S') : Run (pare_pads [.loc p, .tup (ps.map Pd.D)]) S Q := by
  unfold pare_pads
  rw [run_fn, run_seq, run_sif, run_or, run_not, run_call]
  simp only [run_cons, run_nil, run_C, run_var', exists_eq_left', Option.some.injEq, startD, List.map_cons, List.map_nil, List.length_cons, List.length_nil, List.replicate, List.cons_append, List.nil_append, List.getElem?_cons_zero, List.getElem?_cons_succ, List.getElem?_nil, List.set_cons_zero, List.set_cons_succ, List.set_nil, Nat.add_zero, Nat.zero_add, Nat.reduceAdd, Nat.reduceSub]
  refine ttoT (by simp; omega) ?_
  refine ⟨true, rfl, false, rfl, ?_⟩
  rw [if_neg Bool.false_ne_true, run_not]
  refine all_run (xs := ps.map Pd.D) (fun S G q => (run_var rfl).mpr q) (by simp; omega) ?_ fun S1 g1 => ?_
  · intro x hx S1 G g1 q'
    simp only [List.mem_map] at hx
    obtain ⟨r, hr, rfl⟩ := hx
    simp only [fn_rt, fn_nx, seq_nx, seq_rt, seq_bk, seq_ct, turn_nx, turn_ct, turn_bk, turn_rt, run_fn, run_seq, run_asg, run_op, run_un, run_nil, run_cons, run_tup, run_lst, run_and, run_or, run_not, run_if, run_chain, run_call, run_callK, run_B, run_add, run_sub, run_lt, run_le, run_gt, run_ge, run_neg, run_mod, run_div, run_pow, run_mul, run_is, iN0, iN1, iN2, iN3, iN4, iN5, run_eqInt, run_eqStr, run_intB, run_min, run_max, run_lenT, run_mt0, run_mt, run_pass, run_rt, run_drop, run_sif, run_gn, run_par, run_gsn, run_gsc, run_gsb, run_for, run_iR1, run_iR2, run_ret, run_new, run_C, run_var', run_gtp, run_lc, on_some, on_none, exists_eq_left, exists_eq_left', Option.some.injEq, D.bl.injEq, List.cons.injEq, D.int.injEq, D.loc.injEq, D.tup.injEq, and_true, true_and, wipeD, startD, List.map_cons, List.map_nil, List.length_cons, List.length_nil, List.replicate, List.cons_append, List.nil_append, List.getElem?_cons_zero, List.getElem?_cons_succ, List.getElem?_nil, List.set_cons_zero, List.set_cons_succ, List.set_nil, Nat.add_zero, Nat.zero_add, Nat.reduceAdd, Nat.reduceSub]
    exact pad_ok (hs.gr g1) hw hh (ok r hr) q'
  refine ⟨true, rfl, false, rfl, ?_⟩
  rw [if_neg Bool.false_ne_true, run_pass, seq_nx]
  unfold pare_pads_3
  rw [run_seq, run_for]
  refine run_iEn (xs := ps.map Pd.D) (fun S G q => (run_var rfl).mpr q) ?_
  refine run_loop (fun ys e S2 => Gr S S2 ∧ (∃ a2 a3 a4, e = [some (.loc p), some (.tup (ps.map Pd.D)), a2, a3, a4]) ∧ ∀ y ∈ ys, ∃ (i : Nat) (x : Pd), ps[i]? = some x ∧ y = .tup [.int (i : Int), x.D]) ⟨g1, ⟨_, _, _, rfl⟩, ?_⟩ (fun _ _ _ _ => Gd.none) ?_ ?_
  · intro y hy
    simp only [enumD, List.mem_map] at hy
    obtain ⟨⟨z, i⟩, hz, rfl⟩ := hy
    have := List.mem_zipIdx hz
    obtain ⟨h1, h2, h3⟩ := this
    simp only [Nat.zero_add, List.length_map] at h2
    refine ⟨i, ps[i], List.getElem?_eq_getElem h2, ?_⟩
    simp only [h3, List.getElem_map, Nat.sub_zero]
  · rintro y ys e S2 ⟨g2, ⟨a2, a3, a4, rfl⟩, hy⟩
    obtain ⟨i, x, hx, rfl⟩ := hy y (by simp)
    have hi : i < ps.length := (List.getElem?_eq_some_iff.mp hx).1
    simp only [run_gtp, run_gsc, run_gsn, run_gn, startD, List.map_cons, List.map_nil, List.length_cons, List.length_nil, List.replicate, List.cons_append, List.nil_append, List.getElem?_cons_zero, List.getElem?_cons_succ, List.getElem?_nil, List.set_cons_zero, List.set_cons_succ, List.set_nil, Nat.add_zero, Nat.zero_add, Nat.reduceAdd, Nat.reduceSub, D.tup.injEq, exists_eq_left', true_and]
    unfold pare_pads_1
    rw [run_sif]
    refine none_run (xs := (ps.take i).map Pd.D) ?_ (by simp; omega) ?_ fun S3 g3 => ?_
    · intro S G q
      simp only [run_sl, run_pNo, run_pS, run_var', startD, List.map_cons, List.map_nil, List.length_cons, List.length_nil, List.replicate, List.cons_append, List.nil_append, List.getElem?_cons_zero, List.getElem?_cons_succ, List.getElem?_nil, List.set_cons_zero, List.set_cons_succ, List.set_nil, Nat.add_zero, Nat.zero_add, Nat.reduceAdd, Nat.reduceSub, Option.some.injEq, exists_eq_left', D.int.injEq]
      refine slN (by simpa using hi) ?_
      rw [← List.map_take]
      exact q
    · intro z hz S3 G g3 q'
      simp only [List.mem_map] at hz
      obtain ⟨y, hy2, rfl⟩ := hz
      obtain ⟨j, hj⟩ := List.mem_iff_getElem?.mp hy2
      have hj2 : j < i := by
        have := (List.getElem?_eq_some_iff.mp hj).1
        simp at this; omega
      have hj3 : ps[j]? = some y := by
        rw [List.getElem?_take_of_lt hj2] at hj
        exact hj
      simp only [fn_rt, fn_nx, seq_nx, seq_rt, seq_bk, seq_ct, turn_nx, turn_ct, turn_bk, turn_rt, run_fn, run_seq, run_asg, run_op, run_un, run_nil, run_cons, run_tup, run_lst, run_and, run_or, run_not, run_if, run_chain, run_call, run_callK, run_B, run_add, run_sub, run_lt, run_le, run_gt, run_ge, run_neg, run_mod, run_div, run_pow, run_mul, run_is, iN0, iN1, iN2, iN3, iN4, iN5, run_eqInt, run_eqStr, run_intB, run_min, run_max, run_lenT, run_mt0, run_mt, run_pass, run_rt, run_drop, run_sif, run_gn, run_par, run_gsn, run_gsc, run_gsb, run_for, run_iR1, run_iR2, run_ret, run_new, run_C, run_var', run_gtp, run_lc, on_some, on_none, exists_eq_left, exists_eq_left', Option.some.injEq, D.bl.injEq, List.cons.injEq, D.int.injEq, D.loc.injEq, D.tup.injEq, and_true, true_and, wipeD, startD, List.map_cons, List.map_nil, List.length_cons, List.length_nil, List.replicate, List.cons_append, List.nil_append, List.getElem?_cons_zero, List.getElem?_cons_succ, List.getElem?_nil, List.set_cons_zero, List.set_cons_succ, List.set_nil, Nat.add_zero, Nat.zero_add, Nat.reduceAdd, Nat.reduceSub, run_sl, run_pNo, run_pS, Pd.D, sl5]
      exact meet_run (off i j x y hx hj3 hj2) (q' _ (Gr.refl _))
    · refine ⟨false, rfl, ?_⟩
      rw [if_neg Bool.false_ne_true, run_pass]
      exact ⟨g2.trans g3, ⟨_, _, _, rfl⟩, fun z hz => hy z (by simp [hz])⟩
  · rintro e S2 ⟨g2, ⟨a2, a3, a4, rfl⟩, _⟩
    rw [seq_nx]
    unfold pare_pads_2
    simp only [fn_rt, fn_nx, seq_nx, seq_rt, seq_bk, seq_ct, turn_nx, turn_ct, turn_bk, turn_rt, run_fn, run_seq, run_asg, run_op, run_un, run_nil, run_cons, run_tup, run_lst, run_and, run_or, run_not, run_if, run_chain, run_call, run_callK, run_B, run_add, run_sub, run_lt, run_le, run_gt, run_ge, run_neg, run_mod, run_div, run_pow, run_mul, run_is, iN0, iN1, iN2, iN3, iN4, iN5, run_eqInt, run_eqStr, run_intB, run_min, run_max, run_lenT, run_mt0, run_mt, run_pass, run_rt, run_drop, run_sif, run_gn, run_par, run_gsn, run_gsc, run_gsb, run_for, run_iR1, run_iR2, run_ret, run_new, run_C, run_var', run_gtp, run_lc, on_some, on_none, exists_eq_left, exists_eq_left', Option.some.injEq, D.bl.injEq, List.cons.injEq, D.int.injEq, D.loc.injEq, D.tup.injEq, and_true, true_and]
    exact q _ g2
def Hts (hs : Option (List (List Int))) : D := match hs with
  | none => .non
  | some rows => .tup (rows.map fun r => .tup (r.map .int))
def HtOk (w h : Int) (hs : Option (List (List Int))) : Prop := ∀ rows, hs = some rows → (rows.length : Int) = h ∧ ∀ r ∈ rows, (r.length : Int) = w ∧ ∀ i ∈ r, 0 ≤ i ∧ i ≤ 9
theorem heights_ok {rows : List (List Int)} {fs : List (Str × D)} (hs : Has p S fs) (hw : (("wide" : Str), D.int w) ∈ fs) (hh : (("high" : Str), D.int h) ∈ fs) (w9 : w ≤ 100) (h9 : h ≤ 100) (ok : HtOk w h (some rows)) (q : ∀ S', Gr S S' → Q (.bl true) S') : Run (pare_heights [.loc p, .tup (rows.map fun r => .tup (r.map .int))]) S Q := by
  obtain ⟨l1, l2⟩ := ok rows rfl
  unfold pare_heights
  rw [run_fn, run_rt, run_and, run_call]
  simp only [run_cons, run_nil, run_C, run_var', exists_eq_left', Option.some.injEq, startD, List.map_cons, List.map_nil, List.length_cons, List.length_nil, List.replicate, List.cons_append, List.nil_append, List.getElem?_cons_zero, List.getElem?_cons_succ, List.getElem?_nil, List.set_cons_zero, List.set_cons_succ, List.set_nil, Nat.add_zero, Nat.zero_add, Nat.reduceAdd, Nat.reduceSub]
  refine hs.run rfl hh ?_
  refine tofT (by simp [l1]) ?_
  refine ⟨true, rfl, ?_⟩
  rw [if_pos rfl]
  refine all_run (xs := rows.map fun r => .tup (r.map .int)) (fun S G q => (run_var rfl).mpr q) (by simp; omega) ?_ q
  intro x hx S1 G g1 q'
  simp only [List.mem_map] at hx
  obtain ⟨r, hr, rfl⟩ := hx
  obtain ⟨r1, r2⟩ := l2 r hr
  simp only [fn_rt, fn_nx, seq_nx, seq_rt, seq_bk, seq_ct, turn_nx, turn_ct, turn_bk, turn_rt, run_fn, run_seq, run_asg, run_op, run_un, run_nil, run_cons, run_tup, run_lst, run_and, run_or, run_not, run_if, run_chain, run_call, run_callK, run_B, run_add, run_sub, run_lt, run_le, run_gt, run_ge, run_neg, run_mod, run_div, run_pow, run_mul, run_is, iN0, iN1, iN2, iN3, iN4, iN5, run_eqInt, run_eqStr, run_intB, run_min, run_max, run_lenT, run_mt0, run_mt, run_pass, run_rt, run_drop, run_sif, run_gn, run_par, run_gsn, run_gsc, run_gsb, run_for, run_iR1, run_iR2, run_ret, run_new, run_C, run_var', run_gtp, run_lc, on_some, on_none, exists_eq_left, exists_eq_left', Option.some.injEq, D.bl.injEq, List.cons.injEq, D.int.injEq, D.loc.injEq, D.tup.injEq, and_true, true_and, wipeD, startD, List.map_cons, List.map_nil, List.length_cons, List.length_nil, List.replicate, List.cons_append, List.nil_append, List.getElem?_cons_zero, List.getElem?_cons_succ, List.getElem?_nil, List.set_cons_zero, List.set_cons_succ, List.set_nil, Nat.add_zero, Nat.zero_add, Nat.reduceAdd, Nat.reduceSub]
  unfold pis_height_row
  simp only [fn_rt, fn_nx, seq_nx, seq_rt, seq_bk, seq_ct, turn_nx, turn_ct, turn_bk, turn_rt, run_fn, run_seq, run_asg, run_op, run_un, run_nil, run_cons, run_tup, run_lst, run_and, run_or, run_not, run_if, run_chain, run_call, run_callK, run_B, run_add, run_sub, run_lt, run_le, run_gt, run_ge, run_neg, run_mod, run_div, run_pow, run_mul, run_is, iN0, iN1, iN2, iN3, iN4, iN5, run_eqInt, run_eqStr, run_intB, run_min, run_max, run_lenT, run_mt0, run_mt, run_pass, run_rt, run_drop, run_sif, run_gn, run_par, run_gsn, run_gsc, run_gsb, run_for, run_iR1, run_iR2, run_ret, run_new, run_C, run_var', run_gtp, run_lc, on_some, on_none, exists_eq_left, exists_eq_left', Option.some.injEq, D.bl.injEq, List.cons.injEq, D.int.injEq, D.loc.injEq, D.tup.injEq, and_true, true_and, startD, List.map_cons, List.map_nil, List.length_cons, List.length_nil, List.replicate, List.cons_append, List.nil_append, List.getElem?_cons_zero, List.getElem?_cons_succ, List.getElem?_nil, List.set_cons_zero, List.set_cons_succ, List.set_nil, Nat.add_zero, Nat.zero_add, Nat.reduceAdd, Nat.reduceSub]
  refine (hs.gr g1).run rfl hw ?_
  refine tofT (by simp [r1]) ?_
  refine ⟨true, rfl, ?_⟩
  simp only [if_true]
  exact wholes_run (by omega) r2 q'
end
end Wwindfleet_k37_rooms_grown_and_clashing

end
section
set_option maxHeartbeats 4000000
namespace Wwindfleet_k37_rooms_grown_and_clashing
open PySem Ev
open L2 (atI ixN Key)
structure Lnd where
  w : Int
  h : Int
  day : Int
  hts : Option (List (List Int))
  bar : List Rm
  ppl : List Rm
  pads : List Pd
structure Lnd.Ok (L : Lnd) : Prop where
  w : 1 ≤ L.w ∧ L.w ≤ 12
  h : 1 ≤ L.h ∧ L.h ≤ 12
  day : 1 ≤ L.day ∧ L.day ≤ 24
  hts : HtOk L.w L.h L.hts
  bar : L.bar.length ≤ 8 ∧ ∀ r ∈ L.bar, r.ok L.w L.h L.day
  ppl : L.ppl.length ≤ 8 ∧ ∀ r ∈ L.ppl, r.ok L.w L.h L.day
  pads : L.pads.length ≤ 4 ∧ ∀ r ∈ L.pads, r.ok L.w L.h
  off : ∀ (i j : Nat) (x y : Pd), L.pads[i]? = some x → L.pads[j]? = some y → j < i → x.off y
def Lnd.fs (L : Lnd) : List (Str × D) := [("wide", .int L.w), ("high", .int L.h), ("day", .int L.day), ("heights", Hts L.hts), ("barred", .tup (L.bar.map Rm.D)), ("people", .tup (L.ppl.map Rm.D)), ("pads", .tup (L.pads.map Pd.D))]
def LandAt (p : Nat) (L : Lnd) (S : Sto) : Prop := S[p]? = some (.ins 0 L.fs)
theorem LandAt.gr {p : Nat} {L : Lnd} {S S' : Sto} (h : LandAt p L S) (g : Gr S S') : LandAt p L S' := g _ _ h
theorem LandAt.keep {p n c : Nat} {L : Lnd} {S S' : Sto} (h : LandAt p L S) (g : Keep n c S S') (h1 : p ≠ n) (h2 : p ≠ c) : LandAt p L S' := g.at_ _ _ h h1 h2
/-- all but what stands at p -/
def Kp (p : Nat) (S S' : Sto) : Prop := ∀ (k : Nat) (u : O), S[k]? = some u → k ≠ p → S'[k]? = some u
theorem Kp.refl (p : Nat) (S : Sto) : Kp p S S := fun _ _ h _ => h
theorem Kp.gr {p : Nat} {S S1 S2 : Sto} (a : Kp p S S1) (g : Gr S1 S2) : Kp p S S2 := fun k u h n => g _ _ (a k u h n)
theorem Kp.set {p : Nat} {S S1 : Sto} (a : Kp p S S1) (o : O) : Kp p S (S1.set p o) := fun k u h n => get_set (a k u h n) (Ne.symm n)
section
variable {S : Sto} {Q : D → Sto → Prop} {R : Out → Sto → Prop} {env : DEnv} {p k : Nat} {w h day : Int}
theorem run_sfld {c n i j : Nat} {f : Str} {fs : List (Str × D)} {d : D} (hi : env[i]? = some (some (.loc n))) (hj : env[j]? = some (some d)) (h : S[n]? = some (.ins c fs)) (hl : fs.length < 1000) : Run (sFldD c f (mVar i) (mVar j) env) S R ↔ R (.nx env) (S.set n (.ins c (fPut f d fs))) := by
  unfold sFldD
  rw [run_bd, run_var hj, run_bd, run_var hi]
  exact run_some (by dsimp only; rw [h]; dsimp only; rw [if_pos ⟨rfl, hl⟩])
theorem hasOf {gs : List (Str × D)} {a b c : D} (h : S[p]? = some (.ins 0 gs)) (e1 : fGet gs "wide" = some a) (e2 : fGet gs "high" = some b) (e3 : fGet gs "day" = some c) : Has p S [("wide", a), ("high", b), ("day", c)] := by
  refine ⟨gs, h, fun f d hm => ?_⟩
  simp only [List.mem_cons, List.not_mem_nil, or_false, Prod.mk.injEq] at hm
  rcases hm with ⟨rfl, rfl⟩ | ⟨rfl, rfl⟩ | ⟨rfl, rfl⟩
  · exact e1
  · exact e2
  · exact e3
theorem mk_run {L : Lnd} (ok : L.Ok) (h0 : S[p]? = some (.ins 0 [])) (q : ∀ S', Kp p S S' → LandAt p L S' → Q .non S') : Run (pLand_mk [.loc p, .int L.w, .int L.h, .int L.day, Hts L.hts, .tup (L.bar.map Rm.D), .tup (L.ppl.map Rm.D), .tup (L.pads.map Pd.D)]) S Q := by
  obtain ⟨w1, w2⟩ := ok.w
  obtain ⟨h1, h2⟩ := ok.h
  obtain ⟨d1, d2⟩ := ok.day
  unfold pLand_mk
  simp only [fn_rt, fn_nx, seq_nx, seq_rt, seq_bk, seq_ct, turn_nx, turn_ct, turn_bk, turn_rt, run_fn, run_seq, run_asg, run_op, run_un, run_nil, run_cons, run_tup, run_lst, run_and, run_or, run_not, run_if, run_chain, run_call, run_callK, run_B, run_add, run_sub, run_lt, run_le, run_gt, run_ge, run_neg, run_mod, run_div, run_pow, run_mul, run_is, iN0, iN1, iN2, iN3, iN4, iN5, run_eqInt, run_eqStr, run_intB, run_min, run_max, run_lenT, run_mt0, run_mt, run_pass, run_rt, run_drop, run_sif, run_gn, run_par, run_gsn, run_gsc, run_gsb, run_for, run_iR1, run_iR2, run_ret, run_new, run_C, run_var', run_gtp, run_lc, on_some, on_none, exists_eq_left, exists_eq_left', Option.some.injEq, D.bl.injEq, List.cons.injEq, D.int.injEq, D.loc.injEq, D.tup.injEq, and_true, true_and, startD, List.map_cons, List.map_nil, List.length_cons, List.length_nil, List.replicate, List.cons_append, List.nil_append, List.getElem?_cons_zero, List.getElem?_cons_succ, List.getElem?_nil, List.set_cons_zero, List.set_cons_succ, List.set_nil, Nat.add_zero, Nat.zero_add, Nat.reduceAdd, Nat.reduceSub]
  refine wfromT ⟨w1, w2⟩ ?_
  refine ⟨true, rfl, ?_⟩
  simp only [Bool.not_true, Bool.false_eq_true, if_false, fn_rt, fn_nx, seq_nx, seq_rt, seq_bk, seq_ct, turn_nx, turn_ct, turn_bk, turn_rt, run_fn, run_seq, run_asg, run_op, run_un, run_nil, run_cons, run_tup, run_lst, run_and, run_or, run_not, run_if, run_chain, run_call, run_callK, run_B, run_add, run_sub, run_lt, run_le, run_gt, run_ge, run_neg, run_mod, run_div, run_pow, run_mul, run_is, iN0, iN1, iN2, iN3, iN4, iN5, run_eqInt, run_eqStr, run_intB, run_min, run_max, run_lenT, run_mt0, run_mt, run_pass, run_rt, run_drop, run_sif, run_gn, run_par, run_gsn, run_gsc, run_gsb, run_for, run_iR1, run_iR2, run_ret, run_new, run_C, run_var', run_gtp, run_lc, on_some, on_none, exists_eq_left, exists_eq_left', Option.some.injEq, D.bl.injEq, List.cons.injEq, D.int.injEq, D.loc.injEq, D.tup.injEq, and_true, true_and, startD, List.map_cons, List.map_nil, List.length_cons, List.length_nil, List.replicate, List.cons_append, List.nil_append, List.getElem?_cons_zero, List.getElem?_cons_succ, List.getElem?_nil, List.set_cons_zero, List.set_cons_succ, List.set_nil, Nat.add_zero, Nat.zero_add, Nat.reduceAdd, Nat.reduceSub]
  unfold pLand_mk_13
  rw [run_seq, run_sfld rfl rfl h0 (by decide)]
  have k1 := (Kp.refl p S).set (.ins 0 (fPut "wide" (.int L.w) []))
  have g1 := get_put (o := .ins 0 [("wide", .int L.w)]) h0
  have k1 : Kp p S (S.set p (.ins 0 [("wide", .int L.w)])) := k1
  show onSeq pLand_mk_12 _ (.nx _) (S.set p (.ins 0 [("wide", .int L.w)]))
  generalize S.set p (.ins 0 [("wide", .int L.w)]) = S1 at k1 g1 ⊢
  rw [seq_nx]
  unfold pLand_mk_12
  simp only [fn_rt, fn_nx, seq_nx, seq_rt, seq_bk, seq_ct, turn_nx, turn_ct, turn_bk, turn_rt, run_fn, run_seq, run_asg, run_op, run_un, run_nil, run_cons, run_tup, run_lst, run_and, run_or, run_not, run_if, run_chain, run_call, run_callK, run_B, run_add, run_sub, run_lt, run_le, run_gt, run_ge, run_neg, run_mod, run_div, run_pow, run_mul, run_is, iN0, iN1, iN2, iN3, iN4, iN5, run_eqInt, run_eqStr, run_intB, run_min, run_max, run_lenT, run_mt0, run_mt, run_pass, run_rt, run_drop, run_sif, run_gn, run_par, run_gsn, run_gsc, run_gsb, run_for, run_iR1, run_iR2, run_ret, run_new, run_C, run_var', run_gtp, run_lc, on_some, on_none, exists_eq_left, exists_eq_left', Option.some.injEq, D.bl.injEq, List.cons.injEq, D.int.injEq, D.loc.injEq, D.tup.injEq, and_true, true_and, startD, List.map_cons, List.map_nil, List.length_cons, List.length_nil, List.replicate, List.cons_append, List.nil_append, List.getElem?_cons_zero, List.getElem?_cons_succ, List.getElem?_nil, List.set_cons_zero, List.set_cons_succ, List.set_nil, Nat.add_zero, Nat.zero_add, Nat.reduceAdd, Nat.reduceSub]
  refine wfromT ⟨h1, h2⟩ ?_
  refine ⟨true, rfl, ?_⟩
  simp only [Bool.not_true, Bool.false_eq_true, if_false, fn_rt, fn_nx, seq_nx, seq_rt, seq_bk, seq_ct, turn_nx, turn_ct, turn_bk, turn_rt, run_fn, run_seq, run_asg, run_op, run_un, run_nil, run_cons, run_tup, run_lst, run_and, run_or, run_not, run_if, run_chain, run_call, run_callK, run_B, run_add, run_sub, run_lt, run_le, run_gt, run_ge, run_neg, run_mod, run_div, run_pow, run_mul, run_is, iN0, iN1, iN2, iN3, iN4, iN5, run_eqInt, run_eqStr, run_intB, run_min, run_max, run_lenT, run_mt0, run_mt, run_pass, run_rt, run_drop, run_sif, run_gn, run_par, run_gsn, run_gsc, run_gsb, run_for, run_iR1, run_iR2, run_ret, run_new, run_C, run_var', run_gtp, run_lc, on_some, on_none, exists_eq_left, exists_eq_left', Option.some.injEq, D.bl.injEq, List.cons.injEq, D.int.injEq, D.loc.injEq, D.tup.injEq, and_true, true_and, startD, List.map_cons, List.map_nil, List.length_cons, List.length_nil, List.replicate, List.cons_append, List.nil_append, List.getElem?_cons_zero, List.getElem?_cons_succ, List.getElem?_nil, List.set_cons_zero, List.set_cons_succ, List.set_nil, Nat.add_zero, Nat.zero_add, Nat.reduceAdd, Nat.reduceSub]
  unfold pLand_mk_11
  rw [run_seq, run_sfld rfl rfl g1 (by simp)]
  have k2 : Kp p S (S1.set p (.ins 0 [("wide", .int L.w), ("high", .int L.h)])) := k1.set _
  have g2 := get_put (o := .ins 0 [("wide", .int L.w), ("high", .int L.h)]) g1
  show onSeq pLand_mk_10 _ (.nx _) (S1.set p (.ins 0 [("wide", .int L.w), ("high", .int L.h)]))
  generalize S1.set p (.ins 0 [("wide", .int L.w), ("high", .int L.h)]) = S2 at k2 g2 ⊢
  rw [seq_nx]
  unfold pLand_mk_10
  simp only [fn_rt, fn_nx, seq_nx, seq_rt, seq_bk, seq_ct, turn_nx, turn_ct, turn_bk, turn_rt, run_fn, run_seq, run_asg, run_op, run_un, run_nil, run_cons, run_tup, run_lst, run_and, run_or, run_not, run_if, run_chain, run_call, run_callK, run_B, run_add, run_sub, run_lt, run_le, run_gt, run_ge, run_neg, run_mod, run_div, run_pow, run_mul, run_is, iN0, iN1, iN2, iN3, iN4, iN5, run_eqInt, run_eqStr, run_intB, run_min, run_max, run_lenT, run_mt0, run_mt, run_pass, run_rt, run_drop, run_sif, run_gn, run_par, run_gsn, run_gsc, run_gsb, run_for, run_iR1, run_iR2, run_ret, run_new, run_C, run_var', run_gtp, run_lc, on_some, on_none, exists_eq_left, exists_eq_left', Option.some.injEq, D.bl.injEq, List.cons.injEq, D.int.injEq, D.loc.injEq, D.tup.injEq, and_true, true_and, startD, List.map_cons, List.map_nil, List.length_cons, List.length_nil, List.replicate, List.cons_append, List.nil_append, List.getElem?_cons_zero, List.getElem?_cons_succ, List.getElem?_nil, List.set_cons_zero, List.set_cons_succ, List.set_nil, Nat.add_zero, Nat.zero_add, Nat.reduceAdd, Nat.reduceSub]
  refine wfromT ⟨d1, d2⟩ ?_
  refine ⟨true, rfl, ?_⟩
  simp only [Bool.not_true, Bool.false_eq_true, if_false, fn_rt, fn_nx, seq_nx, seq_rt, seq_bk, seq_ct, turn_nx, turn_ct, turn_bk, turn_rt, run_fn, run_seq, run_asg, run_op, run_un, run_nil, run_cons, run_tup, run_lst, run_and, run_or, run_not, run_if, run_chain, run_call, run_callK, run_B, run_add, run_sub, run_lt, run_le, run_gt, run_ge, run_neg, run_mod, run_div, run_pow, run_mul, run_is, iN0, iN1, iN2, iN3, iN4, iN5, run_eqInt, run_eqStr, run_intB, run_min, run_max, run_lenT, run_mt0, run_mt, run_pass, run_rt, run_drop, run_sif, run_gn, run_par, run_gsn, run_gsc, run_gsb, run_for, run_iR1, run_iR2, run_ret, run_new, run_C, run_var', run_gtp, run_lc, on_some, on_none, exists_eq_left, exists_eq_left', Option.some.injEq, D.bl.injEq, List.cons.injEq, D.int.injEq, D.loc.injEq, D.tup.injEq, and_true, true_and, startD, List.map_cons, List.map_nil, List.length_cons, List.length_nil, List.replicate, List.cons_append, List.nil_append, List.getElem?_cons_zero, List.getElem?_cons_succ, List.getElem?_nil, List.set_cons_zero, List.set_cons_succ, List.set_nil, Nat.add_zero, Nat.zero_add, Nat.reduceAdd, Nat.reduceSub]
  unfold pLand_mk_9
  rw [run_seq, run_sfld rfl rfl g2 (by simp)]
  have k3 : Kp p S (S2.set p (.ins 0 [("wide", .int L.w), ("high", .int L.h), ("day", .int L.day)])) := k2.set _
  have g3 := get_put (o := .ins 0 [("wide", .int L.w), ("high", .int L.h), ("day", .int L.day)]) g2
  show onSeq pLand_mk_8 _ (.nx _) (S2.set p (.ins 0 [("wide", .int L.w), ("high", .int L.h), ("day", .int L.day)]))
  generalize S2.set p (.ins 0 [("wide", .int L.w), ("high", .int L.h), ("day", .int L.day)]) = S3 at k3 g3 ⊢
  have H3 : Has p S3 [("wide", .int L.w), ("high", .int L.h), ("day", .int L.day)] := hasOf g3 rfl rfl rfl
  rw [seq_nx]
  -- the heights
  have step8 : ∀ S4, Kp p S S4 → S4[p]? = some (.ins 0 [("wide", .int L.w), ("high", .int L.h), ("day", .int L.day)]) → Run (pLand_mk_7 [some (.loc p), some (.int L.w), some (.int L.h), some (.int L.day), some (Hts L.hts), some (.tup (L.bar.map Rm.D)), some (.tup (L.ppl.map Rm.D)), some (.tup (L.pads.map Pd.D))]) S4 (onFn Q) := by
    intro S4 k4 g4
    unfold pLand_mk_7
    rw [run_seq, run_sfld rfl rfl g4 (by simp)]
    have k5 : Kp p S (S4.set p (.ins 0 [("wide", .int L.w), ("high", .int L.h), ("day", .int L.day), ("heights", Hts L.hts)])) := k4.set _
    have g5 := get_put (o := .ins 0 [("wide", .int L.w), ("high", .int L.h), ("day", .int L.day), ("heights", Hts L.hts)]) g4
    show onSeq pLand_mk_6 _ (.nx _) (S4.set p (.ins 0 [("wide", .int L.w), ("high", .int L.h), ("day", .int L.day), ("heights", Hts L.hts)]))
    generalize S4.set p (.ins 0 [("wide", .int L.w), ("high", .int L.h), ("day", .int L.day), ("heights", Hts L.hts)]) = S5 at k5 g5 ⊢
    have H5 : Has p S5 [("wide", .int L.w), ("high", .int L.h), ("day", .int L.day)] := hasOf g5 rfl rfl rfl
    rw [seq_nx]
    unfold pLand_mk_6
    simp only [fn_rt, fn_nx, seq_nx, seq_rt, seq_bk, seq_ct, turn_nx, turn_ct, turn_bk, turn_rt, run_fn, run_seq, run_asg, run_op, run_un, run_nil, run_cons, run_tup, run_lst, run_and, run_or, run_not, run_if, run_chain, run_call, run_callK, run_B, run_add, run_sub, run_lt, run_le, run_gt, run_ge, run_neg, run_mod, run_div, run_pow, run_mul, run_is, iN0, iN1, iN2, iN3, iN4, iN5, run_eqInt, run_eqStr, run_intB, run_min, run_max, run_lenT, run_mt0, run_mt, run_pass, run_rt, run_drop, run_sif, run_gn, run_par, run_gsn, run_gsc, run_gsb, run_for, run_iR1, run_iR2, run_ret, run_new, run_C, run_var', run_gtp, run_lc, on_some, on_none, exists_eq_left, exists_eq_left', Option.some.injEq, D.bl.injEq, List.cons.injEq, D.int.injEq, D.loc.injEq, D.tup.injEq, and_true, true_and, startD, List.map_cons, List.map_nil, List.length_cons, List.length_nil, List.replicate, List.cons_append, List.nil_append, List.getElem?_cons_zero, List.getElem?_cons_succ, List.getElem?_nil, List.set_cons_zero, List.set_cons_succ, List.set_nil, Nat.add_zero, Nat.zero_add, Nat.reduceAdd, Nat.reduceSub]
    refine rooms_ok H5 (by simp) (by simp) (by simp) ok.bar.1 ok.bar.2 fun S6 e6 => ?_
    have k6 := k5.gr e6
    have g6 := e6 _ _ g5
    refine ⟨true, rfl, ?_⟩
    simp only [Bool.not_true, Bool.false_eq_true, if_false, fn_rt, fn_nx, seq_nx, seq_rt, seq_bk, seq_ct, turn_nx, turn_ct, turn_bk, turn_rt, run_fn, run_seq, run_asg, run_op, run_un, run_nil, run_cons, run_tup, run_lst, run_and, run_or, run_not, run_if, run_chain, run_call, run_callK, run_B, run_add, run_sub, run_lt, run_le, run_gt, run_ge, run_neg, run_mod, run_div, run_pow, run_mul, run_is, iN0, iN1, iN2, iN3, iN4, iN5, run_eqInt, run_eqStr, run_intB, run_min, run_max, run_lenT, run_mt0, run_mt, run_pass, run_rt, run_drop, run_sif, run_gn, run_par, run_gsn, run_gsc, run_gsb, run_for, run_iR1, run_iR2, run_ret, run_new, run_C, run_var', run_gtp, run_lc, on_some, on_none, exists_eq_left, exists_eq_left', Option.some.injEq, D.bl.injEq, List.cons.injEq, D.int.injEq, D.loc.injEq, D.tup.injEq, and_true, true_and, startD, List.map_cons, List.map_nil, List.length_cons, List.length_nil, List.replicate, List.cons_append, List.nil_append, List.getElem?_cons_zero, List.getElem?_cons_succ, List.getElem?_nil, List.set_cons_zero, List.set_cons_succ, List.set_nil, Nat.add_zero, Nat.zero_add, Nat.reduceAdd, Nat.reduceSub]
    unfold pLand_mk_5
    rw [run_seq, run_sfld rfl rfl g6 (by simp)]
    have k7 : Kp p S (S6.set p (.ins 0 [("wide", .int L.w), ("high", .int L.h), ("day", .int L.day), ("heights", Hts L.hts), ("barred", .tup (L.bar.map Rm.D))])) := k6.set _
    have g7 := get_put (o := .ins 0 [("wide", .int L.w), ("high", .int L.h), ("day", .int L.day), ("heights", Hts L.hts), ("barred", .tup (L.bar.map Rm.D))]) g6
    show onSeq pLand_mk_4 _ (.nx _) (S6.set p (.ins 0 [("wide", .int L.w), ("high", .int L.h), ("day", .int L.day), ("heights", Hts L.hts), ("barred", .tup (L.bar.map Rm.D))]))
    generalize S6.set p (.ins 0 [("wide", .int L.w), ("high", .int L.h), ("day", .int L.day), ("heights", Hts L.hts), ("barred", .tup (L.bar.map Rm.D))]) = S7 at k7 g7 ⊢
    have H7 : Has p S7 [("wide", .int L.w), ("high", .int L.h), ("day", .int L.day)] := hasOf g7 rfl rfl rfl
    rw [seq_nx]
    unfold pLand_mk_4
    simp only [fn_rt, fn_nx, seq_nx, seq_rt, seq_bk, seq_ct, turn_nx, turn_ct, turn_bk, turn_rt, run_fn, run_seq, run_asg, run_op, run_un, run_nil, run_cons, run_tup, run_lst, run_and, run_or, run_not, run_if, run_chain, run_call, run_callK, run_B, run_add, run_sub, run_lt, run_le, run_gt, run_ge, run_neg, run_mod, run_div, run_pow, run_mul, run_is, iN0, iN1, iN2, iN3, iN4, iN5, run_eqInt, run_eqStr, run_intB, run_min, run_max, run_lenT, run_mt0, run_mt, run_pass, run_rt, run_drop, run_sif, run_gn, run_par, run_gsn, run_gsc, run_gsb, run_for, run_iR1, run_iR2, run_ret, run_new, run_C, run_var', run_gtp, run_lc, on_some, on_none, exists_eq_left, exists_eq_left', Option.some.injEq, D.bl.injEq, List.cons.injEq, D.int.injEq, D.loc.injEq, D.tup.injEq, and_true, true_and, startD, List.map_cons, List.map_nil, List.length_cons, List.length_nil, List.replicate, List.cons_append, List.nil_append, List.getElem?_cons_zero, List.getElem?_cons_succ, List.getElem?_nil, List.set_cons_zero, List.set_cons_succ, List.set_nil, Nat.add_zero, Nat.zero_add, Nat.reduceAdd, Nat.reduceSub]
    refine rooms_ok H7 (by simp) (by simp) (by simp) ok.ppl.1 ok.ppl.2 fun S8 e8 => ?_
    have k8 := k7.gr e8
    have g8 := e8 _ _ g7
    refine ⟨true, rfl, ?_⟩
    simp only [Bool.not_true, Bool.false_eq_true, if_false, fn_rt, fn_nx, seq_nx, seq_rt, seq_bk, seq_ct, turn_nx, turn_ct, turn_bk, turn_rt, run_fn, run_seq, run_asg, run_op, run_un, run_nil, run_cons, run_tup, run_lst, run_and, run_or, run_not, run_if, run_chain, run_call, run_callK, run_B, run_add, run_sub, run_lt, run_le, run_gt, run_ge, run_neg, run_mod, run_div, run_pow, run_mul, run_is, iN0, iN1, iN2, iN3, iN4, iN5, run_eqInt, run_eqStr, run_intB, run_min, run_max, run_lenT, run_mt0, run_mt, run_pass, run_rt, run_drop, run_sif, run_gn, run_par, run_gsn, run_gsc, run_gsb, run_for, run_iR1, run_iR2, run_ret, run_new, run_C, run_var', run_gtp, run_lc, on_some, on_none, exists_eq_left, exists_eq_left', Option.some.injEq, D.bl.injEq, List.cons.injEq, D.int.injEq, D.loc.injEq, D.tup.injEq, and_true, true_and, startD, List.map_cons, List.map_nil, List.length_cons, List.length_nil, List.replicate, List.cons_append, List.nil_append, List.getElem?_cons_zero, List.getElem?_cons_succ, List.getElem?_nil, List.set_cons_zero, List.set_cons_succ, List.set_nil, Nat.add_zero, Nat.zero_add, Nat.reduceAdd, Nat.reduceSub]
    unfold pLand_mk_3
    rw [run_seq, run_sfld rfl rfl g8 (by simp)]
    have k9 : Kp p S (S8.set p (.ins 0 [("wide", .int L.w), ("high", .int L.h), ("day", .int L.day), ("heights", Hts L.hts), ("barred", .tup (L.bar.map Rm.D)), ("people", .tup (L.ppl.map Rm.D))])) := k8.set _
    have g9 := get_put (o := .ins 0 [("wide", .int L.w), ("high", .int L.h), ("day", .int L.day), ("heights", Hts L.hts), ("barred", .tup (L.bar.map Rm.D)), ("people", .tup (L.ppl.map Rm.D))]) g8
    show onSeq pLand_mk_2 _ (.nx _) (S8.set p (.ins 0 [("wide", .int L.w), ("high", .int L.h), ("day", .int L.day), ("heights", Hts L.hts), ("barred", .tup (L.bar.map Rm.D)), ("people", .tup (L.ppl.map Rm.D))]))
    generalize S8.set p (.ins 0 [("wide", .int L.w), ("high", .int L.h), ("day", .int L.day), ("heights", Hts L.hts), ("barred", .tup (L.bar.map Rm.D)), ("people", .tup (L.ppl.map Rm.D))]) = S9 at k9 g9 ⊢
    have H9 : Has p S9 [("wide", .int L.w), ("high", .int L.h), ("day", .int L.day)] := hasOf g9 rfl rfl rfl
    rw [seq_nx]
    unfold pLand_mk_2
    simp only [fn_rt, fn_nx, seq_nx, seq_rt, seq_bk, seq_ct, turn_nx, turn_ct, turn_bk, turn_rt, run_fn, run_seq, run_asg, run_op, run_un, run_nil, run_cons, run_tup, run_lst, run_and, run_or, run_not, run_if, run_chain, run_call, run_callK, run_B, run_add, run_sub, run_lt, run_le, run_gt, run_ge, run_neg, run_mod, run_div, run_pow, run_mul, run_is, iN0, iN1, iN2, iN3, iN4, iN5, run_eqInt, run_eqStr, run_intB, run_min, run_max, run_lenT, run_mt0, run_mt, run_pass, run_rt, run_drop, run_sif, run_gn, run_par, run_gsn, run_gsc, run_gsb, run_for, run_iR1, run_iR2, run_ret, run_new, run_C, run_var', run_gtp, run_lc, on_some, on_none, exists_eq_left, exists_eq_left', Option.some.injEq, D.bl.injEq, List.cons.injEq, D.int.injEq, D.loc.injEq, D.tup.injEq, and_true, true_and, startD, List.map_cons, List.map_nil, List.length_cons, List.length_nil, List.replicate, List.cons_append, List.nil_append, List.getElem?_cons_zero, List.getElem?_cons_succ, List.getElem?_nil, List.set_cons_zero, List.set_cons_succ, List.set_nil, Nat.add_zero, Nat.zero_add, Nat.reduceAdd, Nat.reduceSub]
    refine pads_ok H9 (by simp) (by simp) ok.pads.1 ok.pads.2 ok.off fun Sa ea => ?_
    have ka := k9.gr ea
    have ga := ea _ _ g9
    refine ⟨true, rfl, ?_⟩
    simp only [Bool.not_true, Bool.false_eq_true, if_false, fn_rt, fn_nx, seq_nx, seq_rt, seq_bk, seq_ct, turn_nx, turn_ct, turn_bk, turn_rt, run_fn, run_seq, run_asg, run_op, run_un, run_nil, run_cons, run_tup, run_lst, run_and, run_or, run_not, run_if, run_chain, run_call, run_callK, run_B, run_add, run_sub, run_lt, run_le, run_gt, run_ge, run_neg, run_mod, run_div, run_pow, run_mul, run_is, iN0, iN1, iN2, iN3, iN4, iN5, run_eqInt, run_eqStr, run_intB, run_min, run_max, run_lenT, run_mt0, run_mt, run_pass, run_rt, run_drop, run_sif, run_gn, run_par, run_gsn, run_gsc, run_gsb, run_for, run_iR1, run_iR2, run_ret, run_new, run_C, run_var', run_gtp, run_lc, on_some, on_none, exists_eq_left, exists_eq_left', Option.some.injEq, D.bl.injEq, List.cons.injEq, D.int.injEq, D.loc.injEq, D.tup.injEq, and_true, true_and, startD, List.map_cons, List.map_nil, List.length_cons, List.length_nil, List.replicate, List.cons_append, List.nil_append, List.getElem?_cons_zero, List.getElem?_cons_succ, List.getElem?_nil, List.set_cons_zero, List.set_cons_succ, List.set_nil, Nat.add_zero, Nat.zero_add, Nat.reduceAdd, Nat.reduceSub]
    unfold pLand_mk_1
    rw [run_sfld rfl rfl ga (by simp), fn_nx]
    exact q _ (ka.set _) (get_put ga)
  unfold pLand_mk_8
  cases hh : L.hts with
  | none =>
    have := step8 S3 k3 g3
    simp only [hh, Hts] at this
    simp only [fn_rt, fn_nx, seq_nx, seq_rt, seq_bk, seq_ct, turn_nx, turn_ct, turn_bk, turn_rt, run_fn, run_seq, run_asg, run_op, run_un, run_nil, run_cons, run_tup, run_lst, run_and, run_or, run_not, run_if, run_chain, run_call, run_callK, run_B, run_add, run_sub, run_lt, run_le, run_gt, run_ge, run_neg, run_mod, run_div, run_pow, run_mul, run_is, iN0, iN1, iN2, iN3, iN4, iN5, run_eqInt, run_eqStr, run_intB, run_min, run_max, run_lenT, run_mt0, run_mt, run_pass, run_rt, run_drop, run_sif, run_gn, run_par, run_gsn, run_gsc, run_gsb, run_for, run_iR1, run_iR2, run_ret, run_new, run_C, run_var', run_gtp, run_lc, on_some, on_none, exists_eq_left, exists_eq_left', Option.some.injEq, D.bl.injEq, List.cons.injEq, D.int.injEq, D.loc.injEq, D.tup.injEq, and_true, true_and, startD, List.map_cons, List.map_nil, List.length_cons, List.length_nil, List.replicate, List.cons_append, List.nil_append, List.getElem?_cons_zero, List.getElem?_cons_succ, List.getElem?_nil, List.set_cons_zero, List.set_cons_succ, List.set_nil, Nat.add_zero, Nat.zero_add, Nat.reduceAdd, Nat.reduceSub, Hts]
    simpa [isN] using this
  | some rows =>
    have hok := ok.hts
    rw [hh] at hok
    have := step8
    simp only [hh, Hts] at this
    simp only [fn_rt, fn_nx, seq_nx, seq_rt, seq_bk, seq_ct, turn_nx, turn_ct, turn_bk, turn_rt, run_fn, run_seq, run_asg, run_op, run_un, run_nil, run_cons, run_tup, run_lst, run_and, run_or, run_not, run_if, run_chain, run_call, run_callK, run_B, run_add, run_sub, run_lt, run_le, run_gt, run_ge, run_neg, run_mod, run_div, run_pow, run_mul, run_is, iN0, iN1, iN2, iN3, iN4, iN5, run_eqInt, run_eqStr, run_intB, run_min, run_max, run_lenT, run_mt0, run_mt, run_pass, run_rt, run_drop, run_sif, run_gn, run_par, run_gsn, run_gsc, run_gsb, run_for, run_iR1, run_iR2, run_ret, run_new, run_C, run_var', run_gtp, run_lc, on_some, on_none, exists_eq_left, exists_eq_left', Option.some.injEq, D.bl.injEq, List.cons.injEq, D.int.injEq, D.loc.injEq, D.tup.injEq, and_true, true_and, startD, List.map_cons, List.map_nil, List.length_cons, List.length_nil, List.replicate, List.cons_append, List.nil_append, List.getElem?_cons_zero, List.getElem?_cons_succ, List.getElem?_nil, List.set_cons_zero, List.set_cons_succ, List.set_nil, Nat.add_zero, Nat.zero_add, Nat.reduceAdd, Nat.reduceSub, Hts]
    simp only [isN, Bool.not_false, Bool.false_eq_true, if_true, if_false, fn_rt, fn_nx, seq_nx, seq_rt, seq_bk, seq_ct, turn_nx, turn_ct, turn_bk, turn_rt, run_fn, run_seq, run_asg, run_op, run_un, run_nil, run_cons, run_tup, run_lst, run_and, run_or, run_not, run_if, run_chain, run_call, run_callK, run_B, run_add, run_sub, run_lt, run_le, run_gt, run_ge, run_neg, run_mod, run_div, run_pow, run_mul, run_is, iN0, iN1, iN2, iN3, iN4, iN5, run_eqInt, run_eqStr, run_intB, run_min, run_max, run_lenT, run_mt0, run_mt, run_pass, run_rt, run_drop, run_sif, run_gn, run_par, run_gsn, run_gsc, run_gsb, run_for, run_iR1, run_iR2, run_ret, run_new, run_C, run_var', run_gtp, run_lc, on_some, on_none, exists_eq_left, exists_eq_left', Option.some.injEq, D.bl.injEq, List.cons.injEq, D.int.injEq, D.loc.injEq, D.tup.injEq, and_true, true_and, startD, List.map_cons, List.map_nil, List.length_cons, List.length_nil, List.replicate, List.cons_append, List.nil_append, List.getElem?_cons_zero, List.getElem?_cons_succ, List.getElem?_nil, List.set_cons_zero, List.set_cons_succ, List.set_nil, Nat.add_zero, Nat.zero_add, Nat.reduceAdd, Nat.reduceSub]
    refine heights_ok H3 (by simp) (by simp) (by omega) (by omega) hok fun S4 e4 => ?_
    refine ⟨true, rfl, ?_⟩
    simp only [Bool.not_true, Bool.false_eq_true, if_false]
    exact this S4 (k3.gr e4) (e4 _ _ g3)
end
end Wwindfleet_k37_rooms_grown_and_clashing

end
section
set_option maxHeartbeats 4000000
/-! What a law draws: tasks, ways, flights; how they are written. -/
namespace Wwindfleet_k37_rooms_grown_and_clashing
open PySem Ev
open L2 (atI ixN Key)
/-! what can be written: no thing of the store in it, small -/
structure Sm (d : D) (k w : Nat) : Prop where
  ex : ∃ p, (∀ f, datW f d = some p) ∧ sm p = true ∧ p.depth ≤ k ∧ wt p ≤ w
structure SmL (ds : List D) (k w : Nat) : Prop where
  ex : ∃ ps, (∀ f, datWL f ds = some ps) ∧ smL ps = true ∧ PyData.depthAll ps ≤ k ∧ wtL ps ≤ w
theorem Sm.le {d : D} {k w w' : Nat} (h : Sm d k w) (e : w ≤ w') : Sm d k w' := by
  obtain ⟨p, h1, h2, h3, h4⟩ := h.ex
  exact ⟨p, h1, h2, h3, by omega⟩
theorem Sm.int {i : Int} {k : Nat} (h : -1000000 ≤ i ∧ i ≤ 1000000) : Sm (.int i) k 40 := ⟨.int i, fun _ => by simp [datW], by simp [sm]; omega, by simp [PyData.depth], by simp [wt]⟩
theorem Sm.non {k : Nat} : Sm .non k 0 := ⟨.none, fun _ => by simp [datW], by simp [sm], by simp [PyData.depth], by simp [wt]⟩
theorem Sm.bl {k : Nat} {b : Bool} : Sm (.bl b) k 0 := ⟨.bool b, fun _ => by simp [datW], by simp [sm], by simp [PyData.depth], by simp [wt]⟩
theorem Sm.str {s : Str} {k : Nat} (h1 : (s.cps.toList.all fun c => decide (c < 16 ^ 8)) = true) (h2 : s.cps.size ≤ 10) : Sm (.str s) k 10 := ⟨.str s, fun _ => by simp [datW], by simpa [sm] using h1, by simp [PyData.depth], by simpa [wt] using h2⟩
theorem Sm.tup {ds : List D} {k w : Nat} (h : SmL ds k w) : Sm (.tup ds) (k + 1) w := by
  obtain ⟨ps, h1, h2, h3, h4⟩ := h.ex
  exact ⟨.tuple ps, fun f => by simp [datW, h1 f], by simpa [sm] using h2, by simp [PyData.depth]; omega, by simpa [wt] using h4⟩
theorem SmL.nil {k : Nat} : SmL [] k 0 := ⟨[], fun _ => by simp [datWL], by simp [smL], by simp [PyData.depthAll], by simp [wtL]⟩
theorem SmL.cons {d : D} {ds : List D} {k w v : Nat} (h : Sm d k w) (hs : SmL ds k v) : SmL (d :: ds) k (w + 1 + v) := by
  obtain ⟨p, h1, h2, h3, h4⟩ := h.ex
  obtain ⟨ps, g1, g2, g3, g4⟩ := hs.ex
  exact ⟨p :: ps, fun f => by simp [datWL, h1 f, g1 f], by simp [smL, h2, g2], by simp [PyData.depthAll]; omega, by simp [wtL]; omega⟩
theorem SmL.all {k w : Nat} : ∀ {ds : List D}, (∀ d ∈ ds, Sm d k w) → SmL ds k (ds.length * (w + 1))
  | [], _ => by simpa using SmL.nil
  | d :: ds, h => by
    have := SmL.cons (h d (by simp)) (SmL.all (ds := ds) fun e he => h e (by simp [he]))
    have e : w + 1 + ds.length * (w + 1) = (d :: ds).length * (w + 1) := by rw [List.length_cons, Nat.succ_mul]; omega
    rwa [e] at this
theorem SmL.le {ds : List D} {k w w' : Nat} (h : SmL ds k w) (e : w ≤ w') : SmL ds k w' := by
  obtain ⟨p, h1, h2, h3, h4⟩ := h.ex
  exact ⟨p, h1, h2, h3, by omega⟩
/-- its text -/
noncomputable def shw (d : D) : Str := (match datW (fun _ => none) d with | some p => p.shown | none => Str.empty)
section
variable {S : Sto} {Q : D → Sto → Prop} {d : D} {k w : Nat}
theorem Sm.repr (h : Sm d k w) (hk : k ≤ 100) (hw : w ≤ 1000000) : Run (bRepr [d]) S Q ↔ Q (.str (shw d)) S := by
  obtain ⟨p, h1, h2, h3, h4⟩ := h.ex
  have e : shw d = p.shown := by unfold shw; rw [h1]
  rw [e]
  exact run_reprS (h1 _) h2 (by omega) (by omega)
theorem SmL.repr {ds : List D} {n : Nat} (h : SmL ds k w) (hk : k ≤ 99) (hw : w ≤ 1000000) (hn : S[n]? = some (.lst ds)) : Run (bRepr [.loc n]) S Q ↔ Q (.str (shw (.sq ds))) S := by
  obtain ⟨ps, h1, h2, h3, h4⟩ := h.ex
  have e : shw (.sq ds) = (PyData.list ps).shown := by unfold shw; simp only [datW, h1, Option.map_some]
  rw [e]
  refine run_reprS (p := .list ps) ?_ (by simpa [sm] using h2) (by simp [PyData.depth]; omega) (by simp [wt]; omega)
  simp only [dat, datW, datN, hn, h1, Option.map_some]
end
theorem ag : ((Str.ofString "aim") = (Str.ofString "go")) = False := eq_false (by decide +kernel)
theorem ga : ((Str.ofString "go") = (Str.ofString "aim")) = False := eq_false (by decide +kernel)
theorem ah : ((Str.ofString "aim") = (Str.ofString "home")) = False := eq_false (by decide +kernel)
theorem gh : ((Str.ofString "go") = (Str.ofString "home")) = False := eq_false (by decide +kernel)
theorem ha : ((Str.ofString "home") = (Str.ofString "aim")) = False := eq_false (by decide +kernel)
theorem hg : ((Str.ofString "home") = (Str.ofString "go")) = False := eq_false (by decide +kernel)
theorem hs : ((Str.ofString "home") = (Str.ofString "stand")) = False := eq_false (by decide +kernel)
theorem as_ : ((Str.ofString "aim") = (Str.ofString "stand")) = False := eq_false (by decide +kernel)
theorem gs : ((Str.ofString "go") = (Str.ofString "stand")) = False := eq_false (by decide +kernel)
theorem sa : ((Str.ofString "stand") = (Str.ofString "aim")) = False := eq_false (by decide +kernel)
theorem sg : ((Str.ofString "stand") = (Str.ofString "go")) = False := eq_false (by decide +kernel)
theorem sh : ((Str.ofString "stand") = (Str.ofString "home")) = False := eq_false (by decide +kernel)
theorem lb : ((Str.ofString "look") = (Str.ofString "bring")) = False := eq_false (by decide +kernel)
theorem lo : ((Str.ofString "look") = (Str.ofString "over")) = False := eq_false (by decide +kernel)
theorem bl : ((Str.ofString "bring") = (Str.ofString "look")) = False := eq_false (by decide +kernel)
theorem bo : ((Str.ofString "bring") = (Str.ofString "over")) = False := eq_false (by decide +kernel)
theorem ol : ((Str.ofString "over") = (Str.ofString "look")) = False := eq_false (by decide +kernel)
theorem ob : ((Str.ofString "over") = (Str.ofString "bring")) = False := eq_false (by decide +kernel)
theorem smS {k : Nat} : Sm (.str "look") k 10 ∧ Sm (.str "bring") k 10 ∧ Sm (.str "over") k 10 ∧ Sm (.str "aim") k 10 ∧ Sm (.str "go") k 10 ∧ Sm (.str "stand") k 10 ∧ Sm (.str "home") k 10 :=
  ⟨Sm.str (by decide +kernel) (by decide +kernel), Sm.str (by decide +kernel) (by decide +kernel), Sm.str (by decide +kernel) (by decide +kernel), Sm.str (by decide +kernel) (by decide +kernel), Sm.str (by decide +kernel) (by decide +kernel), Sm.str (by decide +kernel) (by decide +kernel), Sm.str (by decide +kernel) (by decide +kernel)⟩
structure Bx where
  a : Int
  b : Int
  c : Int
  d : Int
def Bx.D (k : Bx) : D := .tup [.int k.a, .int k.b, .int k.c, .int k.d]
def Bx.ok (w h : Int) (k : Bx) : Prop := Bok w h k.a k.b k.c k.d
inductive Tk where
  | non | look (k : Bx) (f l : Int) | bring (k o : Bx) (w f l : Int) | over (k : Bx) (m f l : Int)
def Tk.D : Tk → D
  | .non => .non
  | .look k f l => .tup [.str "look", k.D, .int f, .int l]
  | .bring k o w f l => .tup [.str "bring", k.D, o.D, .int w, .int f, .int l]
  | .over k m f l => .tup [.str "over", k.D, .int m, .int f, .int l]
def Tk.last : Tk → Int
  | .non => 0
  | .look _ _ _ => 1
  | .bring _ _ _ _ _ => 2
  | .over _ m _ _ => m
def Hrs (day f l : Int) : Prop := 0 ≤ f ∧ f ≤ l ∧ l ≤ day
def Tk.ok (w h day : Int) : Tk → Prop
  | .non => True
  | .look k f l => k.ok w h ∧ Hrs day f l
  | .bring k o v f l => k.ok w h ∧ o.ok w h ∧ (0 ≤ v ∧ v ≤ 9) ∧ Hrs day f l
  | .over k m f l => k.ok w h ∧ (1 ≤ m ∧ m ≤ 3) ∧ Hrs day f l
theorem last_rng (t : Tk) {w h day : Int} (ok : t.ok w h day) : 0 ≤ t.last ∧ t.last ≤ 3 := by
  cases t with
  | over k m f l => exact ⟨by have := ok.2.1.1; simp only [Tk.last]; omega, ok.2.1.2⟩
  | _ => simp [Tk.last]
theorem Bx.sm {k : Bx} {w h : Int} (ok : k.ok w h) (hw : w ≤ 12) (hh : h ≤ 12) : Sm k.D 1 164 := by
  obtain ⟨⟨h1, h2, h3⟩, h4, h5, h6⟩ := ok
  exact Sm.tup (.cons (.int (by omega)) (.cons (.int (by omega)) (.cons (.int (by omega)) (.cons (.int (by omega)) .nil))))
theorem Tk.sm (t : Tk) {w h day : Int} (ok : t.ok w h day) (hw : w ≤ 12) (hh : h ≤ 12) (hd : day ≤ 24) : Sm t.D 2 1000 := by
  cases t with
  | non => exact Sm.le Sm.non (by omega)
  | look k f l =>
    obtain ⟨o1, o2, o3, o4⟩ := ok
    exact Sm.le (Sm.tup (.cons smS.1 (.cons (Bx.sm o1 hw hh) (.cons (.int (by omega)) (.cons (.int (by omega)) .nil))))) (by omega)
  | bring k o v f l =>
    obtain ⟨o1, o5, o6, o2, o3, o4⟩ := ok
    exact Sm.le (Sm.tup (.cons smS.2.1 (.cons (Bx.sm o1 hw hh) (.cons (Bx.sm o5 hw hh) (.cons (.int (by omega)) (.cons (.int (by omega)) (.cons (.int (by omega)) .nil))))))) (by omega)
  | over k m f l =>
    obtain ⟨o1, o6, o2, o3, o4⟩ := ok
    exact Sm.le (Sm.tup (.cons smS.2.2.1 (.cons (Bx.sm o1 hw hh) (.cons (.int (by omega)) (.cons (.int (by omega)) (.cons (.int (by omega)) .nil)))))) (by omega)
inductive Rw where
  | go (a b : Int) | aim (a b : Int) | stand | home
def Rw.D : Rw → D
  | .go a b => .tup [.str "go", .int a, .int b]
  | .aim a b => .tup [.str "aim", .int a, .int b]
  | .stand => .tup [.str "stand"]
  | .home => .tup [.str "home"]
def Rw.ok (w h : Int) : Rw → Prop
  | .go a b => (-2 ≤ a ∧ a ≤ 2) ∧ (-2 ≤ b ∧ b ≤ 2)
  | .aim a b => (0 ≤ a ∧ a < w) ∧ (0 ≤ b ∧ b < h)
  | .stand => True
  | .home => True
theorem Rw.sm (r : Rw) {w h : Int} (ok : r.ok w h) (hw : w ≤ 12) (hh : h ≤ 12) : Sm r.D 1 100 := by
  cases r with
  | go a b =>
    obtain ⟨o1, o2⟩ := ok
    exact Sm.le (Sm.tup (.cons smS.2.2.2.2.1 (.cons (.int (by omega)) (.cons (.int (by omega)) .nil)))) (by omega)
  | aim a b =>
    obtain ⟨o1, o2⟩ := ok
    exact Sm.le (Sm.tup (.cons smS.2.2.2.1 (.cons (.int (by omega)) (.cons (.int (by omega)) .nil)))) (by omega)
  | stand => exact Sm.le (Sm.tup (.cons smS.2.2.2.2.2.1 .nil)) (by omega)
  | home => exact Sm.le (Sm.tup (.cons smS.2.2.2.2.2.2 .nil)) (by omega)
structure Fl where
  r : Int
  cl : Int
  cap : Int
  use : Int
  x : Int
  y : Int
  s : Int
  q : Int
  way : List Rw
  tk : Tk
  home : Nat
def Fl.D (f : Fl) : D := .tup [.tup [.int f.r, .int f.cl, .int f.cap, .int f.use], .tup [.int f.x, .int f.y, .int f.s, .int f.q], .tup (f.way.map Rw.D), f.tk.D, .int f.home]
structure Fl.Ok (L : Lnd) (f : Fl) : Prop where
  r : 0 ≤ f.r ∧ f.r ≤ 2
  cl : 0 ≤ f.cl ∧ f.cl ≤ 9
  cap : 1 ≤ f.cap ∧ f.cap ≤ 99
  use : 1 ≤ f.use ∧ f.use ≤ 9
  x : 0 ≤ f.x ∧ f.x < L.w
  y : 0 ≤ f.y ∧ f.y < L.h
  s : 0 ≤ f.s ∧ f.s ≤ f.tk.last
  q : 0 ≤ f.q ∧ f.q ≤ f.cap
  wl : (f.way.length : Int) ≤ L.day
  way : ∀ r ∈ f.way, Rw.ok L.w L.h r
  tk : f.tk.ok L.w L.h L.day
  home : f.home < L.pads.length
theorem Fl.sm {L : Lnd} (hL : L.Ok) {f : Fl} (ok : f.Ok L) : Sm f.D 3 10000 := by
  obtain ⟨w1, w2⟩ := hL.w
  obtain ⟨h1, h2⟩ := hL.h
  obtain ⟨d1, d2⟩ := hL.day
  obtain ⟨o1, o2, o3, o4, o5, o6, o7, o8, o9, oa, ob, oc⟩ := ok
  have lr := last_rng _ ob
  have op := hL.pads.1
  have ow : SmL (f.way.map Rw.D) 1 (24 * 101) := by
    refine SmL.le (SmL.all (w := 100) (k := 1) ?_) ?_
    · intro d hd
      simp only [List.mem_map] at hd
      obtain ⟨r, hr, rfl⟩ := hd
      exact Rw.sm r (oa r hr) w2 h2
    · rw [List.length_map]; exact Nat.mul_le_mul_right _ (by omega)
  refine Sm.le (Sm.tup (.cons (Sm.tup (.cons (.int ?_) (.cons (.int ?_) (.cons (.int ?_) (.cons (.int ?_) .nil))))) (.cons (Sm.tup (.cons (.int ?_) (.cons (.int ?_) (.cons (.int ?_) (.cons (.int ?_) .nil))))) (.cons (Sm.tup ow) (.cons (Tk.sm _ ob w2 h2 d2) (.cons (.int ?_) .nil)))))) (by omega) <;> omega
end Wwindfleet_k37_rooms_grown_and_clashing

end
section
set_option maxHeartbeats 4000000
/-! Rooms grown, and rooms that clash. -/
namespace Wwindfleet_k37_rooms_grown_and_clashing
open PySem Ev
open L2 (atI ixN Key)
theorem draw_eq : p_law_draw = pDraw := rfl
theorem deck_eq : p_law_deck = pDeck := rfl
theorem pick_eq : p_law_pick = pPick := rfl
theorem bounds_eq : p_law_bounds = pBounds := rfl
def mx (a b : Int) : Int := if b > a then b else a
def mn (a b : Int) : Int := if b < a then b else a
def Rm.grow (w h m : Int) (r : Rm) : Rm := ⟨mx 0 (r.a - m), mx 0 (r.b - m), mn (w - 1) (r.c + m), mn (h - 1) (r.d + m), r.f, r.l⟩
def Rm.clash (r s : Rm) : Bool := decide (r.a ≤ s.c ∧ s.a ≤ r.c ∧ r.b ≤ s.d ∧ s.b ≤ r.d ∧ r.f ≤ s.l ∧ s.f ≤ r.l)
def mx3 (a b c : Int) : Int := if c > (if b > a then b else a) then c else (if b > a then b else a)
theorem mx3_le {a b c m : Int} : mx3 a b c ≤ m ↔ a ≤ m ∧ b ≤ m ∧ c ≤ m := by
  unfold mx3
  split <;> split <;> omega
theorem rng_map (lo : Int) (n : Nat) : rng lo n = (List.range n).map fun (k : Nat) => D.int (lo + (k : Int)) := rfl
/-- those of a range between two bounds -/
theorem between (lo hi : Nat) : ∀ n : Nat, (List.range n).filter (fun k => decide (lo ≤ k ∧ k ≤ hi)) = List.range' lo (min n (hi + 1) - lo)
  | 0 => by simp
  | n + 1 => by
    rw [List.range_succ, List.filter_append, between lo hi n]
    by_cases h : lo ≤ n ∧ n ≤ hi
    · have e : min (n + 1) (hi + 1) - lo = (min n (hi + 1) - lo) + 1 := by omega
      rw [e, List.range'_1_concat]
      simp only [List.filter_cons, h, and_self, decide_true, if_true, List.filter_nil]
      congr 2
      omega
    · have e : min (n + 1) (hi + 1) - lo = min n (hi + 1) - lo := by omega
      rw [e]
      simp only [List.filter_cons, h, decide_false, Bool.false_eq_true, if_false, List.filter_nil, List.append_nil]
section
variable {S : Sto} {Q : D → Sto → Prop} {R : Out → Sto → Prop} {env : DEnv} {n c d l : Nat} {L : Lnd} {m x y : Int} {r s : Rm}
theorem run_max3' {a b c : Int} : Run (bMax3 [.int a, .int b, .int c]) S Q ↔ Q (.int (mx3 a b c)) S := run_some rfl
theorem run_loopC1 {it : Its} {g : MG} {te : ME} {α : Type} (xs : List α) (f : α → D) (h : α → D) (hg : Gd it S = true) (hs : ∀ a ∈ xs, ∀ (G : D → Sto → Prop), G (h a) S → Run (g (f a) env) S fun e1 S2 => Run (te e1) S2 G) {G : List D → Sto → Prop} (q : G (xs.map h) S) :
    Run (loopC it g (mC (.bl true)) te env (xs.map f)) S G := by
  refine run_loopC (acc := []) (fun ys as S1 => S1 = S ∧ ∃ zs ws : List α, xs = ws ++ zs ∧ ys = zs.map f ∧ as = ws.map h) ⟨rfl, xs, [], rfl, rfl, rfl⟩ (fun _ _ _ z => by rw [z.1]; exact hg) ?_ ?_ (fun ys as S1 _ => ⟨as, by simp⟩)
  · rintro y ys as S1 ⟨rfl, zs, ws, ex, ey, rfl⟩
    cases zs with
    | nil => cases ey
    | cons z zs =>
      cases ey
      refine (hs z (by rw [ex]; simp) (fun d S4 => S4 = S1 ∧ ∃ zs' ws' : List α, xs = ws' ++ zs' ∧ zs.map f = zs'.map f ∧ ws.map h ++ [d] = ws'.map h) ⟨rfl, zs, ws ++ [z], by rw [ex]; simp, rfl, by simp⟩).mono fun e1 S2 hh => ?_
      rw [run_C]
      exact ⟨true, rfl, by rw [if_pos rfl]; exact hh⟩
  · rintro as S1 ⟨rfl, zs, ws, ex, ey, rfl⟩
    cases zs with
    | nil =>
      rw [List.append_nil] at ex
      subst ex
      exact ⟨_, by simp, q⟩
    | cons z zs => cases ey
/-- a comprehension that keeps some, and changes nothing -/
theorem run_loopF {it : Its} {g : MG} {tt te : ME} {α : Type} (xs : List α) (f : α → D) (p : α → Bool) (h : α → D) (hg : Gd it S = true) (hs : ∀ a ∈ xs, ∀ (G : D → Sto → Prop) , (p a = true → G (h a) S) → Run (g (f a) env) S fun e1 S2 => Run (tt e1) S2 fun b S3 => b = .bl (p a) ∧ S3 = S ∧ (p a = true → Run (te e1) S3 G)) {G : List D → Sto → Prop} (q : G ((xs.filter p).map h) S) :
    Run (loopC it g tt te env (xs.map f)) S G := by
  refine run_loopC (acc := []) (fun ys as S1 => S1 = S ∧ ∃ zs ws : List α, xs = ws ++ zs ∧ ys = zs.map f ∧ as = (ws.filter p).map h) ⟨rfl, xs, [], rfl, rfl, rfl⟩ (fun _ _ _ z => by rw [z.1]; exact hg) ?_ ?_ (fun ys as S1 _ => ⟨as, by simp⟩)
  · rintro y ys as S1 ⟨rfl, zs, ws, ex, ey, rfl⟩
    cases zs with
    | nil => cases ey
    | cons z zs =>
      cases ey
      refine (hs z (by rw [ex]; simp) (fun d S4 => S4 = S1 ∧ ∃ zs' ws' : List α, xs = ws' ++ zs' ∧ zs.map f = zs'.map f ∧ (ws.filter p).map h ++ [d] = (ws'.filter p).map h) (fun hp => ⟨rfl, zs, ws ++ [z], by rw [ex]; simp, rfl, by simp [hp]⟩)).mono fun e1 S2 hh => ?_
      refine hh.mono fun b S3 ⟨hb, e3, ht⟩ => ?_
      subst hb e3
      refine ⟨_, rfl, ?_⟩
      cases hp : p z with
      | true => rw [if_pos rfl]; exact ht hp
      | false => rw [if_neg Bool.false_ne_true]; exact ⟨rfl, zs, ws ++ [z], by rw [ex]; simp, rfl, by simp [hp]⟩
  · rintro as S1 ⟨rfl, zs, ws, ex, ey, rfl⟩
    cases zs with
    | nil =>
      rw [List.append_nil] at ex
      subst ex
      exact ⟨_, by simp, q⟩
    | cons z zs => cases ey
theorem fldW {k : Nat} (hl : LandAt l L S) (he : env[k]? = some (some (.loc l))) : Run (mFld 0 "wide" (mVar k) env) S Q ↔ Q (.int L.w) S := run_fldV he hl rfl
theorem fldH {k : Nat} (hl : LandAt l L S) (he : env[k]? = some (some (.loc l))) : Run (mFld 0 "high" (mVar k) env) S Q ↔ Q (.int L.h) S := run_fldV he hl rfl
theorem groom_run (hl : LandAt l L S) (q : Q (r.grow L.w L.h m).D S) : Run (pgrown_room [.loc l, r.D, .int m]) S Q := by
  unfold pgrown_room
  simp only [fn_rt, fn_nx, seq_nx, seq_rt, seq_bk, seq_ct, turn_nx, turn_ct, turn_bk, turn_rt, run_fn, run_seq, run_asg, run_op, run_un, run_nil, run_cons, run_tup, run_lst, run_and, run_or, run_not, run_if, run_chain, run_call, run_callK, run_B, run_add, run_sub, run_lt, run_le, run_gt, run_ge, run_neg, run_mod, run_div, run_pow, run_mul, run_is, iN0, iN1, iN2, iN3, iN4, iN5, run_eqInt, run_eqStr, run_intB, run_min, run_max, run_lenT, run_mt0, run_mt, run_pass, run_rt, run_drop, run_sif, run_gn, run_par, run_gsn, run_gsc, run_gsb, run_for, run_iR1, run_iR2, run_ret, run_new, run_C, run_var', run_gtp, run_lc, on_some, on_none, exists_eq_left, exists_eq_left', Option.some.injEq, D.bl.injEq, List.cons.injEq, D.int.injEq, D.loc.injEq, D.tup.injEq, and_true, true_and, startD, List.map_cons, List.map_nil, List.length_cons, List.length_nil, List.replicate, List.cons_append, List.nil_append, List.getElem?_cons_zero, List.getElem?_cons_succ, List.getElem?_nil, List.set_cons_zero, List.set_cons_succ, List.set_nil, Nat.add_zero, Nat.zero_add, Nat.reduceAdd, Nat.reduceSub, Rm.D]
  unfold pgrown_room_2
  simp only [fn_rt, fn_nx, seq_nx, seq_rt, seq_bk, seq_ct, turn_nx, turn_ct, turn_bk, turn_rt, run_fn, run_seq, run_asg, run_op, run_un, run_nil, run_cons, run_tup, run_lst, run_and, run_or, run_not, run_if, run_chain, run_call, run_callK, run_B, run_add, run_sub, run_lt, run_le, run_gt, run_ge, run_neg, run_mod, run_div, run_pow, run_mul, run_is, iN0, iN1, iN2, iN3, iN4, iN5, run_eqInt, run_eqStr, run_intB, run_min, run_max, run_lenT, run_mt0, run_mt, run_pass, run_rt, run_drop, run_sif, run_gn, run_par, run_gsn, run_gsc, run_gsb, run_for, run_iR1, run_iR2, run_ret, run_new, run_C, run_var', run_gtp, run_lc, on_some, on_none, exists_eq_left, exists_eq_left', Option.some.injEq, D.bl.injEq, List.cons.injEq, D.int.injEq, D.loc.injEq, D.tup.injEq, and_true, true_and, startD, List.map_cons, List.map_nil, List.length_cons, List.length_nil, List.replicate, List.cons_append, List.nil_append, List.getElem?_cons_zero, List.getElem?_cons_succ, List.getElem?_nil, List.set_cons_zero, List.set_cons_succ, List.set_nil, Nat.add_zero, Nat.zero_add, Nat.reduceAdd, Nat.reduceSub]
  rw [fldW hl rfl]
  simp only [fn_rt, fn_nx, seq_nx, seq_rt, seq_bk, seq_ct, turn_nx, turn_ct, turn_bk, turn_rt, run_fn, run_seq, run_asg, run_op, run_un, run_nil, run_cons, run_tup, run_lst, run_and, run_or, run_not, run_if, run_chain, run_call, run_callK, run_B, run_add, run_sub, run_lt, run_le, run_gt, run_ge, run_neg, run_mod, run_div, run_pow, run_mul, run_is, iN0, iN1, iN2, iN3, iN4, iN5, run_eqInt, run_eqStr, run_intB, run_min, run_max, run_lenT, run_mt0, run_mt, run_pass, run_rt, run_drop, run_sif, run_gn, run_par, run_gsn, run_gsc, run_gsb, run_for, run_iR1, run_iR2, run_ret, run_new, run_C, run_var', run_gtp, run_lc, on_some, on_none, exists_eq_left, exists_eq_left', Option.some.injEq, D.bl.injEq, List.cons.injEq, D.int.injEq, D.loc.injEq, D.tup.injEq, and_true, true_and, startD, List.map_cons, List.map_nil, List.length_cons, List.length_nil, List.replicate, List.cons_append, List.nil_append, List.getElem?_cons_zero, List.getElem?_cons_succ, List.getElem?_nil, List.set_cons_zero, List.set_cons_succ, List.set_nil, Nat.add_zero, Nat.zero_add, Nat.reduceAdd, Nat.reduceSub]
  refine ⟨_, _, ⟨rfl, rfl⟩, ?_⟩
  unfold pgrown_room_1
  simp only [fn_rt, fn_nx, seq_nx, seq_rt, seq_bk, seq_ct, turn_nx, turn_ct, turn_bk, turn_rt, run_fn, run_seq, run_asg, run_op, run_un, run_nil, run_cons, run_tup, run_lst, run_and, run_or, run_not, run_if, run_chain, run_call, run_callK, run_B, run_add, run_sub, run_lt, run_le, run_gt, run_ge, run_neg, run_mod, run_div, run_pow, run_mul, run_is, iN0, iN1, iN2, iN3, iN4, iN5, run_eqInt, run_eqStr, run_intB, run_min, run_max, run_lenT, run_mt0, run_mt, run_pass, run_rt, run_drop, run_sif, run_gn, run_par, run_gsn, run_gsc, run_gsb, run_for, run_iR1, run_iR2, run_ret, run_new, run_C, run_var', run_gtp, run_lc, on_some, on_none, exists_eq_left, exists_eq_left', Option.some.injEq, D.bl.injEq, List.cons.injEq, D.int.injEq, D.loc.injEq, D.tup.injEq, and_true, true_and, startD, List.map_cons, List.map_nil, List.length_cons, List.length_nil, List.replicate, List.cons_append, List.nil_append, List.getElem?_cons_zero, List.getElem?_cons_succ, List.getElem?_nil, List.set_cons_zero, List.set_cons_succ, List.set_nil, Nat.add_zero, Nat.zero_add, Nat.reduceAdd, Nat.reduceSub]
  rw [fldH hl rfl]
  simp only [fn_rt, fn_nx, seq_nx, seq_rt, seq_bk, seq_ct, turn_nx, turn_ct, turn_bk, turn_rt, run_fn, run_seq, run_asg, run_op, run_un, run_nil, run_cons, run_tup, run_lst, run_and, run_or, run_not, run_if, run_chain, run_call, run_callK, run_B, run_add, run_sub, run_lt, run_le, run_gt, run_ge, run_neg, run_mod, run_div, run_pow, run_mul, run_is, iN0, iN1, iN2, iN3, iN4, iN5, run_eqInt, run_eqStr, run_intB, run_min, run_max, run_lenT, run_mt0, run_mt, run_pass, run_rt, run_drop, run_sif, run_gn, run_par, run_gsn, run_gsc, run_gsb, run_for, run_iR1, run_iR2, run_ret, run_new, run_C, run_var', run_gtp, run_lc, on_some, on_none, exists_eq_left, exists_eq_left', Option.some.injEq, D.bl.injEq, List.cons.injEq, D.int.injEq, D.loc.injEq, D.tup.injEq, and_true, true_and, startD, List.map_cons, List.map_nil, List.length_cons, List.length_nil, List.replicate, List.cons_append, List.nil_append, List.getElem?_cons_zero, List.getElem?_cons_succ, List.getElem?_nil, List.set_cons_zero, List.set_cons_succ, List.set_nil, Nat.add_zero, Nat.zero_add, Nat.reduceAdd, Nat.reduceSub]
  exact q
theorem clash_run : Run (pdo_clash [r.D, s.D]) S Q ↔ Q (.bl (r.clash s)) S := by
  unfold pdo_clash
  simp only [fn_rt, fn_nx, seq_nx, seq_rt, seq_bk, seq_ct, turn_nx, turn_ct, turn_bk, turn_rt, run_fn, run_seq, run_asg, run_op, run_un, run_nil, run_cons, run_tup, run_lst, run_and, run_or, run_not, run_if, run_chain, run_call, run_callK, run_B, run_add, run_sub, run_lt, run_le, run_gt, run_ge, run_neg, run_mod, run_div, run_pow, run_mul, run_is, iN0, iN1, iN2, iN3, iN4, iN5, run_eqInt, run_eqStr, run_intB, run_min, run_max, run_lenT, run_mt0, run_mt, run_pass, run_rt, run_drop, run_sif, run_gn, run_par, run_gsn, run_gsc, run_gsb, run_for, run_iR1, run_iR2, run_ret, run_new, run_C, run_var', run_gtp, run_lc, on_some, on_none, exists_eq_left, exists_eq_left', Option.some.injEq, D.bl.injEq, List.cons.injEq, D.int.injEq, D.loc.injEq, D.tup.injEq, and_true, true_and, startD, List.map_cons, List.map_nil, List.length_cons, List.length_nil, List.replicate, List.cons_append, List.nil_append, List.getElem?_cons_zero, List.getElem?_cons_succ, List.getElem?_nil, List.set_cons_zero, List.set_cons_succ, List.set_nil, Nat.add_zero, Nat.zero_add, Nat.reduceAdd, Nat.reduceSub, run_sl, run_pNo, run_pS, Rm.D, sl6, meet_iff, run_ixM, at4, at5]
  unfold Rm.clash
  by_cases h1 : r.a ≤ s.c ∧ s.a ≤ r.c ∧ r.b ≤ s.d ∧ s.b ≤ r.d
  · obtain ⟨a1, a2, a3, a4⟩ := h1
    by_cases h2 : r.f ≤ s.l <;> simp [a1, a2, a3, a4, h2]
  · have : ¬ (r.a ≤ s.c ∧ s.a ≤ r.c ∧ r.b ≤ s.d ∧ s.b ≤ r.d ∧ r.f ≤ s.l ∧ s.f ≤ r.l) := fun z => h1 ⟨z.1, z.2.1, z.2.2.1, z.2.2.2.1⟩
    simp [h1, this]
theorem grown_run {rs : List Rm} (hl : LandAt l L S) (hn : rs.length ≤ 1000) (q : ∀ S', Gr S S' → Q (.tup ((rs.map (Rm.grow L.w L.h m)).map Rm.D)) S') : Run (pgrown [.loc l, .tup (rs.map Rm.D), .int m]) S Q := by
  have sz : (sizeLine : Nat) = 16777216 := sizeLine_eq
  unfold pgrown
  rw [run_fn, run_rt, run_B, run_cons, run_lc, run_iV]
  simp only [startD, List.map_cons, List.map_nil, List.length_cons, List.length_nil, List.replicate, List.cons_append, List.nil_append, List.getElem?_cons_zero, List.getElem?_cons_succ, List.getElem?_nil, List.set_cons_zero, List.set_cons_succ, List.set_nil, Nat.add_zero, Nat.zero_add, Nat.reduceAdd, Nat.reduceSub]
  refine (run_var rfl).mpr ?_
  rw [run_iVT]
  refine run_loopC1 rs _ (fun r => (r.grow L.w L.h m).D) Gd.none ?_ ?_
  · intro r _ G g
    simp only [fn_rt, fn_nx, seq_nx, seq_rt, seq_bk, seq_ct, turn_nx, turn_ct, turn_bk, turn_rt, run_fn, run_seq, run_asg, run_op, run_un, run_nil, run_cons, run_tup, run_lst, run_and, run_or, run_not, run_if, run_chain, run_call, run_callK, run_B, run_add, run_sub, run_lt, run_le, run_gt, run_ge, run_neg, run_mod, run_div, run_pow, run_mul, run_is, iN0, iN1, iN2, iN3, iN4, iN5, run_eqInt, run_eqStr, run_intB, run_min, run_max, run_lenT, run_mt0, run_mt, run_pass, run_rt, run_drop, run_sif, run_gn, run_par, run_gsn, run_gsc, run_gsb, run_for, run_iR1, run_iR2, run_ret, run_new, run_C, run_var', run_gtp, run_lc, on_some, on_none, exists_eq_left, exists_eq_left', Option.some.injEq, D.bl.injEq, List.cons.injEq, D.int.injEq, D.loc.injEq, D.tup.injEq, and_true, true_and, wipeD, startD, List.map_cons, List.map_nil, List.length_cons, List.length_nil, List.replicate, List.cons_append, List.nil_append, List.getElem?_cons_zero, List.getElem?_cons_succ, List.getElem?_nil, List.set_cons_zero, List.set_cons_succ, List.set_nil, Nat.add_zero, Nat.zero_add, Nat.reduceAdd, Nat.reduceSub]
    exact groom_run hl g
  · refine ⟨by simp; omega, ?_⟩
    rw [run_nil]
    refine (run_tupleL get_new).mpr ?_
    rw [fn_rt]
    have := q _ (Gr.app S (.lst (rs.map fun r => (r.grow L.w L.h m).D)))
    rw [List.map_map] at this
    exact this
end
end Wwindfleet_k37_rooms_grown_and_clashing

end
section
set_option maxHeartbeats 4000000
/-! The law's own hand. -/
namespace Wwindfleet_k37_rooms_grown_and_clashing
open PySem Ev
open L2 (atI ixN Key)
theorem at_last {xs : List D} {d : D} : atI (xs ++ [d]) (-1) = some d := by
  have h : ixN (xs ++ [d]).length (-1) = some xs.length := by
    unfold L2.ixN
    simp
    omega
  unfold L2.atI
  rw [h]
  simp
def crs (w a c m : Int) : List Int := ((List.range w.toNat).filter (fun (k : Nat) => decide (mx3 (a - (0 + (k : Int))) 0 ((0 + (k : Int)) - c) ≤ m))).map fun (k : Nat) => 0 + (k : Int)
theorem crs_eq {w a c m : Int} (ha : 0 ≤ a) (hac : a ≤ c) (hc : c ≤ w - 1) (hm : 0 ≤ m) : crs w a c m = (List.range' (mx 0 (a - m)).toNat ((mn (w - 1) (c + m)).toNat + 1 - (mx 0 (a - m)).toNat)).map fun (k : Nat) => 0 + (k : Int) := by
  unfold crs
  congr 1
  have e : (fun (k : Nat) => decide (mx3 (a - (0 + (k : Int))) 0 ((0 + (k : Int)) - c) ≤ m)) = fun (k : Nat) => decide ((mx 0 (a - m)).toNat ≤ k ∧ k ≤ (c + m).toNat) := by
    funext k
    apply decide_eq_decide.mpr
    rw [mx3_le]
    unfold mx
    constructor
    · rintro ⟨h1, h2, h3⟩
      constructor
      · split <;> omega
      · omega
    · rintro ⟨h1, h2⟩
      refine ⟨?_, hm, by omega⟩
      split at h1 <;> omega
  rw [e, between]
  congr 1
  unfold mn mx
  split <;> split <;> omega
theorem crs_ends {w a c m : Int} (ha : 0 ≤ a) (hac : a ≤ c) (hc : c ≤ w - 1) (hm : 0 ≤ m) : atI ((crs w a c m).map D.int) 0 = some (.int (mx 0 (a - m))) ∧ atI ((crs w a c m).map D.int) (-1) = some (.int (mn (w - 1) (c + m))) := by
  rw [crs_eq ha hac hc hm]
  have m0 : 0 ≤ mx 0 (a - m) ∧ mx 0 (a - m) ≤ mn (w - 1) (c + m) := by unfold mx mn; split <;> split <;> omega
  obtain ⟨k, hk⟩ : ∃ k : Nat, (mn (w - 1) (c + m)).toNat + 1 - (mx 0 (a - m)).toNat = k + 1 := ⟨(mn (w - 1) (c + m)).toNat - (mx 0 (a - m)).toNat, by omega⟩
  rw [hk]
  constructor
  · rw [List.range'_succ, List.map_cons, List.map_cons, at0]
    congr 2
    omega
  · rw [List.range'_1_concat, List.map_append, List.map_append, List.map_cons, List.map_nil, List.map_cons, List.map_nil, at_last]
    congr 2
    omega
theorem crs_len {w a c m : Int} : (crs w a c m).length ≤ w.toNat := by
  unfold crs
  rw [List.length_map]
  exact Nat.le_trans (List.length_filter_le _ _) (by simp)
def mtc (lo hi fl fh : Int) : List Int := ((List.range (hi + 1 - lo).toNat).filter (fun (k : Nat) => decide (fl ≤ lo + (k : Int) ∧ lo + (k : Int) ≤ fh))).map fun (k : Nat) => lo + (k : Int)
theorem mtc_nil {lo hi fl fh : Int} (h1 : lo ≤ hi) (h2 : fl ≤ fh) : (mtc lo hi fl fh).isEmpty = !decide (fl ≤ hi ∧ lo ≤ fh) := by
  unfold mtc
  by_cases h : fl ≤ hi ∧ lo ≤ fh
  · rw [decide_eq_true h]
    obtain ⟨k, hk⟩ : ∃ k : Nat, lo + (k : Int) = mx lo fl := ⟨(mx lo fl - lo).toNat, by unfold mx; split <;> omega⟩
    have hm : k ∈ (List.range (hi + 1 - lo).toNat).filter (fun (k : Nat) => decide (fl ≤ lo + (k : Int) ∧ lo + (k : Int) ≤ fh)) := by
      rw [List.mem_filter, List.mem_range, decide_eq_true_iff, hk]
      unfold mx at hk ⊢
      split at hk <;> rename_i z <;> simp only [z, if_true, if_false] <;> omega
    cases hf : (List.range (hi + 1 - lo).toNat).filter (fun (k : Nat) => decide (fl ≤ lo + (k : Int) ∧ lo + (k : Int) ≤ fh)) with
    | nil => rw [hf] at hm; cases hm
    | cons x xs => rfl
  · rw [decide_eq_false h]
    have : (List.range (hi + 1 - lo).toNat).filter (fun (k : Nat) => decide (fl ≤ lo + (k : Int) ∧ lo + (k : Int) ≤ fh)) = [] := by
      rw [List.filter_eq_nil_iff]
      intro k hk
      rw [List.mem_range] at hk
      rw [decide_eq_true_iff]
      omega
    rw [this]
    rfl
theorem mtc_len {lo hi fl fh : Int} : (mtc lo hi fl fh).length ≤ (hi + 1 - lo).toNat := by
  unfold mtc
  rw [List.length_map]
  exact Nat.le_trans (List.length_filter_le _ _) (by simp)
section
variable {S : Sto} {Q : D → Sto → Prop} {R : Out → Sto → Prop} {env : DEnv} {n c d l z : Nat} {L : Lnd} {m x y : Int} {r s : Rm} {gg : MG} {st : MS}
theorem run_loop_cons {it : Its} {y : D} {ys : List D} (hg : Gd it S = true) (h : Run (gg y env) S fun e1 S2 => Run (st e1) S2 (onTurn (fun e S3 => Run (loopF it gg st ys e) S3 R) R)) : Run (loopF it gg st (y :: ys) env) S R := by
  have key : Run (bd (gg y env) fun e1 => bd (st e1) fun o => match o with
    | .nx e => loopF it gg st ys e
    | .ct e => loopF it gg st ys e
    | .bk e => ret (.nx e)
    | .rt d => ret (.rt d)) S R := by
    rw [run_bd]
    refine h.mono fun e1 S2 h2 => ?_
    rw [run_bd]
    refine h2.mono fun o S3 h3 => ?_
    cases o with
    | nx e => exact h3
    | ct e => exact h3
    | bk e => exact run_ret.mpr h3
    | rt d => exact run_ret.mpr h3
  obtain ⟨d, S', e, q⟩ := key
  refine ⟨d, S', ?_, q⟩
  unfold loopF
  rw [if_pos hg]
  exact e
theorem run_loop_nil {it : Its} (hg : Gd it S = true) (h : R (.nx env) S) : Run (loopF it gg st [] env) S R := by
  refine (run_some ?_).mpr h
  unfold loopF
  rw [if_pos hg]
theorem off0 : Run (p_law_off [r.D, .int 0, .int x]) S Q ↔ Q (.int (mx3 (r.a - x) 0 (x - r.c))) S := by
  unfold p_law_off
  simp only [fn_rt, fn_nx, seq_nx, seq_rt, seq_bk, seq_ct, turn_nx, turn_ct, turn_bk, turn_rt, run_fn, run_seq, run_asg, run_op, run_un, run_nil, run_cons, run_tup, run_lst, run_and, run_or, run_not, run_if, run_chain, run_call, run_callK, run_B, run_add, run_sub, run_lt, run_le, run_gt, run_ge, run_neg, run_mod, run_div, run_pow, run_mul, run_is, iN0, iN1, iN2, iN3, iN4, iN5, run_eqInt, run_eqStr, run_intB, run_min, run_max, run_lenT, run_mt0, run_mt, run_pass, run_rt, run_drop, run_sif, run_gn, run_par, run_gsn, run_gsc, run_gsb, run_for, run_iR1, run_iR2, run_ret, run_new, run_C, run_var', run_gtp, run_lc, on_some, on_none, exists_eq_left, exists_eq_left', Option.some.injEq, D.bl.injEq, List.cons.injEq, D.int.injEq, D.loc.injEq, D.tup.injEq, and_true, true_and, startD, List.map_cons, List.map_nil, List.length_cons, List.length_nil, List.replicate, List.cons_append, List.nil_append, List.getElem?_cons_zero, List.getElem?_cons_succ, List.getElem?_nil, List.set_cons_zero, List.set_cons_succ, List.set_nil, Nat.add_zero, Nat.zero_add, Nat.reduceAdd, Nat.reduceSub, Rm.D, run_ixM, at0, run_max3']
  have : atI [D.int r.a, D.int r.b, D.int r.c, D.int r.d, D.int r.f, D.int r.l] (0 + 2) = some (.int r.c) := at2
  simp only [this, fn_rt, fn_nx, seq_nx, seq_rt, seq_bk, seq_ct, turn_nx, turn_ct, turn_bk, turn_rt, run_fn, run_seq, run_asg, run_op, run_un, run_nil, run_cons, run_tup, run_lst, run_and, run_or, run_not, run_if, run_chain, run_call, run_callK, run_B, run_add, run_sub, run_lt, run_le, run_gt, run_ge, run_neg, run_mod, run_div, run_pow, run_mul, run_is, iN0, iN1, iN2, iN3, iN4, iN5, run_eqInt, run_eqStr, run_intB, run_min, run_max, run_lenT, run_mt0, run_mt, run_pass, run_rt, run_drop, run_sif, run_gn, run_par, run_gsn, run_gsc, run_gsb, run_for, run_iR1, run_iR2, run_ret, run_new, run_C, run_var', run_gtp, run_lc, on_some, on_none, exists_eq_left, exists_eq_left', Option.some.injEq, D.bl.injEq, List.cons.injEq, D.int.injEq, D.loc.injEq, D.tup.injEq, and_true, true_and, run_max3']
theorem off1 : Run (p_law_off [r.D, .int 1, .int x]) S Q ↔ Q (.int (mx3 (r.b - x) 0 (x - r.d))) S := by
  unfold p_law_off
  simp only [fn_rt, fn_nx, seq_nx, seq_rt, seq_bk, seq_ct, turn_nx, turn_ct, turn_bk, turn_rt, run_fn, run_seq, run_asg, run_op, run_un, run_nil, run_cons, run_tup, run_lst, run_and, run_or, run_not, run_if, run_chain, run_call, run_callK, run_B, run_add, run_sub, run_lt, run_le, run_gt, run_ge, run_neg, run_mod, run_div, run_pow, run_mul, run_is, iN0, iN1, iN2, iN3, iN4, iN5, run_eqInt, run_eqStr, run_intB, run_min, run_max, run_lenT, run_mt0, run_mt, run_pass, run_rt, run_drop, run_sif, run_gn, run_par, run_gsn, run_gsc, run_gsb, run_for, run_iR1, run_iR2, run_ret, run_new, run_C, run_var', run_gtp, run_lc, on_some, on_none, exists_eq_left, exists_eq_left', Option.some.injEq, D.bl.injEq, List.cons.injEq, D.int.injEq, D.loc.injEq, D.tup.injEq, and_true, true_and, startD, List.map_cons, List.map_nil, List.length_cons, List.length_nil, List.replicate, List.cons_append, List.nil_append, List.getElem?_cons_zero, List.getElem?_cons_succ, List.getElem?_nil, List.set_cons_zero, List.set_cons_succ, List.set_nil, Nat.add_zero, Nat.zero_add, Nat.reduceAdd, Nat.reduceSub, Rm.D, run_ixM, at1, run_max3']
  have : atI [D.int r.a, D.int r.b, D.int r.c, D.int r.d, D.int r.f, D.int r.l] (1 + 2) = some (.int r.d) := at3
  simp only [this, fn_rt, fn_nx, seq_nx, seq_rt, seq_bk, seq_ct, turn_nx, turn_ct, turn_bk, turn_rt, run_fn, run_seq, run_asg, run_op, run_un, run_nil, run_cons, run_tup, run_lst, run_and, run_or, run_not, run_if, run_chain, run_call, run_callK, run_B, run_add, run_sub, run_lt, run_le, run_gt, run_ge, run_neg, run_mod, run_div, run_pow, run_mul, run_is, iN0, iN1, iN2, iN3, iN4, iN5, run_eqInt, run_eqStr, run_intB, run_min, run_max, run_lenT, run_mt0, run_mt, run_pass, run_rt, run_drop, run_sif, run_gn, run_par, run_gsn, run_gsc, run_gsb, run_for, run_iR1, run_iR2, run_ret, run_new, run_C, run_var', run_gtp, run_lc, on_some, on_none, exists_eq_left, exists_eq_left', Option.some.injEq, D.bl.injEq, List.cons.injEq, D.int.injEq, D.loc.injEq, D.tup.injEq, and_true, true_and, run_max3']
theorem wider_run {w h day : Int} (hz : S[z]? = some (.lst [.int w, .int h, .int day])) (hw : 1 ≤ w ∧ w ≤ 12) (hh : 1 ≤ h ∧ h ≤ 12) (ok : Bok w h r.a r.b r.c r.d) (hm : 0 ≤ m) (q : ∀ S', Gr S S' → Q (r.grow w h m).D S') : Run (p_law_wider [.loc z, r.D, .int m]) S Q := by
  have sz : (sizeLine : Nat) = 16777216 := sizeLine_eq
  obtain ⟨⟨a0, a1, a2⟩, b0, b1, b2⟩ := ok
  unfold p_law_wider
  rw [run_fn, run_seq, run_asg, run_lc, run_iR1, run_cons, run_op]
  simp only [fn_rt, fn_nx, seq_nx, seq_rt, seq_bk, seq_ct, turn_nx, turn_ct, turn_bk, turn_rt, run_fn, run_seq, run_asg, run_op, run_un, run_nil, run_cons, run_tup, run_lst, run_and, run_or, run_not, run_if, run_chain, run_call, run_callK, run_B, run_add, run_sub, run_lt, run_le, run_gt, run_ge, run_neg, run_mod, run_div, run_pow, run_mul, run_is, iN0, iN1, iN2, iN3, iN4, iN5, run_eqInt, run_eqStr, run_intB, run_min, run_max, run_lenT, run_mt0, run_mt, run_pass, run_rt, run_drop, run_sif, run_gn, run_par, run_gsn, run_gsc, run_gsb, run_for, run_iR1, run_iR2, run_ret, run_new, run_C, run_var', run_gtp, run_lc, on_some, on_none, exists_eq_left, exists_eq_left', Option.some.injEq, D.bl.injEq, List.cons.injEq, D.int.injEq, D.loc.injEq, D.tup.injEq, and_true, true_and, startD, List.map_cons, List.map_nil, List.length_cons, List.length_nil, List.replicate, List.cons_append, List.nil_append, List.getElem?_cons_zero, List.getElem?_cons_succ, List.getElem?_nil, List.set_cons_zero, List.set_cons_succ, List.set_nil, Nat.add_zero, Nat.zero_add, Nat.reduceAdd, Nat.reduceSub]
  refine (run_ixL hz at0).mpr ?_
  refine ⟨_, rfl, ⟨by omega, by omega⟩, ?_⟩
  rw [rng_map]
  refine run_loopF (α := Nat) (List.range w.toNat) _ (fun (k : Nat) => decide (mx3 (r.a - (0 + (k : Int))) 0 ((0 + (k : Int)) - r.c) ≤ m)) (fun (k : Nat) => D.int (0 + (k : Int))) Gd.none ?_ ?_
  · intro k _ G g
    simp only [fn_rt, fn_nx, seq_nx, seq_rt, seq_bk, seq_ct, turn_nx, turn_ct, turn_bk, turn_rt, run_fn, run_seq, run_asg, run_op, run_un, run_nil, run_cons, run_tup, run_lst, run_and, run_or, run_not, run_if, run_chain, run_call, run_callK, run_B, run_add, run_sub, run_lt, run_le, run_gt, run_ge, run_neg, run_mod, run_div, run_pow, run_mul, run_is, iN0, iN1, iN2, iN3, iN4, iN5, run_eqInt, run_eqStr, run_intB, run_min, run_max, run_lenT, run_mt0, run_mt, run_pass, run_rt, run_drop, run_sif, run_gn, run_par, run_gsn, run_gsc, run_gsb, run_for, run_iR1, run_iR2, run_ret, run_new, run_C, run_var', run_gtp, run_lc, on_some, on_none, exists_eq_left, exists_eq_left', Option.some.injEq, D.bl.injEq, List.cons.injEq, D.int.injEq, D.loc.injEq, D.tup.injEq, and_true, true_and, wipeD, startD, List.map_cons, List.map_nil, List.length_cons, List.length_nil, List.replicate, List.cons_append, List.nil_append, List.getElem?_cons_zero, List.getElem?_cons_succ, List.getElem?_nil, List.set_cons_zero, List.set_cons_succ, List.set_nil, Nat.add_zero, Nat.zero_add, Nat.reduceAdd, Nat.reduceSub, off0]
    exact fun hp => g hp
  have l1 := crs_len (w := w) (a := r.a) (c := r.c) (m := m)
  have e1 := crs_ends a0 a1 a2 hm
  have m1 : ((List.range w.toNat).filter (fun (k : Nat) => decide (mx3 (r.a - (0 + (k : Int))) 0 ((0 + (k : Int)) - r.c) ≤ m))).map (fun (k : Nat) => D.int (0 + (k : Int))) = (crs w r.a r.c m).map D.int := by unfold crs; rw [List.map_map]; rfl
  rw [m1]
  refine ⟨by rw [List.length_map]; omega, ?_⟩
  have G1 := Gr.app S (.lst ((crs w r.a r.c m).map D.int))
  have h1 : (S ++ [O.lst ((crs w r.a r.c m).map D.int)])[S.length]? = _ := get_new
  generalize S ++ [O.lst ((crs w r.a r.c m).map D.int)] = S1 at G1 h1 ⊢
  generalize S.length = z1 at h1 ⊢
  try simp only [fn_rt, fn_nx, seq_nx, seq_rt, seq_bk, seq_ct, turn_nx, turn_ct, turn_bk, turn_rt, run_fn, run_seq, run_asg, run_op, run_un, run_nil, run_cons, run_tup, run_lst, run_and, run_or, run_not, run_if, run_chain, run_call, run_callK, run_B, run_add, run_sub, run_lt, run_le, run_gt, run_ge, run_neg, run_mod, run_div, run_pow, run_mul, run_is, iN0, iN1, iN2, iN3, iN4, iN5, run_eqInt, run_eqStr, run_intB, run_min, run_max, run_lenT, run_mt0, run_mt, run_pass, run_rt, run_drop, run_sif, run_gn, run_par, run_gsn, run_gsc, run_gsb, run_for, run_iR1, run_iR2, run_ret, run_new, run_C, run_var', run_gtp, run_lc, on_some, on_none, exists_eq_left, exists_eq_left', Option.some.injEq, D.bl.injEq, List.cons.injEq, D.int.injEq, D.loc.injEq, D.tup.injEq, and_true, true_and, startD, List.map_cons, List.map_nil, List.length_cons, List.length_nil, List.replicate, List.cons_append, List.nil_append, List.getElem?_cons_zero, List.getElem?_cons_succ, List.getElem?_nil, List.set_cons_zero, List.set_cons_succ, List.set_nil, Nat.add_zero, Nat.zero_add, Nat.reduceAdd, Nat.reduceSub]
  unfold p_law_wider_2
  rw [run_seq, run_asg, run_lc, run_iR1, run_cons, run_op]
  simp only [fn_rt, fn_nx, seq_nx, seq_rt, seq_bk, seq_ct, turn_nx, turn_ct, turn_bk, turn_rt, run_fn, run_seq, run_asg, run_op, run_un, run_nil, run_cons, run_tup, run_lst, run_and, run_or, run_not, run_if, run_chain, run_call, run_callK, run_B, run_add, run_sub, run_lt, run_le, run_gt, run_ge, run_neg, run_mod, run_div, run_pow, run_mul, run_is, iN0, iN1, iN2, iN3, iN4, iN5, run_eqInt, run_eqStr, run_intB, run_min, run_max, run_lenT, run_mt0, run_mt, run_pass, run_rt, run_drop, run_sif, run_gn, run_par, run_gsn, run_gsc, run_gsb, run_for, run_iR1, run_iR2, run_ret, run_new, run_C, run_var', run_gtp, run_lc, on_some, on_none, exists_eq_left, exists_eq_left', Option.some.injEq, D.bl.injEq, List.cons.injEq, D.int.injEq, D.loc.injEq, D.tup.injEq, and_true, true_and, startD, List.map_cons, List.map_nil, List.length_cons, List.length_nil, List.replicate, List.cons_append, List.nil_append, List.getElem?_cons_zero, List.getElem?_cons_succ, List.getElem?_nil, List.set_cons_zero, List.set_cons_succ, List.set_nil, Nat.add_zero, Nat.zero_add, Nat.reduceAdd, Nat.reduceSub]
  refine (run_ixL (G1 _ _ hz) at1).mpr ?_
  refine ⟨_, rfl, ⟨by omega, by omega⟩, ?_⟩
  rw [rng_map]
  refine run_loopF (α := Nat) (List.range h.toNat) _ (fun (k : Nat) => decide (mx3 (r.b - (0 + (k : Int))) 0 ((0 + (k : Int)) - r.d) ≤ m)) (fun (k : Nat) => D.int (0 + (k : Int))) Gd.none ?_ ?_
  · intro k _ G g
    simp only [fn_rt, fn_nx, seq_nx, seq_rt, seq_bk, seq_ct, turn_nx, turn_ct, turn_bk, turn_rt, run_fn, run_seq, run_asg, run_op, run_un, run_nil, run_cons, run_tup, run_lst, run_and, run_or, run_not, run_if, run_chain, run_call, run_callK, run_B, run_add, run_sub, run_lt, run_le, run_gt, run_ge, run_neg, run_mod, run_div, run_pow, run_mul, run_is, iN0, iN1, iN2, iN3, iN4, iN5, run_eqInt, run_eqStr, run_intB, run_min, run_max, run_lenT, run_mt0, run_mt, run_pass, run_rt, run_drop, run_sif, run_gn, run_par, run_gsn, run_gsc, run_gsb, run_for, run_iR1, run_iR2, run_ret, run_new, run_C, run_var', run_gtp, run_lc, on_some, on_none, exists_eq_left, exists_eq_left', Option.some.injEq, D.bl.injEq, List.cons.injEq, D.int.injEq, D.loc.injEq, D.tup.injEq, and_true, true_and, wipeD, startD, List.map_cons, List.map_nil, List.length_cons, List.length_nil, List.replicate, List.cons_append, List.nil_append, List.getElem?_cons_zero, List.getElem?_cons_succ, List.getElem?_nil, List.set_cons_zero, List.set_cons_succ, List.set_nil, Nat.add_zero, Nat.zero_add, Nat.reduceAdd, Nat.reduceSub, off1]
    exact fun hp => g hp
  have l2 := crs_len (w := h) (a := r.b) (c := r.d) (m := m)
  have e2 := crs_ends b0 b1 b2 hm
  have m2 : ((List.range h.toNat).filter (fun (k : Nat) => decide (mx3 (r.b - (0 + (k : Int))) 0 ((0 + (k : Int)) - r.d) ≤ m))).map (fun (k : Nat) => D.int (0 + (k : Int))) = (crs h r.b r.d m).map D.int := by unfold crs; rw [List.map_map]; rfl
  rw [m2]
  refine ⟨by rw [List.length_map]; omega, ?_⟩
  have G2 := G1.trans (Gr.app S1 (.lst ((crs h r.b r.d m).map D.int)))
  have h2 : (S1 ++ [O.lst ((crs h r.b r.d m).map D.int)])[S1.length]? = _ := get_new
  have h1' : (S1 ++ [O.lst ((crs h r.b r.d m).map D.int)])[z1]? = _ := get_app h1
  generalize S1 ++ [O.lst ((crs h r.b r.d m).map D.int)] = S2 at G2 h2 h1' ⊢
  generalize S1.length = z2 at h2 ⊢
  try simp only [fn_rt, fn_nx, seq_nx, seq_rt, seq_bk, seq_ct, turn_nx, turn_ct, turn_bk, turn_rt, run_fn, run_seq, run_asg, run_op, run_un, run_nil, run_cons, run_tup, run_lst, run_and, run_or, run_not, run_if, run_chain, run_call, run_callK, run_B, run_add, run_sub, run_lt, run_le, run_gt, run_ge, run_neg, run_mod, run_div, run_pow, run_mul, run_is, iN0, iN1, iN2, iN3, iN4, iN5, run_eqInt, run_eqStr, run_intB, run_min, run_max, run_lenT, run_mt0, run_mt, run_pass, run_rt, run_drop, run_sif, run_gn, run_par, run_gsn, run_gsc, run_gsb, run_for, run_iR1, run_iR2, run_ret, run_new, run_C, run_var', run_gtp, run_lc, on_some, on_none, exists_eq_left, exists_eq_left', Option.some.injEq, D.bl.injEq, List.cons.injEq, D.int.injEq, D.loc.injEq, D.tup.injEq, and_true, true_and, startD, List.map_cons, List.map_nil, List.length_cons, List.length_nil, List.replicate, List.cons_append, List.nil_append, List.getElem?_cons_zero, List.getElem?_cons_succ, List.getElem?_nil, List.set_cons_zero, List.set_cons_succ, List.set_nil, Nat.add_zero, Nat.zero_add, Nat.reduceAdd, Nat.reduceSub]
  unfold p_law_wider_1
  simp only [fn_rt, fn_nx, seq_nx, seq_rt, seq_bk, seq_ct, turn_nx, turn_ct, turn_bk, turn_rt, run_fn, run_seq, run_asg, run_op, run_un, run_nil, run_cons, run_tup, run_lst, run_and, run_or, run_not, run_if, run_chain, run_call, run_callK, run_B, run_add, run_sub, run_lt, run_le, run_gt, run_ge, run_neg, run_mod, run_div, run_pow, run_mul, run_is, iN0, iN1, iN2, iN3, iN4, iN5, run_eqInt, run_eqStr, run_intB, run_min, run_max, run_lenT, run_mt0, run_mt, run_pass, run_rt, run_drop, run_sif, run_gn, run_par, run_gsn, run_gsc, run_gsb, run_for, run_iR1, run_iR2, run_ret, run_new, run_C, run_var', run_gtp, run_lc, on_some, on_none, exists_eq_left, exists_eq_left', Option.some.injEq, D.bl.injEq, List.cons.injEq, D.int.injEq, D.loc.injEq, D.tup.injEq, and_true, true_and, startD, List.map_cons, List.map_nil, List.length_cons, List.length_nil, List.replicate, List.cons_append, List.nil_append, List.getElem?_cons_zero, List.getElem?_cons_succ, List.getElem?_nil, List.set_cons_zero, List.set_cons_succ, List.set_nil, Nat.add_zero, Nat.zero_add, Nat.reduceAdd, Nat.reduceSub]
  refine (run_ixL h1' e1.1).mpr ?_
  refine (run_ixL h2 e2.1).mpr ?_
  refine (run_ixL h1' e1.2).mpr ?_
  refine (run_ixL h2 e2.2).mpr ?_
  simp only [fn_rt, fn_nx, seq_nx, seq_rt, seq_bk, seq_ct, turn_nx, turn_ct, turn_bk, turn_rt, run_fn, run_seq, run_asg, run_op, run_un, run_nil, run_cons, run_tup, run_lst, run_and, run_or, run_not, run_if, run_chain, run_call, run_callK, run_B, run_add, run_sub, run_lt, run_le, run_gt, run_ge, run_neg, run_mod, run_div, run_pow, run_mul, run_is, iN0, iN1, iN2, iN3, iN4, iN5, run_eqInt, run_eqStr, run_intB, run_min, run_max, run_lenT, run_mt0, run_mt, run_pass, run_rt, run_drop, run_sif, run_gn, run_par, run_gsn, run_gsc, run_gsb, run_for, run_iR1, run_iR2, run_ret, run_new, run_C, run_var', run_gtp, run_lc, on_some, on_none, exists_eq_left, exists_eq_left', Option.some.injEq, D.bl.injEq, List.cons.injEq, D.int.injEq, D.loc.injEq, D.tup.injEq, and_true, true_and, startD, List.map_cons, List.map_nil, List.length_cons, List.length_nil, List.replicate, List.cons_append, List.nil_append, List.getElem?_cons_zero, List.getElem?_cons_succ, List.getElem?_nil, List.set_cons_zero, List.set_cons_succ, List.set_nil, Nat.add_zero, Nat.zero_add, Nat.reduceAdd, Nat.reduceSub, run_sl, run_pNo, run_pS, Rm.D]
  refine (run_some (m := oSl (.tup [.int r.a, .int r.b, .int r.c, .int r.d, .int r.f, .int r.l]) (some 4) none) (a := .tup [.int r.f, .int r.l]) (S' := S2) rfl).mpr ?_
  refine (run_catT (by simp; omega)).mpr ?_
  exact q _ G2
theorem meet_turn {fl fh lo hi : Int} {i j : Int} {a4 : Option D} (hi1 : atI [D.int r.a, .int r.b, .int r.c, .int r.d, .int r.f, .int r.l] i = some (.int lo)) (hi2 : atI [D.int r.a, .int r.b, .int r.c, .int r.d, .int r.f, .int r.l] j = some (.int hi))
    (hf1 : atI [D.int s.a, .int s.b, .int s.c, .int s.d, .int s.f, .int s.l] i = some (.int fl)) (hf2 : atI [D.int s.a, .int s.b, .int s.c, .int s.d, .int s.f, .int s.l] j = some (.int fh)) (h1 : lo ≤ hi) (h2 : fl ≤ fh) (hb : 0 ≤ lo ∧ hi ≤ 1000)
    (k0 : ¬ (fl ≤ hi ∧ lo ≤ fh) → ∀ S', Gr S S' → R (.rt (.bl false)) S') (k1 : fl ≤ hi ∧ lo ≤ fh → ∀ S', Gr S S' → R (.nx [some r.D, some s.D, some (.int i), some (.int j), none]) S') :
    Run (p_law_meet_1 [some r.D, some s.D, some (.int i), some (.int j), none]) S R := by
  have sz : (sizeLine : Nat) = 16777216 := sizeLine_eq
  unfold p_law_meet_1
  rw [run_sif, run_op, run_lc, run_iR2]
  simp only [fn_rt, fn_nx, seq_nx, seq_rt, seq_bk, seq_ct, turn_nx, turn_ct, turn_bk, turn_rt, run_fn, run_seq, run_asg, run_op, run_un, run_nil, run_cons, run_tup, run_lst, run_and, run_or, run_not, run_if, run_chain, run_call, run_callK, run_B, run_add, run_sub, run_lt, run_le, run_gt, run_ge, run_neg, run_mod, run_div, run_pow, run_mul, run_is, iN0, iN1, iN2, iN3, iN4, iN5, run_eqInt, run_eqStr, run_intB, run_min, run_max, run_lenT, run_mt0, run_mt, run_pass, run_rt, run_drop, run_sif, run_gn, run_par, run_gsn, run_gsc, run_gsb, run_for, run_iR1, run_iR2, run_ret, run_new, run_C, run_var', run_gtp, run_lc, on_some, on_none, exists_eq_left, exists_eq_left', Option.some.injEq, D.bl.injEq, List.cons.injEq, D.int.injEq, D.loc.injEq, D.tup.injEq, and_true, true_and, startD, List.map_cons, List.map_nil, List.length_cons, List.length_nil, List.replicate, List.cons_append, List.nil_append, List.getElem?_cons_zero, List.getElem?_cons_succ, List.getElem?_nil, List.set_cons_zero, List.set_cons_succ, List.set_nil, Nat.add_zero, Nat.zero_add, Nat.reduceAdd, Nat.reduceSub, Rm.D]
  refine (run_ixT hi1).mpr ?_
  refine (run_ixT hi2).mpr ?_
  simp only [fn_rt, fn_nx, seq_nx, seq_rt, seq_bk, seq_ct, turn_nx, turn_ct, turn_bk, turn_rt, run_fn, run_seq, run_asg, run_op, run_un, run_nil, run_cons, run_tup, run_lst, run_and, run_or, run_not, run_if, run_chain, run_call, run_callK, run_B, run_add, run_sub, run_lt, run_le, run_gt, run_ge, run_neg, run_mod, run_div, run_pow, run_mul, run_is, iN0, iN1, iN2, iN3, iN4, iN5, run_eqInt, run_eqStr, run_intB, run_min, run_max, run_lenT, run_mt0, run_mt, run_pass, run_rt, run_drop, run_sif, run_gn, run_par, run_gsn, run_gsc, run_gsb, run_for, run_iR1, run_iR2, run_ret, run_new, run_C, run_var', run_gtp, run_lc, on_some, on_none, exists_eq_left, exists_eq_left', Option.some.injEq, D.bl.injEq, List.cons.injEq, D.int.injEq, D.loc.injEq, D.tup.injEq, and_true, true_and]
  refine ⟨_, _, ⟨rfl, rfl⟩, ⟨by omega, by omega, by omega, by omega⟩, ?_⟩
  rw [rng_map]
  refine run_loopF (α := Nat) (List.range (hi + 1 - lo).toNat) _ (fun (k : Nat) => decide (fl ≤ lo + (k : Int) ∧ lo + (k : Int) ≤ fh)) (fun (k : Nat) => D.int (lo + (k : Int))) Gd.none ?_ ?_
  · intro k _ G g
    simp only [fn_rt, fn_nx, seq_nx, seq_rt, seq_bk, seq_ct, turn_nx, turn_ct, turn_bk, turn_rt, run_fn, run_seq, run_asg, run_op, run_un, run_nil, run_cons, run_tup, run_lst, run_and, run_or, run_not, run_if, run_chain, run_call, run_callK, run_B, run_add, run_sub, run_lt, run_le, run_gt, run_ge, run_neg, run_mod, run_div, run_pow, run_mul, run_is, iN0, iN1, iN2, iN3, iN4, iN5, run_eqInt, run_eqStr, run_intB, run_min, run_max, run_lenT, run_mt0, run_mt, run_pass, run_rt, run_drop, run_sif, run_gn, run_par, run_gsn, run_gsc, run_gsb, run_for, run_iR1, run_iR2, run_ret, run_new, run_C, run_var', run_gtp, run_lc, on_some, on_none, exists_eq_left, exists_eq_left', Option.some.injEq, D.bl.injEq, List.cons.injEq, D.int.injEq, D.loc.injEq, D.tup.injEq, and_true, true_and, wipeD, startD, List.map_cons, List.map_nil, List.length_cons, List.length_nil, List.replicate, List.cons_append, List.nil_append, List.getElem?_cons_zero, List.getElem?_cons_succ, List.getElem?_nil, List.set_cons_zero, List.set_cons_succ, List.set_nil, Nat.add_zero, Nat.zero_add, Nat.reduceAdd, Nat.reduceSub]
    refine (run_ixT hf1).mpr ?_
    simp only [fn_rt, fn_nx, seq_nx, seq_rt, seq_bk, seq_ct, turn_nx, turn_ct, turn_bk, turn_rt, run_fn, run_seq, run_asg, run_op, run_un, run_nil, run_cons, run_tup, run_lst, run_and, run_or, run_not, run_if, run_chain, run_call, run_callK, run_B, run_add, run_sub, run_lt, run_le, run_gt, run_ge, run_neg, run_mod, run_div, run_pow, run_mul, run_is, iN0, iN1, iN2, iN3, iN4, iN5, run_eqInt, run_eqStr, run_intB, run_min, run_max, run_lenT, run_mt0, run_mt, run_pass, run_rt, run_drop, run_sif, run_gn, run_par, run_gsn, run_gsc, run_gsb, run_for, run_iR1, run_iR2, run_ret, run_new, run_C, run_var', run_gtp, run_lc, on_some, on_none, exists_eq_left, exists_eq_left', Option.some.injEq, D.bl.injEq, List.cons.injEq, D.int.injEq, D.loc.injEq, D.tup.injEq, and_true, true_and]
    by_cases c1 : fl ≤ lo + (k : Int)
    · simp only [c1, decide_true, if_true, fn_rt, fn_nx, seq_nx, seq_rt, seq_bk, seq_ct, turn_nx, turn_ct, turn_bk, turn_rt, run_fn, run_seq, run_asg, run_op, run_un, run_nil, run_cons, run_tup, run_lst, run_and, run_or, run_not, run_if, run_chain, run_call, run_callK, run_B, run_add, run_sub, run_lt, run_le, run_gt, run_ge, run_neg, run_mod, run_div, run_pow, run_mul, run_is, iN0, iN1, iN2, iN3, iN4, iN5, run_eqInt, run_eqStr, run_intB, run_min, run_max, run_lenT, run_mt0, run_mt, run_pass, run_rt, run_drop, run_sif, run_gn, run_par, run_gsn, run_gsc, run_gsb, run_for, run_iR1, run_iR2, run_ret, run_new, run_C, run_var', run_gtp, run_lc, on_some, on_none, exists_eq_left, exists_eq_left', Option.some.injEq, D.bl.injEq, List.cons.injEq, D.int.injEq, D.loc.injEq, D.tup.injEq, and_true, true_and]
      refine (run_ixT hf2).mpr ?_
      simp only [fn_rt, fn_nx, seq_nx, seq_rt, seq_bk, seq_ct, turn_nx, turn_ct, turn_bk, turn_rt, run_fn, run_seq, run_asg, run_op, run_un, run_nil, run_cons, run_tup, run_lst, run_and, run_or, run_not, run_if, run_chain, run_call, run_callK, run_B, run_add, run_sub, run_lt, run_le, run_gt, run_ge, run_neg, run_mod, run_div, run_pow, run_mul, run_is, iN0, iN1, iN2, iN3, iN4, iN5, run_eqInt, run_eqStr, run_intB, run_min, run_max, run_lenT, run_mt0, run_mt, run_pass, run_rt, run_drop, run_sif, run_gn, run_par, run_gsn, run_gsc, run_gsb, run_for, run_iR1, run_iR2, run_ret, run_new, run_C, run_var', run_gtp, run_lc, on_some, on_none, exists_eq_left, exists_eq_left', Option.some.injEq, D.bl.injEq, List.cons.injEq, D.int.injEq, D.loc.injEq, D.tup.injEq, and_true, true_and, c1, true_and] at g ⊢
      exact fun hp => g hp
    · simp only [c1, decide_false, Bool.false_eq_true, if_false, false_and, false_implies, and_self]
  have m1 : ((List.range (hi + 1 - lo).toNat).filter (fun (k : Nat) => decide (fl ≤ lo + (k : Int) ∧ lo + (k : Int) ≤ fh))).map (fun (k : Nat) => D.int (lo + (k : Int))) = (mtc lo hi fl fh).map D.int := by unfold mtc; rw [List.map_map]; rfl
  have l1 := mtc_len (lo := lo) (hi := hi) (fl := fl) (fh := fh)
  rw [m1]
  refine ⟨by rw [List.length_map]; omega, ?_⟩
  refine run_eq.mpr ⟨_, eq_nil (get_app get_new) get_new, ?_⟩
  rw [mtc_nil h1 h2]
  have G2 : Gr S (S ++ [O.lst ((mtc lo hi fl fh).map D.int)] ++ [O.lst []]) := (Gr.app _ _).trans (Gr.app _ _)
  generalize S ++ [O.lst ((mtc lo hi fl fh).map D.int)] ++ [O.lst []] = S2 at G2 ⊢
  by_cases hc : fl ≤ hi ∧ lo ≤ fh
  · rw [decide_eq_true hc]
    refine ⟨false, rfl, ?_⟩
    rw [if_neg Bool.false_ne_true]
    exact k1 hc _ G2
  · rw [decide_eq_false hc]
    refine ⟨true, rfl, ?_⟩
    rw [if_pos rfl]
    exact k0 hc _ G2
theorem meetl_run {w h day : Int} (r1 : r.ok w h day) (s1 : s.ok w h day) (hw : w ≤ 12) (hh : h ≤ 12) (hd : day ≤ 24) (q : ∀ S', Gr S S' → Q (.bl (r.clash s)) S') : Run (p_law_meet [r.D, s.D]) S Q := by
  obtain ⟨⟨⟨a0, a1, a2⟩, b0, b1, b2⟩, c0, c1, c2⟩ := r1
  obtain ⟨⟨⟨d0, d1, d2⟩, e0, e1, e2⟩, f0, f1, f2⟩ := s1
  unfold p_law_meet
  rw [run_fn, run_seq, run_for]
  simp only [startD, List.map_cons, List.map_nil, List.length_cons, List.length_nil, List.replicate, List.cons_append, List.nil_append, List.getElem?_cons_zero, List.getElem?_cons_succ, List.getElem?_nil, List.set_cons_zero, List.set_cons_succ, List.set_nil, Nat.add_zero, Nat.zero_add, Nat.reduceAdd, Nat.reduceSub]
  rw [run_iV, run_tup]
  simp only [fn_rt, fn_nx, seq_nx, seq_rt, seq_bk, seq_ct, turn_nx, turn_ct, turn_bk, turn_rt, run_fn, run_seq, run_asg, run_op, run_un, run_nil, run_cons, run_tup, run_lst, run_and, run_or, run_not, run_if, run_chain, run_call, run_callK, run_B, run_add, run_sub, run_lt, run_le, run_gt, run_ge, run_neg, run_mod, run_div, run_pow, run_mul, run_is, iN0, iN1, iN2, iN3, iN4, iN5, run_eqInt, run_eqStr, run_intB, run_min, run_max, run_lenT, run_mt0, run_mt, run_pass, run_rt, run_drop, run_sif, run_gn, run_par, run_gsn, run_gsc, run_gsb, run_for, run_iR1, run_iR2, run_ret, run_new, run_C, run_var', run_gtp, run_lc, on_some, on_none, exists_eq_left, exists_eq_left', Option.some.injEq, D.bl.injEq, List.cons.injEq, D.int.injEq, D.loc.injEq, D.tup.injEq, and_true, true_and, startD, List.map_cons, List.map_nil, List.length_cons, List.length_nil, List.replicate, List.cons_append, List.nil_append, List.getElem?_cons_zero, List.getElem?_cons_succ, List.getElem?_nil, List.set_cons_zero, List.set_cons_succ, List.set_nil, Nat.add_zero, Nat.zero_add, Nat.reduceAdd, Nat.reduceSub]
  rw [run_iVT]
  refine run_loop_cons Gd.none ?_
  simp only [run_gtp, run_gsc, run_gsn, run_gn, startD, List.map_cons, List.map_nil, List.length_cons, List.length_nil, List.replicate, List.cons_append, List.nil_append, List.getElem?_cons_zero, List.getElem?_cons_succ, List.getElem?_nil, List.set_cons_zero, List.set_cons_succ, List.set_nil, Nat.add_zero, Nat.zero_add, Nat.reduceAdd, Nat.reduceSub, D.tup.injEq, exists_eq_left', true_and]
  refine meet_turn (a4 := none) at0 at2 at0 at2 a1 d1 (by omega) (fun hc S1 g1 => ?_) (fun hc1 S1 g1 => ?_)
  · rw [turn_rt, seq_rt, fn_rt]
    have : r.clash s = false := by unfold Rm.clash; exact decide_eq_false fun z => hc ⟨z.2.1, z.1⟩
    rw [← this]; exact q _ g1
  rw [turn_nx]
  refine run_loop_cons Gd.none ?_
  simp only [run_gtp, run_gsc, run_gsn, run_gn, startD, List.map_cons, List.map_nil, List.length_cons, List.length_nil, List.replicate, List.cons_append, List.nil_append, List.getElem?_cons_zero, List.getElem?_cons_succ, List.getElem?_nil, List.set_cons_zero, List.set_cons_succ, List.set_nil, Nat.add_zero, Nat.zero_add, Nat.reduceAdd, Nat.reduceSub, D.tup.injEq, exists_eq_left', true_and]
  refine meet_turn (a4 := none) at1 at3 at1 at3 b1 e1 (by omega) (fun hc S2 g2 => ?_) (fun hc2 S2 g2 => ?_)
  · rw [turn_rt, seq_rt, fn_rt]
    have : r.clash s = false := by unfold Rm.clash; exact decide_eq_false fun z => hc ⟨z.2.2.2.1, z.2.2.1⟩
    rw [← this]; exact q _ (g1.trans g2)
  rw [turn_nx]
  refine run_loop_cons Gd.none ?_
  simp only [run_gtp, run_gsc, run_gsn, run_gn, startD, List.map_cons, List.map_nil, List.length_cons, List.length_nil, List.replicate, List.cons_append, List.nil_append, List.getElem?_cons_zero, List.getElem?_cons_succ, List.getElem?_nil, List.set_cons_zero, List.set_cons_succ, List.set_nil, Nat.add_zero, Nat.zero_add, Nat.reduceAdd, Nat.reduceSub, D.tup.injEq, exists_eq_left', true_and]
  refine meet_turn (a4 := none) at4 at5 at4 at5 c1 f1 (by omega) (fun hc S3 g3 => ?_) (fun hc3 S3 g3 => ?_)
  · rw [turn_rt, seq_rt, fn_rt]
    have : r.clash s = false := by unfold Rm.clash; exact decide_eq_false fun z => hc ⟨z.2.2.2.2.2, z.2.2.2.2.1⟩
    rw [← this]; exact q _ (g1.trans (g2.trans g3))
  rw [turn_nx]
  refine run_loop_nil Gd.none ?_
  rw [seq_nx]
  unfold p_law_meet_2
  simp only [fn_rt, fn_nx, seq_nx, seq_rt, seq_bk, seq_ct, turn_nx, turn_ct, turn_bk, turn_rt, run_fn, run_seq, run_asg, run_op, run_un, run_nil, run_cons, run_tup, run_lst, run_and, run_or, run_not, run_if, run_chain, run_call, run_callK, run_B, run_add, run_sub, run_lt, run_le, run_gt, run_ge, run_neg, run_mod, run_div, run_pow, run_mul, run_is, iN0, iN1, iN2, iN3, iN4, iN5, run_eqInt, run_eqStr, run_intB, run_min, run_max, run_lenT, run_mt0, run_mt, run_pass, run_rt, run_drop, run_sif, run_gn, run_par, run_gsn, run_gsc, run_gsb, run_for, run_iR1, run_iR2, run_ret, run_new, run_C, run_var', run_gtp, run_lc, on_some, on_none, exists_eq_left, exists_eq_left', Option.some.injEq, D.bl.injEq, List.cons.injEq, D.int.injEq, D.loc.injEq, D.tup.injEq, and_true, true_and]
  have : r.clash s = true := by unfold Rm.clash; exact decide_eq_true ⟨hc1.2, hc1.1, hc2.2, hc2.1, hc3.2, hc3.1⟩
  rw [← this]; exact q _ (g1.trans (g2.trans g3))
end
end Wwindfleet_k37_rooms_grown_and_clashing

end
section
set_option maxHeartbeats 4000000
/-! Two rooms; rooms drawn. -/
namespace Wwindfleet_k37_rooms_grown_and_clashing
open PySem Ev
open L2 (atI ixN Key)
theorem gkC {a b : D} : gI 0 2 [1, 0] [] [a, b] = [b, a] := rfl
theorem gkG {a b c : D} : gI 0 3 [2, 1, 0] [] [a, b, c] = [c, b, a] := rfl
theorem near_eq {r s : Rm} {w h day m : Int} (r1 : r.ok w h day) (s1 : s.ok w h day) (hm : 0 ≤ m) : (r.grow w h m).clash s = decide (mx (mx3 (r.a - s.c) (s.a - r.c) 0) (mx3 (r.b - s.d) (s.b - r.d) 0) ≤ m ∧ r.f ≤ s.l ∧ s.f ≤ r.l) := by
  obtain ⟨⟨⟨a0, a1, a2⟩, b0, b1, b2⟩, c0, c1, c2⟩ := r1
  obtain ⟨⟨⟨d0, d1, d2⟩, e0, e1, e2⟩, f0, f1, f2⟩ := s1
  unfold Rm.clash Rm.grow
  dsimp only
  apply decide_eq_decide.mpr
  have e : ∀ x y : Int, mx x y ≤ m ↔ x ≤ m ∧ y ≤ m := by intro x y; unfold mx; split <;> omega
  rw [e, mx3_le, mx3_le]
  unfold mx mn
  constructor
  · rintro ⟨h1, h2, h3, h4, h5, h6⟩
    refine ⟨⟨⟨?_, ?_, hm⟩, ?_, ?_, hm⟩, h5, h6⟩
    · split at h1 <;> omega
    · split at h2 <;> omega
    · split at h3 <;> omega
    · split at h4 <;> omega
  · rintro ⟨⟨⟨h1, h2, _⟩, h3, h4, _⟩, h5, h6⟩
    refine ⟨?_, ?_, ?_, ?_, h5, h6⟩ <;> split <;> omega
section
variable {S : Sto} {Q : D → Sto → Prop} {R : Out → Sto → Prop} {env : DEnv} {n c d l z : Nat} {L : Lnd} {m x y w h day : Int} {r s : Rm} {gg : MG} {st : MS}
theorem gap0 : Run (p_law_gap [r.D, s.D, .int 0]) S Q ↔ Q (.int (mx3 (r.a - s.c) (s.a - r.c) 0)) S := by
  have e1 : atI [D.int r.a, D.int r.b, D.int r.c, D.int r.d, D.int r.f, D.int r.l] (0 + 2) = some (.int r.c) := at2
  have e2 : atI [D.int s.a, D.int s.b, D.int s.c, D.int s.d, D.int s.f, D.int s.l] (0 + 2) = some (.int s.c) := at2
  unfold p_law_gap
  simp only [fn_rt, fn_nx, seq_nx, seq_rt, seq_bk, seq_ct, turn_nx, turn_ct, turn_bk, turn_rt, run_fn, run_seq, run_asg, run_op, run_un, run_nil, run_cons, run_tup, run_lst, run_and, run_or, run_not, run_if, run_chain, run_call, run_callK, run_B, run_add, run_sub, run_lt, run_le, run_gt, run_ge, run_neg, run_mod, run_div, run_pow, run_mul, run_is, iN0, iN1, iN2, iN3, iN4, iN5, run_eqInt, run_eqStr, run_intB, run_min, run_max, run_lenT, run_mt0, run_mt, run_pass, run_rt, run_drop, run_sif, run_gn, run_par, run_gsn, run_gsc, run_gsb, run_for, run_iR1, run_iR2, run_ret, run_new, run_C, run_var', run_gtp, run_lc, on_some, on_none, exists_eq_left, exists_eq_left', Option.some.injEq, D.bl.injEq, List.cons.injEq, D.int.injEq, D.loc.injEq, D.tup.injEq, and_true, true_and, startD, List.map_cons, List.map_nil, List.length_cons, List.length_nil, List.replicate, List.cons_append, List.nil_append, List.getElem?_cons_zero, List.getElem?_cons_succ, List.getElem?_nil, List.set_cons_zero, List.set_cons_succ, List.set_nil, Nat.add_zero, Nat.zero_add, Nat.reduceAdd, Nat.reduceSub, Rm.D, run_ixM, at0, e1, e2, run_max3']
theorem gap1 : Run (p_law_gap [r.D, s.D, .int 1]) S Q ↔ Q (.int (mx3 (r.b - s.d) (s.b - r.d) 0)) S := by
  have e1 : atI [D.int r.a, D.int r.b, D.int r.c, D.int r.d, D.int r.f, D.int r.l] (1 + 2) = some (.int r.d) := at3
  have e2 : atI [D.int s.a, D.int s.b, D.int s.c, D.int s.d, D.int s.f, D.int s.l] (1 + 2) = some (.int s.d) := at3
  unfold p_law_gap
  simp only [fn_rt, fn_nx, seq_nx, seq_rt, seq_bk, seq_ct, turn_nx, turn_ct, turn_bk, turn_rt, run_fn, run_seq, run_asg, run_op, run_un, run_nil, run_cons, run_tup, run_lst, run_and, run_or, run_not, run_if, run_chain, run_call, run_callK, run_B, run_add, run_sub, run_lt, run_le, run_gt, run_ge, run_neg, run_mod, run_div, run_pow, run_mul, run_is, iN0, iN1, iN2, iN3, iN4, iN5, run_eqInt, run_eqStr, run_intB, run_min, run_max, run_lenT, run_mt0, run_mt, run_pass, run_rt, run_drop, run_sif, run_gn, run_par, run_gsn, run_gsc, run_gsb, run_for, run_iR1, run_iR2, run_ret, run_new, run_C, run_var', run_gtp, run_lc, on_some, on_none, exists_eq_left, exists_eq_left', Option.some.injEq, D.bl.injEq, List.cons.injEq, D.int.injEq, D.loc.injEq, D.tup.injEq, and_true, true_and, startD, List.map_cons, List.map_nil, List.length_cons, List.length_nil, List.replicate, List.cons_append, List.nil_append, List.getElem?_cons_zero, List.getElem?_cons_succ, List.getElem?_nil, List.set_cons_zero, List.set_cons_succ, List.set_nil, Nat.add_zero, Nat.zero_add, Nat.reduceAdd, Nat.reduceSub, Rm.D, run_ixM, at1, e1, e2, run_max3']
theorem Rm.sm {w h day : Int} {r : Rm} (ok : r.ok w h day) (hw : w ≤ 12) (hh : h ≤ 12) (hd : day ≤ 24) : Sm r.D 1 246 := by
  obtain ⟨⟨⟨a0, a1, a2⟩, b0, b1, b2⟩, c0, c1, c2⟩ := ok
  exact Sm.tup (k := 0) (.cons (.int (by omega)) (.cons (.int (by omega)) (.cons (.int (by omega)) (.cons (.int (by omega)) (.cons (.int (by omega)) (.cons (.int (by omega)) .nil))))))
theorem eqT {t u : Str} (h : t = u) : (decide (t = u) != true) = false := by subst h; simp
theorem eqF {t u : Str} (h : t = u) : (decide (t = u) != false) = true := by subst h; simp
theorem two_run (hl : LandAt l L S) (hw : L.w ≤ 12) (hh : L.h ≤ 12) (hd : L.day ≤ 24) (r1 : r.ok L.w L.h L.day) (s1 : s.ok L.w L.h L.day) (hm : 0 ≤ m ∧ m ≤ 100) (q : ∀ S', Gr S S' → Q (.bl true) S') : Run (p_law_two_right [.loc l, r.D, s.D, .int m]) S Q := by
  have sz : (sizeLine : Nat) = 16777216 := sizeLine_eq
  have ksm : Sm (.tup [r.D, s.D]) 2 600 := Sm.le (Sm.tup (.cons (Rm.sm r1 hw hh hd) (.cons (Rm.sm s1 hw hh hd) .nil))) (by omega)
  have bsm : SmL [D.bl (r.clash s), .bl (r.clash s), .bl (r.clash s)] 0 10 := SmL.le (.cons .bl (.cons .bl (.cons .bl .nil))) (by omega)
  have cc : s.clash r = r.clash s := by unfold Rm.clash; apply decide_eq_decide.mpr; constructor <;> (rintro ⟨h1, h2, h3, h4, h5, h6⟩; exact ⟨h2, h1, h4, h3, h6, h5⟩)
  unfold p_law_two_right
  rw [run_fn, run_seq, run_par, run_cons, run_call]
  simp only [fn_rt, fn_nx, seq_nx, seq_rt, seq_bk, seq_ct, turn_nx, turn_ct, turn_bk, turn_rt, run_fn, run_seq, run_asg, run_op, run_un, run_nil, run_cons, run_tup, run_lst, run_and, run_or, run_not, run_if, run_chain, run_call, run_callK, run_B, run_add, run_sub, run_lt, run_le, run_gt, run_ge, run_neg, run_mod, run_div, run_pow, run_mul, run_is, iN0, iN1, iN2, iN3, iN4, iN5, run_eqInt, run_eqStr, run_intB, run_min, run_max, run_lenT, run_mt0, run_mt, run_pass, run_rt, run_drop, run_sif, run_gn, run_par, run_gsn, run_gsc, run_gsb, run_for, run_iR1, run_iR2, run_ret, run_new, run_C, run_var', run_gtp, run_lc, on_some, on_none, exists_eq_left, exists_eq_left', Option.some.injEq, D.bl.injEq, List.cons.injEq, D.int.injEq, D.loc.injEq, D.tup.injEq, and_true, true_and, startD, List.map_cons, List.map_nil, List.length_cons, List.length_nil, List.replicate, List.cons_append, List.nil_append, List.getElem?_cons_zero, List.getElem?_cons_succ, List.getElem?_nil, List.set_cons_zero, List.set_cons_succ, List.set_nil, Nat.add_zero, Nat.zero_add, Nat.reduceAdd, Nat.reduceSub]
  refine meetl_run r1 s1 hw hh hd fun S1 g1 => ?_
  try simp only [fn_rt, fn_nx, seq_nx, seq_rt, seq_bk, seq_ct, turn_nx, turn_ct, turn_bk, turn_rt, run_fn, run_seq, run_asg, run_op, run_un, run_nil, run_cons, run_tup, run_lst, run_and, run_or, run_not, run_if, run_chain, run_call, run_callK, run_B, run_add, run_sub, run_lt, run_le, run_gt, run_ge, run_neg, run_mod, run_div, run_pow, run_mul, run_is, iN0, iN1, iN2, iN3, iN4, iN5, run_eqInt, run_eqStr, run_intB, run_min, run_max, run_lenT, run_mt0, run_mt, run_pass, run_rt, run_drop, run_sif, run_gn, run_par, run_gsn, run_gsc, run_gsb, run_for, run_iR1, run_iR2, run_ret, run_new, run_C, run_var', run_gtp, run_lc, on_some, on_none, exists_eq_left, exists_eq_left', Option.some.injEq, D.bl.injEq, List.cons.injEq, D.int.injEq, D.loc.injEq, D.tup.injEq, and_true, true_and, startD, List.map_cons, List.map_nil, List.length_cons, List.length_nil, List.replicate, List.cons_append, List.nil_append, List.getElem?_cons_zero, List.getElem?_cons_succ, List.getElem?_nil, List.set_cons_zero, List.set_cons_succ, List.set_nil, Nat.add_zero, Nat.zero_add, Nat.reduceAdd, Nat.reduceSub]
  refine (ksm.repr (by decide) (by decide)).mpr ?_
  refine ⟨_, _, ⟨rfl, rfl⟩, ?_⟩
  unfold p_law_two_right_4
  simp only [fn_rt, fn_nx, seq_nx, seq_rt, seq_bk, seq_ct, turn_nx, turn_ct, turn_bk, turn_rt, run_fn, run_seq, run_asg, run_op, run_un, run_nil, run_cons, run_tup, run_lst, run_and, run_or, run_not, run_if, run_chain, run_call, run_callK, run_B, run_add, run_sub, run_lt, run_le, run_gt, run_ge, run_neg, run_mod, run_div, run_pow, run_mul, run_is, iN0, iN1, iN2, iN3, iN4, iN5, run_eqInt, run_eqStr, run_intB, run_min, run_max, run_lenT, run_mt0, run_mt, run_pass, run_rt, run_drop, run_sif, run_gn, run_par, run_gsn, run_gsc, run_gsb, run_for, run_iR1, run_iR2, run_ret, run_new, run_C, run_var', run_gtp, run_lc, on_some, on_none, exists_eq_left, exists_eq_left', Option.some.injEq, D.bl.injEq, List.cons.injEq, D.int.injEq, D.loc.injEq, D.tup.injEq, and_true, true_and, startD, List.map_cons, List.map_nil, List.length_cons, List.length_nil, List.replicate, List.cons_append, List.nil_append, List.getElem?_cons_zero, List.getElem?_cons_succ, List.getElem?_nil, List.set_cons_zero, List.set_cons_succ, List.set_nil, Nat.add_zero, Nat.zero_add, Nat.reduceAdd, Nat.reduceSub, gkC, clash_run, cc]
  have G2 := g1.trans (Gr.app S1 (.lst [D.bl (r.clash s), .bl (r.clash s), .bl (r.clash s)]))
  have h2 : (S1 ++ [O.lst [D.bl (r.clash s), .bl (r.clash s), .bl (r.clash s)]])[S1.length]? = _ := get_new
  generalize S1 ++ [O.lst [D.bl (r.clash s), .bl (r.clash s), .bl (r.clash s)]] = S2 at G2 h2 ⊢
  generalize S1.length = z2 at h2 ⊢
  unfold p_law_two_right_3
  rw [run_seq, run_sif, run_op, run_B, run_cons, run_var rfl, run_nil]
  refine (bsm.repr (by decide) (by decide) h2).mpr ?_
  simp only [fn_rt, fn_nx, seq_nx, seq_rt, seq_bk, seq_ct, turn_nx, turn_ct, turn_bk, turn_rt, run_fn, run_seq, run_asg, run_op, run_un, run_nil, run_cons, run_tup, run_lst, run_and, run_or, run_not, run_if, run_chain, run_call, run_callK, run_B, run_add, run_sub, run_lt, run_le, run_gt, run_ge, run_neg, run_mod, run_div, run_pow, run_mul, run_is, iN0, iN1, iN2, iN3, iN4, iN5, run_eqInt, run_eqStr, run_intB, run_min, run_max, run_lenT, run_mt0, run_mt, run_pass, run_rt, run_drop, run_sif, run_gn, run_par, run_gsn, run_gsc, run_gsb, run_for, run_iR1, run_iR2, run_ret, run_new, run_C, run_var', run_gtp, run_lc, on_some, on_none, exists_eq_left, exists_eq_left', Option.some.injEq, D.bl.injEq, List.cons.injEq, D.int.injEq, D.loc.injEq, D.tup.injEq, and_true, true_and, startD, List.map_cons, List.map_nil, List.length_cons, List.length_nil, List.replicate, List.cons_append, List.nil_append, List.getElem?_cons_zero, List.getElem?_cons_succ, List.getElem?_nil, List.set_cons_zero, List.set_cons_succ, List.set_nil, Nat.add_zero, Nat.zero_add, Nat.reduceAdd, Nat.reduceSub]
  refine (run_rep get_new ⟨by decide, by decide, by rw [sz]; show 1 * 3 ≤ 16777216; decide⟩).mpr ?_
  have e3 : rep (Int.toNat 3) [D.bl (r.clash s)] = [D.bl (r.clash s), .bl (r.clash s), .bl (r.clash s)] := rfl
  rw [e3]
  refine (bsm.repr (by decide) (by decide) get_new).mpr ?_
  have G4 := G2.trans ((Gr.app S2 (.lst [D.bl (r.clash s)])).trans (Gr.app _ (.lst [D.bl (r.clash s), .bl (r.clash s), .bl (r.clash s)])))
  generalize S2 ++ [O.lst [D.bl (r.clash s)]] ++ [O.lst [D.bl (r.clash s), .bl (r.clash s), .bl (r.clash s)]] = S4 at G4 ⊢
  simp only [run_eqStr, eqT rfl, fn_rt, fn_nx, seq_nx, seq_rt, seq_bk, seq_ct, turn_nx, turn_ct, turn_bk, turn_rt, run_fn, run_seq, run_asg, run_op, run_un, run_nil, run_cons, run_tup, run_lst, run_and, run_or, run_not, run_if, run_chain, run_call, run_callK, run_B, run_add, run_sub, run_lt, run_le, run_gt, run_ge, run_neg, run_mod, run_div, run_pow, run_mul, run_is, iN0, iN1, iN2, iN3, iN4, iN5, run_eqInt, run_eqStr, run_intB, run_min, run_max, run_lenT, run_mt0, run_mt, run_pass, run_rt, run_drop, run_sif, run_gn, run_par, run_gsn, run_gsc, run_gsb, run_for, run_iR1, run_iR2, run_ret, run_new, run_C, run_var', run_gtp, run_lc, on_some, on_none, exists_eq_left, exists_eq_left', Option.some.injEq, D.bl.injEq, List.cons.injEq, D.int.injEq, D.loc.injEq, D.tup.injEq, and_true, true_and, startD, List.map_cons, List.map_nil, List.length_cons, List.length_nil, List.replicate, List.cons_append, List.nil_append, List.getElem?_cons_zero, List.getElem?_cons_succ, List.getElem?_nil, List.set_cons_zero, List.set_cons_succ, List.set_nil, Nat.add_zero, Nat.zero_add, Nat.reduceAdd, Nat.reduceSub, bne_self_eq_false, Bool.false_eq_true, if_false]
  unfold p_law_two_right_2
  have hnear := near_eq (h := L.h) (w := L.w) r1 s1 hm.1
  have fin : ∀ b : Bool, b = (r.grow L.w L.h m).clash s → Run (p_law_two_right_1 [some (.loc l), some r.D, some s.D, some (.int m), some (.bl (r.clash s)), some (.str (shw (.tup [r.D, s.D]))), some (.loc z2), some (.bl b)]) S4 (onFn Q) := by
    intro b hb
    unfold p_law_two_right_1
    rw [run_rt, run_and, run_op, run_B, run_cons, run_call]
    simp only [fn_rt, fn_nx, seq_nx, seq_rt, seq_bk, seq_ct, turn_nx, turn_ct, turn_bk, turn_rt, run_fn, run_seq, run_asg, run_op, run_un, run_nil, run_cons, run_tup, run_lst, run_and, run_or, run_not, run_if, run_chain, run_call, run_callK, run_B, run_add, run_sub, run_lt, run_le, run_gt, run_ge, run_neg, run_mod, run_div, run_pow, run_mul, run_is, iN0, iN1, iN2, iN3, iN4, iN5, run_eqInt, run_eqStr, run_intB, run_min, run_max, run_lenT, run_mt0, run_mt, run_pass, run_rt, run_drop, run_sif, run_gn, run_par, run_gsn, run_gsc, run_gsb, run_for, run_iR1, run_iR2, run_ret, run_new, run_C, run_var', run_gtp, run_lc, on_some, on_none, exists_eq_left, exists_eq_left', Option.some.injEq, D.bl.injEq, List.cons.injEq, D.int.injEq, D.loc.injEq, D.tup.injEq, and_true, true_and, startD, List.map_cons, List.map_nil, List.length_cons, List.length_nil, List.replicate, List.cons_append, List.nil_append, List.getElem?_cons_zero, List.getElem?_cons_succ, List.getElem?_nil, List.set_cons_zero, List.set_cons_succ, List.set_nil, Nat.add_zero, Nat.zero_add, Nat.reduceAdd, Nat.reduceSub]
    refine grown_run (rs := [r]) (hl.gr G4) (by simp) fun S5 g5 => ?_
    simp only [fn_rt, fn_nx, seq_nx, seq_rt, seq_bk, seq_ct, turn_nx, turn_ct, turn_bk, turn_rt, run_fn, run_seq, run_asg, run_op, run_un, run_nil, run_cons, run_tup, run_lst, run_and, run_or, run_not, run_if, run_chain, run_call, run_callK, run_B, run_add, run_sub, run_lt, run_le, run_gt, run_ge, run_neg, run_mod, run_div, run_pow, run_mul, run_is, iN0, iN1, iN2, iN3, iN4, iN5, run_eqInt, run_eqStr, run_intB, run_min, run_max, run_lenT, run_mt0, run_mt, run_pass, run_rt, run_drop, run_sif, run_gn, run_par, run_gsn, run_gsc, run_gsb, run_for, run_iR1, run_iR2, run_ret, run_new, run_C, run_var', run_gtp, run_lc, on_some, on_none, exists_eq_left, exists_eq_left', Option.some.injEq, D.bl.injEq, List.cons.injEq, D.int.injEq, D.loc.injEq, D.tup.injEq, and_true, true_and, startD, List.map_cons, List.map_nil, List.length_cons, List.length_nil, List.replicate, List.cons_append, List.nil_append, List.getElem?_cons_zero, List.getElem?_cons_succ, List.getElem?_nil, List.set_cons_zero, List.set_cons_succ, List.set_nil, Nat.add_zero, Nat.zero_add, Nat.reduceAdd, Nat.reduceSub, run_ixM, at0, clash_run]
    have b1 : ∀ b : Bool, Sm (.bl b) 0 0 := fun b => .bl
    refine ((b1 _).repr (by decide) (by decide)).mpr ?_
    refine ((b1 _).repr (by decide) (by decide)).mpr ?_
    rw [hb]
    simp only [run_eqStr, eqF rfl, fn_rt, fn_nx, seq_nx, seq_rt, seq_bk, seq_ct, turn_nx, turn_ct, turn_bk, turn_rt, run_fn, run_seq, run_asg, run_op, run_un, run_nil, run_cons, run_tup, run_lst, run_and, run_or, run_not, run_if, run_chain, run_call, run_callK, run_B, run_add, run_sub, run_lt, run_le, run_gt, run_ge, run_neg, run_mod, run_div, run_pow, run_mul, run_is, iN0, iN1, iN2, iN3, iN4, iN5, run_eqInt, run_eqStr, run_intB, run_min, run_max, run_lenT, run_mt0, run_mt, run_pass, run_rt, run_drop, run_sif, run_gn, run_par, run_gsn, run_gsc, run_gsb, run_for, run_iR1, run_iR2, run_ret, run_new, run_C, run_var', run_gtp, run_lc, on_some, on_none, exists_eq_left, exists_eq_left', Option.some.injEq, D.bl.injEq, List.cons.injEq, D.int.injEq, D.loc.injEq, D.tup.injEq, and_true, true_and, startD, List.map_cons, List.map_nil, List.length_cons, List.length_nil, List.replicate, List.cons_append, List.nil_append, List.getElem?_cons_zero, List.getElem?_cons_succ, List.getElem?_nil, List.set_cons_zero, List.set_cons_succ, List.set_nil, Nat.add_zero, Nat.zero_add, Nat.reduceAdd, Nat.reduceSub, Bool.bne_false, if_true]
    refine (ksm.repr (by decide) (by decide)).mpr ?_
    simp only [run_eqStr, eqF rfl, fn_rt, fn_nx, seq_nx, seq_rt, seq_bk, seq_ct, turn_nx, turn_ct, turn_bk, turn_rt, run_fn, run_seq, run_asg, run_op, run_un, run_nil, run_cons, run_tup, run_lst, run_and, run_or, run_not, run_if, run_chain, run_call, run_callK, run_B, run_add, run_sub, run_lt, run_le, run_gt, run_ge, run_neg, run_mod, run_div, run_pow, run_mul, run_is, iN0, iN1, iN2, iN3, iN4, iN5, run_eqInt, run_eqStr, run_intB, run_min, run_max, run_lenT, run_mt0, run_mt, run_pass, run_rt, run_drop, run_sif, run_gn, run_par, run_gsn, run_gsc, run_gsb, run_for, run_iR1, run_iR2, run_ret, run_new, run_C, run_var', run_gtp, run_lc, on_some, on_none, exists_eq_left, exists_eq_left', Option.some.injEq, D.bl.injEq, List.cons.injEq, D.int.injEq, D.loc.injEq, D.tup.injEq, and_true, true_and, startD, List.map_cons, List.map_nil, List.length_cons, List.length_nil, List.replicate, List.cons_append, List.nil_append, List.getElem?_cons_zero, List.getElem?_cons_succ, List.getElem?_nil, List.set_cons_zero, List.set_cons_succ, List.set_nil, Nat.add_zero, Nat.zero_add, Nat.reduceAdd, Nat.reduceSub, Bool.bne_false]
    exact q _ (G4.trans g5)
  rw [run_seq, run_asg, run_and, run_op]
  simp only [fn_rt, fn_nx, seq_nx, seq_rt, seq_bk, seq_ct, turn_nx, turn_ct, turn_bk, turn_rt, run_fn, run_seq, run_asg, run_op, run_un, run_nil, run_cons, run_tup, run_lst, run_and, run_or, run_not, run_if, run_chain, run_call, run_callK, run_B, run_add, run_sub, run_lt, run_le, run_gt, run_ge, run_neg, run_mod, run_div, run_pow, run_mul, run_is, iN0, iN1, iN2, iN3, iN4, iN5, run_eqInt, run_eqStr, run_intB, run_min, run_max, run_lenT, run_mt0, run_mt, run_pass, run_rt, run_drop, run_sif, run_gn, run_par, run_gsn, run_gsc, run_gsb, run_for, run_iR1, run_iR2, run_ret, run_new, run_C, run_var', run_gtp, run_lc, on_some, on_none, exists_eq_left, exists_eq_left', Option.some.injEq, D.bl.injEq, List.cons.injEq, D.int.injEq, D.loc.injEq, D.tup.injEq, and_true, true_and, startD, List.map_cons, List.map_nil, List.length_cons, List.length_nil, List.replicate, List.cons_append, List.nil_append, List.getElem?_cons_zero, List.getElem?_cons_succ, List.getElem?_nil, List.set_cons_zero, List.set_cons_succ, List.set_nil, Nat.add_zero, Nat.zero_add, Nat.reduceAdd, Nat.reduceSub, gap0, gap1]
  simp only [fn_rt, fn_nx, seq_nx, seq_rt, seq_bk, seq_ct, turn_nx, turn_ct, turn_bk, turn_rt, run_fn, run_seq, run_asg, run_op, run_un, run_nil, run_cons, run_tup, run_lst, run_and, run_or, run_not, run_if, run_chain, run_call, run_callK, run_B, run_add, run_sub, run_lt, run_le, run_gt, run_ge, run_neg, run_mod, run_div, run_pow, run_mul, run_is, iN0, iN1, iN2, iN3, iN4, iN5, run_eqInt, run_eqStr, run_intB, run_min, run_max, run_lenT, run_mt0, run_mt, run_pass, run_rt, run_drop, run_sif, run_gn, run_par, run_gsn, run_gsc, run_gsb, run_for, run_iR1, run_iR2, run_ret, run_new, run_C, run_var', run_gtp, run_lc, on_some, on_none, exists_eq_left, exists_eq_left', Option.some.injEq, D.bl.injEq, List.cons.injEq, D.int.injEq, D.loc.injEq, D.tup.injEq, and_true, true_and, startD, List.map_cons, List.map_nil, List.length_cons, List.length_nil, List.replicate, List.cons_append, List.nil_append, List.getElem?_cons_zero, List.getElem?_cons_succ, List.getElem?_nil, List.set_cons_zero, List.set_cons_succ, List.set_nil, Nat.add_zero, Nat.zero_add, Nat.reduceAdd, Nat.reduceSub, run_ixM, Rm.D, at4, at5]
  by_cases c1 : mx (mx3 (r.a - s.c) (s.a - r.c) 0) (mx3 (r.b - s.d) (s.b - r.d) 0) ≤ m
  · have c1' : (if mx3 (r.b - s.d) (s.b - r.d) 0 > mx3 (r.a - s.c) (s.a - r.c) 0 then mx3 (r.b - s.d) (s.b - r.d) 0 else mx3 (r.a - s.c) (s.a - r.c) 0) ≤ m := c1
    simp only [c1', decide_true, if_true]
    by_cases c2 : r.f ≤ s.l
    · simp only [c2, decide_true, if_true]
      refine fin _ ?_
      rw [hnear]
      simp [c1, c2]
    · simp only [c2, decide_false, Bool.false_eq_true, if_false]
      refine fin _ ?_
      rw [hnear]
      simp [c2]
  · have c1' : ¬ (if mx3 (r.b - s.d) (s.b - r.d) 0 > mx3 (r.a - s.c) (s.a - r.c) 0 then mx3 (r.b - s.d) (s.b - r.d) 0 else mx3 (r.a - s.c) (s.a - r.c) 0) ≤ m := c1
    simp only [c1', decide_false, Bool.false_eq_true, if_false]
    refine fin _ ?_
    rw [hnear]
    simp [c1]
end
end Wwindfleet_k37_rooms_grown_and_clashing

end
section
set_option maxHeartbeats 4000000
/-! Rooms drawn. -/
namespace Wwindfleet_k37_rooms_grown_and_clashing
open PySem Ev
open L2 (atI ixN Key)
section
variable {S : Sto} {Q : D → Sto → Prop} {R : Out → Sto → Prop} {env : DEnv} {n c d l z : Nat} {L : Lnd} {m x y w h day : Int} {r s : Rm} {gg : MG} {st : MS} {tt a : ME} {G : List D → Sto → Prop}
theorem run_loopC_cons {it : Its} {y : D} {ys : List D} (hg : Gd it S = true) (h : Run (gg y env) S fun e1 S2 => Run (tt e1) S2 fun b S3 => ∃ k, b = .bl k ∧ (if k = true then Run (a e1) S3 fun d S4 => Run (loopC it gg tt a env ys) S4 fun ds S5 => G (d :: ds) S5 else Run (loopC it gg tt a env ys) S3 G)) : Run (loopC it gg tt a env (y :: ys)) S G := by
  have key : Run (bd (gg y env) fun e1 => bd (tt e1) fun b => match b with
    | .bl true => bd (a e1) fun d => bd (loopC it gg tt a env ys) fun ds => ret (d :: ds)
    | .bl false => loopC it gg tt a env ys
    | _ => no) S G := by
    rw [run_bd]
    refine h.mono fun e1 S2 h2 => ?_
    rw [run_bd]
    refine h2.mono fun b S3 ⟨k, e, h3⟩ => ?_
    subst e
    cases k with
    | true =>
      rw [if_pos rfl] at h3
      show Run (bd (a e1) fun d => bd (loopC it gg tt a env ys) fun ds => ret (d :: ds)) S3 _
      rw [run_bd]
      refine h3.mono fun d S4 h4 => ?_
      rw [run_bd]
      refine h4.mono fun ds S5 h5 => ?_
      rw [run_ret]
      exact h5
    | false =>
      rw [if_neg Bool.false_ne_true] at h3
      exact h3
  obtain ⟨d, S', e, q⟩ := key
  refine ⟨d, S', ?_, q⟩
  unfold loopC
  rw [if_pos hg]
  exact e
theorem run_loopC_nil {it : Its} (hg : Gd it S = true) (h : G [] S) : Run (loopC it gg tt a env []) S G := by
  refine (run_some ?_).mpr h
  unfold loopC
  rw [if_pos hg]
theorem run_up {xs : List D} {k : Nat} {gs : List D → DEnv → M DEnv} {H : DEnv → Sto → Prop} (hz : S[z]? = some (.lst xs)) (hl : xs.length = k) (q : Run (gs xs env) S H) : Run (gUp k gs (.loc z) env) S H := by
  obtain ⟨e, S', h1, h2⟩ := q
  exact ⟨e, S', by unfold gUp; dsimp only; rw [hz]; dsimp only; rw [if_pos hl]; exact h1, h2⟩
def Szs (z : Nat) (w h day : Int) (S : Sto) : Prop := S[z]? = some (.lst [.int w, .int h, .int day])
theorem space_gen (hz : Szs z w h day S) (D0 : Dk n c S) (n1 : z ≠ n) (n2 : z ≠ c) (hw : 1 ≤ w ∧ w ≤ 12) (hh : 1 ≤ h ∧ h ≤ 12) (hd : 1 ≤ day ∧ day ≤ 24) (q : ∀ (r : Rm) S', r.ok w h day → Dk n c S' → Keep n c S S' → Q r.D S') : Run (p_law_space [.loc n, .loc z]) S Q := by
  have sz : (sizeLine : Nat) = 16777216 := sizeLine_eq
  unfold p_law_space
  rw [run_fn, run_seq, run_asg, run_lc, run_iR1, run_cons, run_C, run_nil]
  refine ⟨3, rfl, ⟨by decide, by decide⟩, ?_⟩
  have er : rng 0 (Int.toNat 3) = [.int 0, .int 1, .int 2] := rfl
  rw [er]
  simp only [startD, List.map_cons, List.map_nil, List.length_cons, List.length_nil, List.replicate, List.cons_append, List.nil_append, List.getElem?_cons_zero, List.getElem?_cons_succ, List.getElem?_nil, List.set_cons_zero, List.set_cons_succ, List.set_nil, Nat.add_zero, Nat.zero_add, Nat.reduceAdd, Nat.reduceSub, wipeD]
  refine run_loopC_cons Gd.none ?_
  rw [run_gn, run_C]
  refine ⟨true, rfl, ?_⟩
  rw [if_pos rfl]
  simp only [fn_rt, fn_nx, seq_nx, seq_rt, seq_bk, seq_ct, turn_nx, turn_ct, turn_bk, turn_rt, run_fn, run_seq, run_asg, run_op, run_un, run_nil, run_cons, run_tup, run_lst, run_and, run_or, run_not, run_if, run_chain, run_call, run_callK, run_B, run_add, run_sub, run_lt, run_le, run_gt, run_ge, run_neg, run_mod, run_div, run_pow, run_mul, run_is, iN0, iN1, iN2, iN3, iN4, iN5, run_eqInt, run_eqStr, run_intB, run_min, run_max, run_lenT, run_mt0, run_mt, run_pass, run_rt, run_drop, run_sif, run_gn, run_par, run_gsn, run_gsc, run_gsb, run_for, run_iR1, run_iR2, run_ret, run_new, run_C, run_var', run_gtp, run_lc, on_some, on_none, exists_eq_left, exists_eq_left', Option.some.injEq, D.bl.injEq, List.cons.injEq, D.int.injEq, D.loc.injEq, D.tup.injEq, and_true, true_and, startD, List.map_cons, List.map_nil, List.length_cons, List.length_nil, List.replicate, List.cons_append, List.nil_append, List.getElem?_cons_zero, List.getElem?_cons_succ, List.getElem?_nil, List.set_cons_zero, List.set_cons_succ, List.set_nil, Nat.add_zero, Nat.zero_add, Nat.reduceAdd, Nat.reduceSub, bounds_eq]
  refine (run_ixL hz at0).mpr ?_
  simp only [fn_rt, fn_nx, seq_nx, seq_rt, seq_bk, seq_ct, turn_nx, turn_ct, turn_bk, turn_rt, run_fn, run_seq, run_asg, run_op, run_un, run_nil, run_cons, run_tup, run_lst, run_and, run_or, run_not, run_if, run_chain, run_call, run_callK, run_B, run_add, run_sub, run_lt, run_le, run_gt, run_ge, run_neg, run_mod, run_div, run_pow, run_mul, run_is, iN0, iN1, iN2, iN3, iN4, iN5, run_eqInt, run_eqStr, run_intB, run_min, run_max, run_lenT, run_mt0, run_mt, run_pass, run_rt, run_drop, run_sif, run_gn, run_par, run_gsn, run_gsc, run_gsb, run_for, run_iR1, run_iR2, run_ret, run_new, run_C, run_var', run_gtp, run_lc, on_some, on_none, exists_eq_left, exists_eq_left', Option.some.injEq, D.bl.injEq, List.cons.injEq, D.int.injEq, D.loc.injEq, D.tup.injEq, and_true, true_and, startD, List.map_cons, List.map_nil, List.length_cons, List.length_nil, List.replicate, List.cons_append, List.nil_append, List.getElem?_cons_zero, List.getElem?_cons_succ, List.getElem?_nil, List.set_cons_zero, List.set_cons_succ, List.set_nil, Nat.add_zero, Nat.zero_add, Nat.reduceAdd, Nat.reduceSub]
  refine bounds_run D0 (by simp; omega) (by simp; omega) fun va S1 a0 a1 D1 K1 => ?_
  refine run_loopC_cons Gd.none ?_
  rw [run_gn, run_C]
  refine ⟨true, rfl, ?_⟩
  rw [if_pos rfl]
  simp only [fn_rt, fn_nx, seq_nx, seq_rt, seq_bk, seq_ct, turn_nx, turn_ct, turn_bk, turn_rt, run_fn, run_seq, run_asg, run_op, run_un, run_nil, run_cons, run_tup, run_lst, run_and, run_or, run_not, run_if, run_chain, run_call, run_callK, run_B, run_add, run_sub, run_lt, run_le, run_gt, run_ge, run_neg, run_mod, run_div, run_pow, run_mul, run_is, iN0, iN1, iN2, iN3, iN4, iN5, run_eqInt, run_eqStr, run_intB, run_min, run_max, run_lenT, run_mt0, run_mt, run_pass, run_rt, run_drop, run_sif, run_gn, run_par, run_gsn, run_gsc, run_gsb, run_for, run_iR1, run_iR2, run_ret, run_new, run_C, run_var', run_gtp, run_lc, on_some, on_none, exists_eq_left, exists_eq_left', Option.some.injEq, D.bl.injEq, List.cons.injEq, D.int.injEq, D.loc.injEq, D.tup.injEq, and_true, true_and, startD, List.map_cons, List.map_nil, List.length_cons, List.length_nil, List.replicate, List.cons_append, List.nil_append, List.getElem?_cons_zero, List.getElem?_cons_succ, List.getElem?_nil, List.set_cons_zero, List.set_cons_succ, List.set_nil, Nat.add_zero, Nat.zero_add, Nat.reduceAdd, Nat.reduceSub, bounds_eq]
  refine (run_ixL (K1.at_ _ _ hz n1 n2) at1).mpr ?_
  simp only [fn_rt, fn_nx, seq_nx, seq_rt, seq_bk, seq_ct, turn_nx, turn_ct, turn_bk, turn_rt, run_fn, run_seq, run_asg, run_op, run_un, run_nil, run_cons, run_tup, run_lst, run_and, run_or, run_not, run_if, run_chain, run_call, run_callK, run_B, run_add, run_sub, run_lt, run_le, run_gt, run_ge, run_neg, run_mod, run_div, run_pow, run_mul, run_is, iN0, iN1, iN2, iN3, iN4, iN5, run_eqInt, run_eqStr, run_intB, run_min, run_max, run_lenT, run_mt0, run_mt, run_pass, run_rt, run_drop, run_sif, run_gn, run_par, run_gsn, run_gsc, run_gsb, run_for, run_iR1, run_iR2, run_ret, run_new, run_C, run_var', run_gtp, run_lc, on_some, on_none, exists_eq_left, exists_eq_left', Option.some.injEq, D.bl.injEq, List.cons.injEq, D.int.injEq, D.loc.injEq, D.tup.injEq, and_true, true_and, startD, List.map_cons, List.map_nil, List.length_cons, List.length_nil, List.replicate, List.cons_append, List.nil_append, List.getElem?_cons_zero, List.getElem?_cons_succ, List.getElem?_nil, List.set_cons_zero, List.set_cons_succ, List.set_nil, Nat.add_zero, Nat.zero_add, Nat.reduceAdd, Nat.reduceSub]
  refine bounds_run D1 (by simp; omega) (by simp; omega) fun vb S2 b0 b1 D2 K2 => ?_
  have K2' := K1.trans K2
  refine run_loopC_cons Gd.none ?_
  rw [run_gn, run_C]
  refine ⟨true, rfl, ?_⟩
  rw [if_pos rfl]
  simp only [fn_rt, fn_nx, seq_nx, seq_rt, seq_bk, seq_ct, turn_nx, turn_ct, turn_bk, turn_rt, run_fn, run_seq, run_asg, run_op, run_un, run_nil, run_cons, run_tup, run_lst, run_and, run_or, run_not, run_if, run_chain, run_call, run_callK, run_B, run_add, run_sub, run_lt, run_le, run_gt, run_ge, run_neg, run_mod, run_div, run_pow, run_mul, run_is, iN0, iN1, iN2, iN3, iN4, iN5, run_eqInt, run_eqStr, run_intB, run_min, run_max, run_lenT, run_mt0, run_mt, run_pass, run_rt, run_drop, run_sif, run_gn, run_par, run_gsn, run_gsc, run_gsb, run_for, run_iR1, run_iR2, run_ret, run_new, run_C, run_var', run_gtp, run_lc, on_some, on_none, exists_eq_left, exists_eq_left', Option.some.injEq, D.bl.injEq, List.cons.injEq, D.int.injEq, D.loc.injEq, D.tup.injEq, and_true, true_and, startD, List.map_cons, List.map_nil, List.length_cons, List.length_nil, List.replicate, List.cons_append, List.nil_append, List.getElem?_cons_zero, List.getElem?_cons_succ, List.getElem?_nil, List.set_cons_zero, List.set_cons_succ, List.set_nil, Nat.add_zero, Nat.zero_add, Nat.reduceAdd, Nat.reduceSub, bounds_eq]
  refine (run_ixL (K2'.at_ _ _ hz n1 n2) at2).mpr ?_
  simp only [fn_rt, fn_nx, seq_nx, seq_rt, seq_bk, seq_ct, turn_nx, turn_ct, turn_bk, turn_rt, run_fn, run_seq, run_asg, run_op, run_un, run_nil, run_cons, run_tup, run_lst, run_and, run_or, run_not, run_if, run_chain, run_call, run_callK, run_B, run_add, run_sub, run_lt, run_le, run_gt, run_ge, run_neg, run_mod, run_div, run_pow, run_mul, run_is, iN0, iN1, iN2, iN3, iN4, iN5, run_eqInt, run_eqStr, run_intB, run_min, run_max, run_lenT, run_mt0, run_mt, run_pass, run_rt, run_drop, run_sif, run_gn, run_par, run_gsn, run_gsc, run_gsb, run_for, run_iR1, run_iR2, run_ret, run_new, run_C, run_var', run_gtp, run_lc, on_some, on_none, exists_eq_left, exists_eq_left', Option.some.injEq, D.bl.injEq, List.cons.injEq, D.int.injEq, D.loc.injEq, D.tup.injEq, and_true, true_and, startD, List.map_cons, List.map_nil, List.length_cons, List.length_nil, List.replicate, List.cons_append, List.nil_append, List.getElem?_cons_zero, List.getElem?_cons_succ, List.getElem?_nil, List.set_cons_zero, List.set_cons_succ, List.set_nil, Nat.add_zero, Nat.zero_add, Nat.reduceAdd, Nat.reduceSub]
  refine bounds_run D2 (by simp; omega) (by simp; omega) fun vc S3 c0 c1 D3 K3 => ?_
  have K3' := K2'.trans K3
  refine run_loopC_nil Gd.none ?_
  refine ⟨by simp; omega, ?_⟩
  refine run_up get_new rfl ?_
  have D4 := D3.app (.lst [.int va, .int vb, .int vc])
  have K4 := K3'.trans (Keep.app n c S3 (.lst [.int va, .int vb, .int vc]))
  generalize S3 ++ [O.lst [.int va, .int vb, .int vc]] = S4 at D4 K4 ⊢
  simp only [run_gsc, run_gsn, run_gn, startD, List.map_cons, List.map_nil, List.length_cons, List.length_nil, List.replicate, List.cons_append, List.nil_append, List.getElem?_cons_zero, List.getElem?_cons_succ, List.getElem?_nil, List.set_cons_zero, List.set_cons_succ, List.set_nil, Nat.add_zero, Nat.zero_add, Nat.reduceAdd, Nat.reduceSub]
  try simp only [fn_rt, fn_nx, seq_nx, seq_rt, seq_bk, seq_ct, turn_nx, turn_ct, turn_bk, turn_rt, run_fn, run_seq, run_asg, run_op, run_un, run_nil, run_cons, run_tup, run_lst, run_and, run_or, run_not, run_if, run_chain, run_call, run_callK, run_B, run_add, run_sub, run_lt, run_le, run_gt, run_ge, run_neg, run_mod, run_div, run_pow, run_mul, run_is, iN0, iN1, iN2, iN3, iN4, iN5, run_eqInt, run_eqStr, run_intB, run_min, run_max, run_lenT, run_mt0, run_mt, run_pass, run_rt, run_drop, run_sif, run_gn, run_par, run_gsn, run_gsc, run_gsb, run_for, run_iR1, run_iR2, run_ret, run_new, run_C, run_var', run_gtp, run_lc, on_some, on_none, exists_eq_left, exists_eq_left', Option.some.injEq, D.bl.injEq, List.cons.injEq, D.int.injEq, D.loc.injEq, D.tup.injEq, and_true, true_and]
  unfold p_law_space_2
  simp only [fn_rt, fn_nx, seq_nx, seq_rt, seq_bk, seq_ct, turn_nx, turn_ct, turn_bk, turn_rt, run_fn, run_seq, run_asg, run_op, run_un, run_nil, run_cons, run_tup, run_lst, run_and, run_or, run_not, run_if, run_chain, run_call, run_callK, run_B, run_add, run_sub, run_lt, run_le, run_gt, run_ge, run_neg, run_mod, run_div, run_pow, run_mul, run_is, iN0, iN1, iN2, iN3, iN4, iN5, run_eqInt, run_eqStr, run_intB, run_min, run_max, run_lenT, run_mt0, run_mt, run_pass, run_rt, run_drop, run_sif, run_gn, run_par, run_gsn, run_gsc, run_gsb, run_for, run_iR1, run_iR2, run_ret, run_new, run_C, run_var', run_gtp, run_lc, on_some, on_none, exists_eq_left, exists_eq_left', Option.some.injEq, D.bl.injEq, List.cons.injEq, D.int.injEq, D.loc.injEq, D.tup.injEq, and_true, true_and, startD, List.map_cons, List.map_nil, List.length_cons, List.length_nil, List.replicate, List.cons_append, List.nil_append, List.getElem?_cons_zero, List.getElem?_cons_succ, List.getElem?_nil, List.set_cons_zero, List.set_cons_succ, List.set_nil, Nat.add_zero, Nat.zero_add, Nat.reduceAdd, Nat.reduceSub, bounds_eq]
  simp at a1 b1 c1
  refine (run_ixL (K4.at_ _ _ hz n1 n2) at0).mpr ?_
  simp only [fn_rt, fn_nx, seq_nx, seq_rt, seq_bk, seq_ct, turn_nx, turn_ct, turn_bk, turn_rt, run_fn, run_seq, run_asg, run_op, run_un, run_nil, run_cons, run_tup, run_lst, run_and, run_or, run_not, run_if, run_chain, run_call, run_callK, run_B, run_add, run_sub, run_lt, run_le, run_gt, run_ge, run_neg, run_mod, run_div, run_pow, run_mul, run_is, iN0, iN1, iN2, iN3, iN4, iN5, run_eqInt, run_eqStr, run_intB, run_min, run_max, run_lenT, run_mt0, run_mt, run_pass, run_rt, run_drop, run_sif, run_gn, run_par, run_gsn, run_gsc, run_gsb, run_for, run_iR1, run_iR2, run_ret, run_new, run_C, run_var', run_gtp, run_lc, on_some, on_none, exists_eq_left, exists_eq_left', Option.some.injEq, D.bl.injEq, List.cons.injEq, D.int.injEq, D.loc.injEq, D.tup.injEq, and_true, true_and, startD, List.map_cons, List.map_nil, List.length_cons, List.length_nil, List.replicate, List.cons_append, List.nil_append, List.getElem?_cons_zero, List.getElem?_cons_succ, List.getElem?_nil, List.set_cons_zero, List.set_cons_succ, List.set_nil, Nat.add_zero, Nat.zero_add, Nat.reduceAdd, Nat.reduceSub]
  refine bounds_run D4 (by omega) (by omega) fun vd S5 d0 d1 D5 K5 => ?_
  have K5' := K4.trans K5
  refine (run_ixL (K5'.at_ _ _ hz n1 n2) at1).mpr ?_
  simp only [fn_rt, fn_nx, seq_nx, seq_rt, seq_bk, seq_ct, turn_nx, turn_ct, turn_bk, turn_rt, run_fn, run_seq, run_asg, run_op, run_un, run_nil, run_cons, run_tup, run_lst, run_and, run_or, run_not, run_if, run_chain, run_call, run_callK, run_B, run_add, run_sub, run_lt, run_le, run_gt, run_ge, run_neg, run_mod, run_div, run_pow, run_mul, run_is, iN0, iN1, iN2, iN3, iN4, iN5, run_eqInt, run_eqStr, run_intB, run_min, run_max, run_lenT, run_mt0, run_mt, run_pass, run_rt, run_drop, run_sif, run_gn, run_par, run_gsn, run_gsc, run_gsb, run_for, run_iR1, run_iR2, run_ret, run_new, run_C, run_var', run_gtp, run_lc, on_some, on_none, exists_eq_left, exists_eq_left', Option.some.injEq, D.bl.injEq, List.cons.injEq, D.int.injEq, D.loc.injEq, D.tup.injEq, and_true, true_and, startD, List.map_cons, List.map_nil, List.length_cons, List.length_nil, List.replicate, List.cons_append, List.nil_append, List.getElem?_cons_zero, List.getElem?_cons_succ, List.getElem?_nil, List.set_cons_zero, List.set_cons_succ, List.set_nil, Nat.add_zero, Nat.zero_add, Nat.reduceAdd, Nat.reduceSub]
  refine bounds_run D5 (by omega) (by omega) fun ve S6 e0 e1 D6 K6 => ?_
  have K6' := K5'.trans K6
  try simp only [fn_rt, fn_nx, seq_nx, seq_rt, seq_bk, seq_ct, turn_nx, turn_ct, turn_bk, turn_rt, run_fn, run_seq, run_asg, run_op, run_un, run_nil, run_cons, run_tup, run_lst, run_and, run_or, run_not, run_if, run_chain, run_call, run_callK, run_B, run_add, run_sub, run_lt, run_le, run_gt, run_ge, run_neg, run_mod, run_div, run_pow, run_mul, run_is, iN0, iN1, iN2, iN3, iN4, iN5, run_eqInt, run_eqStr, run_intB, run_min, run_max, run_lenT, run_mt0, run_mt, run_pass, run_rt, run_drop, run_sif, run_gn, run_par, run_gsn, run_gsc, run_gsb, run_for, run_iR1, run_iR2, run_ret, run_new, run_C, run_var', run_gtp, run_lc, on_some, on_none, exists_eq_left, exists_eq_left', Option.some.injEq, D.bl.injEq, List.cons.injEq, D.int.injEq, D.loc.injEq, D.tup.injEq, and_true, true_and, startD, List.map_cons, List.map_nil, List.length_cons, List.length_nil, List.replicate, List.cons_append, List.nil_append, List.getElem?_cons_zero, List.getElem?_cons_succ, List.getElem?_nil, List.set_cons_zero, List.set_cons_succ, List.set_nil, Nat.add_zero, Nat.zero_add, Nat.reduceAdd, Nat.reduceSub]
  unfold p_law_space_1
  simp only [fn_rt, fn_nx, seq_nx, seq_rt, seq_bk, seq_ct, turn_nx, turn_ct, turn_bk, turn_rt, run_fn, run_seq, run_asg, run_op, run_un, run_nil, run_cons, run_tup, run_lst, run_and, run_or, run_not, run_if, run_chain, run_call, run_callK, run_B, run_add, run_sub, run_lt, run_le, run_gt, run_ge, run_neg, run_mod, run_div, run_pow, run_mul, run_is, iN0, iN1, iN2, iN3, iN4, iN5, run_eqInt, run_eqStr, run_intB, run_min, run_max, run_lenT, run_mt0, run_mt, run_pass, run_rt, run_drop, run_sif, run_gn, run_par, run_gsn, run_gsc, run_gsb, run_for, run_iR1, run_iR2, run_ret, run_new, run_C, run_var', run_gtp, run_lc, on_some, on_none, exists_eq_left, exists_eq_left', Option.some.injEq, D.bl.injEq, List.cons.injEq, D.int.injEq, D.loc.injEq, D.tup.injEq, and_true, true_and, startD, List.map_cons, List.map_nil, List.length_cons, List.length_nil, List.replicate, List.cons_append, List.nil_append, List.getElem?_cons_zero, List.getElem?_cons_succ, List.getElem?_nil, List.set_cons_zero, List.set_cons_succ, List.set_nil, Nat.add_zero, Nat.zero_add, Nat.reduceAdd, Nat.reduceSub, bounds_eq]
  refine (run_catT (by simp; omega)).mpr ?_
  try simp only [fn_rt, fn_nx, seq_nx, seq_rt, seq_bk, seq_ct, turn_nx, turn_ct, turn_bk, turn_rt, run_fn, run_seq, run_asg, run_op, run_un, run_nil, run_cons, run_tup, run_lst, run_and, run_or, run_not, run_if, run_chain, run_call, run_callK, run_B, run_add, run_sub, run_lt, run_le, run_gt, run_ge, run_neg, run_mod, run_div, run_pow, run_mul, run_is, iN0, iN1, iN2, iN3, iN4, iN5, run_eqInt, run_eqStr, run_intB, run_min, run_max, run_lenT, run_mt0, run_mt, run_pass, run_rt, run_drop, run_sif, run_gn, run_par, run_gsn, run_gsc, run_gsb, run_for, run_iR1, run_iR2, run_ret, run_new, run_C, run_var', run_gtp, run_lc, on_some, on_none, exists_eq_left, exists_eq_left', Option.some.injEq, D.bl.injEq, List.cons.injEq, D.int.injEq, D.loc.injEq, D.tup.injEq, and_true, true_and, startD, List.map_cons, List.map_nil, List.length_cons, List.length_nil, List.replicate, List.cons_append, List.nil_append, List.getElem?_cons_zero, List.getElem?_cons_succ, List.getElem?_nil, List.set_cons_zero, List.set_cons_succ, List.set_nil, Nat.add_zero, Nat.zero_add, Nat.reduceAdd, Nat.reduceSub]
  refine (run_ixL (K6'.at_ _ _ hz n1 n2) at2).mpr ?_
  refine bounds_run D6 (by omega) (by omega) fun vf S7 f0 f1 D7 K7 => ?_
  try simp only [fn_rt, fn_nx, seq_nx, seq_rt, seq_bk, seq_ct, turn_nx, turn_ct, turn_bk, turn_rt, run_fn, run_seq, run_asg, run_op, run_un, run_nil, run_cons, run_tup, run_lst, run_and, run_or, run_not, run_if, run_chain, run_call, run_callK, run_B, run_add, run_sub, run_lt, run_le, run_gt, run_ge, run_neg, run_mod, run_div, run_pow, run_mul, run_is, iN0, iN1, iN2, iN3, iN4, iN5, run_eqInt, run_eqStr, run_intB, run_min, run_max, run_lenT, run_mt0, run_mt, run_pass, run_rt, run_drop, run_sif, run_gn, run_par, run_gsn, run_gsc, run_gsb, run_for, run_iR1, run_iR2, run_ret, run_new, run_C, run_var', run_gtp, run_lc, on_some, on_none, exists_eq_left, exists_eq_left', Option.some.injEq, D.bl.injEq, List.cons.injEq, D.int.injEq, D.loc.injEq, D.tup.injEq, and_true, true_and, startD, List.map_cons, List.map_nil, List.length_cons, List.length_nil, List.replicate, List.cons_append, List.nil_append, List.getElem?_cons_zero, List.getElem?_cons_succ, List.getElem?_nil, List.set_cons_zero, List.set_cons_succ, List.set_nil, Nat.add_zero, Nat.zero_add, Nat.reduceAdd, Nat.reduceSub]
  refine (run_catT (by simp; omega)).mpr ?_
  exact q ⟨va, vb, vd, ve, vc, vf⟩ _ ⟨⟨by dsimp only; omega, by dsimp only; omega⟩, by dsimp only; omega⟩ D7 (K6'.trans K7)
/-- one number of a room beside another -/
theorem bturn {zf zm : Nat} {vs : List Int} {i j v e mm : Int} {a6 a7 a8 : Option D} (hz : Szs z w h day S) (D0 : Dk n c S) (f1 : zf ≠ n) (f2 : zf ≠ c) (m1 : zm ≠ n) (m2 : zm ≠ c) (hfm : zf ≠ zm) (hf : S[zf]? = some (.lst (vs.map .int)))
    {ms : List D} (hm : S[zm]? = some (.lst ms)) (hi : atI [D.int r.a, .int r.b, .int r.c, .int r.d, .int r.f, .int r.l] i = some (.int v)) (hj : atI [D.int 2, .int 3, .int 0, .int 1, .int 5, .int 4] i = some (.int j)) (he : atI [D.int r.a, .int r.b, .int r.c, .int r.d, .int r.f, .int r.l] j = some (.int e)) (hmm : atI ms i = some (.int mm)) (h0 : 0 ≤ mm) (hl : vs.length ≤ 100)
    (q : ∀ x S' a6 a7 a8, 0 ≤ x → x ≤ mm → Dk n c S' → (∀ (k : Nat) (u : O), S[k]? = some u → k ≠ n → k ≠ c → k ≠ zf → S'[k]? = some u) → S'[zf]? = some (.lst ((vs ++ [x]).map .int)) → R (.nx [some (.loc n), some (.loc z), some r.D, some (.loc zf), some (.loc zm), some (.int i), a6, a7, a8, none, none, none, none, none, none]) S') :
    Run (p_law_beside_3 [some (.loc n), some (.loc z), some r.D, some (.loc zf), some (.loc zm), some (.int i), a6, a7, a8, none, none, none, none, none, none]) S R := by
  have sz : (sizeLine : Nat) = 16777216 := sizeLine_eq
  unfold p_law_beside_3
  simp only [fn_rt, fn_nx, seq_nx, seq_rt, seq_bk, seq_ct, turn_nx, turn_ct, turn_bk, turn_rt, run_fn, run_seq, run_asg, run_op, run_un, run_nil, run_cons, run_tup, run_lst, run_and, run_or, run_not, run_if, run_chain, run_call, run_callK, run_B, run_add, run_sub, run_lt, run_le, run_gt, run_ge, run_neg, run_mod, run_div, run_pow, run_mul, run_is, iN0, iN1, iN2, iN3, iN4, iN5, run_eqInt, run_eqStr, run_intB, run_min, run_max, run_lenT, run_mt0, run_mt, run_pass, run_rt, run_drop, run_sif, run_gn, run_par, run_gsn, run_gsc, run_gsb, run_for, run_iR1, run_iR2, run_ret, run_new, run_C, run_var', run_gtp, run_lc, on_some, on_none, exists_eq_left, exists_eq_left', Option.some.injEq, D.bl.injEq, List.cons.injEq, D.int.injEq, D.loc.injEq, D.tup.injEq, and_true, true_and, startD, List.map_cons, List.map_nil, List.length_cons, List.length_nil, List.replicate, List.cons_append, List.nil_append, List.getElem?_cons_zero, List.getElem?_cons_succ, List.getElem?_nil, List.set_cons_zero, List.set_cons_succ, List.set_nil, Nat.add_zero, Nat.zero_add, Nat.reduceAdd, Nat.reduceSub, draw_eq]
  refine draw_run D0 (by omega) (by omega) fun wy S1 w0 w1 D1 K1 => ?_
  refine (run_ixL get_new hj).mpr ?_
  simp only [Rm.D]
  refine (run_ixT he).mpr ?_
  refine ⟨_, _, ⟨rfl, rfl⟩, ?_⟩
  have D2 := D1.app (.lst [D.int 2, .int 3, .int 0, .int 1, .int 5, .int 4])
  have K2 := K1.trans (Keep.app n c S1 (.lst [D.int 2, .int 3, .int 0, .int 1, .int 5, .int 4]))
  generalize S1 ++ [O.lst [D.int 2, .int 3, .int 0, .int 1, .int 5, .int 4]] = S2 at D2 K2 ⊢
  unfold p_law_beside_2
  simp only [fn_rt, fn_nx, seq_nx, seq_rt, seq_bk, seq_ct, turn_nx, turn_ct, turn_bk, turn_rt, run_fn, run_seq, run_asg, run_op, run_un, run_nil, run_cons, run_tup, run_lst, run_and, run_or, run_not, run_if, run_chain, run_call, run_callK, run_B, run_add, run_sub, run_lt, run_le, run_gt, run_ge, run_neg, run_mod, run_div, run_pow, run_mul, run_is, iN0, iN1, iN2, iN3, iN4, iN5, run_eqInt, run_eqStr, run_intB, run_min, run_max, run_lenT, run_mt0, run_mt, run_pass, run_rt, run_drop, run_sif, run_gn, run_par, run_gsn, run_gsc, run_gsb, run_for, run_iR1, run_iR2, run_ret, run_new, run_C, run_var', run_gtp, run_lc, on_some, on_none, exists_eq_left, exists_eq_left', Option.some.injEq, D.bl.injEq, List.cons.injEq, D.int.injEq, D.loc.injEq, D.tup.injEq, and_true, true_and, startD, List.map_cons, List.map_nil, List.length_cons, List.length_nil, List.replicate, List.cons_append, List.nil_append, List.getElem?_cons_zero, List.getElem?_cons_succ, List.getElem?_nil, List.set_cons_zero, List.set_cons_succ, List.set_nil, Nat.add_zero, Nat.zero_add, Nat.reduceAdd, Nat.reduceSub, run_ixM, hi]
  have D3 := D2.app (.lst [D.int v, .int (v + 1), .int (v - 1), .int (v + 2), .int (v - 2), .int (e + 1)])
  have K3 := K2.trans (Keep.app n c S2 (.lst [D.int v, .int (v + 1), .int (v - 1), .int (v + 2), .int (v - 2), .int (e + 1)]))
  obtain ⟨u, hu, hum⟩ := atI_of (xs := [D.int v, .int (v + 1), .int (v - 1), .int (v + 2), .int (v - 2), .int (e + 1)]) w0 (by simpa using w1)
  obtain ⟨u, rfl⟩ : ∃ k : Int, u = .int k := by
    simp only [List.mem_cons, List.not_mem_nil, or_false] at hum
    rcases hum with rfl | rfl | rfl | rfl | rfl | rfl <;> exact ⟨_, rfl⟩
  refine (run_ixL get_new hu).mpr ?_
  generalize S2 ++ [O.lst [D.int v, .int (v + 1), .int (v - 1), .int (v + 2), .int (v - 2), .int (e + 1)]] = S3 at D3 K3 ⊢
  unfold p_law_beside_1
  simp only [fn_rt, fn_nx, seq_nx, seq_rt, seq_bk, seq_ct, turn_nx, turn_ct, turn_bk, turn_rt, run_fn, run_seq, run_asg, run_op, run_un, run_nil, run_cons, run_tup, run_lst, run_and, run_or, run_not, run_if, run_chain, run_call, run_callK, run_B, run_add, run_sub, run_lt, run_le, run_gt, run_ge, run_neg, run_mod, run_div, run_pow, run_mul, run_is, iN0, iN1, iN2, iN3, iN4, iN5, run_eqInt, run_eqStr, run_intB, run_min, run_max, run_lenT, run_mt0, run_mt, run_pass, run_rt, run_drop, run_sif, run_gn, run_par, run_gsn, run_gsc, run_gsb, run_for, run_iR1, run_iR2, run_ret, run_new, run_C, run_var', run_gtp, run_lc, on_some, on_none, exists_eq_left, exists_eq_left', Option.some.injEq, D.bl.injEq, List.cons.injEq, D.int.injEq, D.loc.injEq, D.tup.injEq, and_true, true_and, startD, List.map_cons, List.map_nil, List.length_cons, List.length_nil, List.replicate, List.cons_append, List.nil_append, List.getElem?_cons_zero, List.getElem?_cons_succ, List.getElem?_nil, List.set_cons_zero, List.set_cons_succ, List.set_nil, Nat.add_zero, Nat.zero_add, Nat.reduceAdd, Nat.reduceSub]
  have hf3 := K3.at_ _ _ hf f1 f2
  have hm3 := K3.at_ _ _ hm m1 m2
  refine ⟨zf, _, rfl, hf3, ?_⟩
  refine (run_ixL hm3 hmm).mpr ?_
  simp only [fn_rt, fn_nx, seq_nx, seq_rt, seq_bk, seq_ct, turn_nx, turn_ct, turn_bk, turn_rt, run_fn, run_seq, run_asg, run_op, run_un, run_nil, run_cons, run_tup, run_lst, run_and, run_or, run_not, run_if, run_chain, run_call, run_callK, run_B, run_add, run_sub, run_lt, run_le, run_gt, run_ge, run_neg, run_mod, run_div, run_pow, run_mul, run_is, iN0, iN1, iN2, iN3, iN4, iN5, run_eqInt, run_eqStr, run_intB, run_min, run_max, run_lenT, run_mt0, run_mt, run_pass, run_rt, run_drop, run_sif, run_gn, run_par, run_gsn, run_gsc, run_gsb, run_for, run_iR1, run_iR2, run_ret, run_new, run_C, run_var', run_gtp, run_lc, on_some, on_none, exists_eq_left, exists_eq_left', Option.some.injEq, D.bl.injEq, List.cons.injEq, D.int.injEq, D.loc.injEq, D.tup.injEq, and_true, true_and, startD, List.map_cons, List.map_nil, List.length_cons, List.length_nil, List.replicate, List.cons_append, List.nil_append, List.getElem?_cons_zero, List.getElem?_cons_succ, List.getElem?_nil, List.set_cons_zero, List.set_cons_succ, List.set_nil, Nat.add_zero, Nat.zero_add, Nat.reduceAdd, Nat.reduceSub]
  refine (run_app hf3 (by simp; omega)).mpr ?_
  have xr : 0 ≤ (if (if mm < u then mm else u) > 0 then (if mm < u then mm else u) else 0) ∧ (if (if mm < u then mm else u) > 0 then (if mm < u then mm else u) else 0) ≤ mm := by split <;> split <;> omega
  generalize (if (if mm < u then mm else u) > 0 then (if mm < u then mm else u) else 0) = x at xr ⊢
  refine q x _ _ _ _ xr.1 xr.2 (D3.set _ f1 f2) (fun k u hk e1 e2 e3 => get_set (K3.at_ k u hk e1 e2) (Ne.symm e3)) ?_
  rw [get_put hf3]
  simp
end
end Wwindfleet_k37_rooms_grown_and_clashing

end
section
set_option maxHeartbeats 4000000
/-! Rooms beside others; the law. -/
namespace Wwindfleet_k37_rooms_grown_and_clashing
open PySem Ev
open L2 (atI ixN Key)
section
variable {S : Sto} {Q : D → Sto → Prop} {R : Out → Sto → Prop} {env : DEnv} {n c d l z : Nat} {L : Lnd} {m x y w h day : Int} {r s : Rm} {gg : MG} {st : MS} {tt a : ME} {G : List D → Sto → Prop}
theorem beside_gen (hz : Szs z w h day S) (D0 : Dk n c S) (n1 : z ≠ n) (n2 : z ≠ c) (hw : 1 ≤ w ∧ w ≤ 12) (hh : 1 ≤ h ∧ h ≤ 12) (hd : 1 ≤ day ∧ day ≤ 24) (q : ∀ (s : Rm) S', s.ok w h day → Dk n c S' → Keep n c S S' → Q s.D S') : Run (p_law_beside [.loc n, .loc z, r.D]) S Q := by
  have sz : (sizeLine : Nat) = 16777216 := sizeLine_eq
  unfold p_law_beside
  rw [run_fn, run_seq, run_par, run_cons, run_lst, run_nil, run_cons, run_op, run_op, run_lst, run_cons, run_op]
  simp only [startD, List.map_cons, List.map_nil, List.length_cons, List.length_nil, List.replicate, List.cons_append, List.nil_append, List.getElem?_cons_zero, List.getElem?_cons_succ, List.getElem?_nil, List.set_cons_zero, List.set_cons_succ, List.set_nil, Nat.add_zero, Nat.zero_add, Nat.reduceAdd, Nat.reduceSub]
  have f1 := D0.new.1
  have f2 := D0.new.2
  have D1 := D0.app (.lst [])
  have G1 := Gr.app S (.lst [])
  have hf1 : (S ++ [O.lst []])[S.length]? = some (.lst (([] : List Int).map .int)) := get_new
  have hkz : ∀ (k : Nat) (u : O), S[k]? = some u → k ≠ S.length := fun k u h => by have := (List.getElem?_eq_some_iff.mp h).1; omega
  generalize S ++ [O.lst []] = S1 at D1 G1 hf1 ⊢
  generalize S.length = zf at f1 f2 hf1 hkz ⊢
  simp only [fn_rt, fn_nx, seq_nx, seq_rt, seq_bk, seq_ct, turn_nx, turn_ct, turn_bk, turn_rt, run_fn, run_seq, run_asg, run_op, run_un, run_nil, run_cons, run_tup, run_lst, run_and, run_or, run_not, run_if, run_chain, run_call, run_callK, run_B, run_add, run_sub, run_lt, run_le, run_gt, run_ge, run_neg, run_mod, run_div, run_pow, run_mul, run_is, iN0, iN1, iN2, iN3, iN4, iN5, run_eqInt, run_eqStr, run_intB, run_min, run_max, run_lenT, run_mt0, run_mt, run_pass, run_rt, run_drop, run_sif, run_gn, run_par, run_gsn, run_gsc, run_gsb, run_for, run_iR1, run_iR2, run_ret, run_new, run_C, run_var', run_gtp, run_lc, on_some, on_none, exists_eq_left, exists_eq_left', Option.some.injEq, D.bl.injEq, List.cons.injEq, D.int.injEq, D.loc.injEq, D.tup.injEq, and_true, true_and, startD, List.map_cons, List.map_nil, List.length_cons, List.length_nil, List.replicate, List.cons_append, List.nil_append, List.getElem?_cons_zero, List.getElem?_cons_succ, List.getElem?_nil, List.set_cons_zero, List.set_cons_succ, List.set_nil, Nat.add_zero, Nat.zero_add, Nat.reduceAdd, Nat.reduceSub]
  refine (run_ixL (G1 _ _ hz) at0).mpr ?_
  simp only [fn_rt, fn_nx, seq_nx, seq_rt, seq_bk, seq_ct, turn_nx, turn_ct, turn_bk, turn_rt, run_fn, run_seq, run_asg, run_op, run_un, run_nil, run_cons, run_tup, run_lst, run_and, run_or, run_not, run_if, run_chain, run_call, run_callK, run_B, run_add, run_sub, run_lt, run_le, run_gt, run_ge, run_neg, run_mod, run_div, run_pow, run_mul, run_is, iN0, iN1, iN2, iN3, iN4, iN5, run_eqInt, run_eqStr, run_intB, run_min, run_max, run_lenT, run_mt0, run_mt, run_pass, run_rt, run_drop, run_sif, run_gn, run_par, run_gsn, run_gsc, run_gsb, run_for, run_iR1, run_iR2, run_ret, run_new, run_C, run_var', run_gtp, run_lc, on_some, on_none, exists_eq_left, exists_eq_left', Option.some.injEq, D.bl.injEq, List.cons.injEq, D.int.injEq, D.loc.injEq, D.tup.injEq, and_true, true_and, startD, List.map_cons, List.map_nil, List.length_cons, List.length_nil, List.replicate, List.cons_append, List.nil_append, List.getElem?_cons_zero, List.getElem?_cons_succ, List.getElem?_nil, List.set_cons_zero, List.set_cons_succ, List.set_nil, Nat.add_zero, Nat.zero_add, Nat.reduceAdd, Nat.reduceSub]
  refine (run_ixL (G1 _ _ hz) at1).mpr ?_
  simp only [fn_rt, fn_nx, seq_nx, seq_rt, seq_bk, seq_ct, turn_nx, turn_ct, turn_bk, turn_rt, run_fn, run_seq, run_asg, run_op, run_un, run_nil, run_cons, run_tup, run_lst, run_and, run_or, run_not, run_if, run_chain, run_call, run_callK, run_B, run_add, run_sub, run_lt, run_le, run_gt, run_ge, run_neg, run_mod, run_div, run_pow, run_mul, run_is, iN0, iN1, iN2, iN3, iN4, iN5, run_eqInt, run_eqStr, run_intB, run_min, run_max, run_lenT, run_mt0, run_mt, run_pass, run_rt, run_drop, run_sif, run_gn, run_par, run_gsn, run_gsc, run_gsb, run_for, run_iR1, run_iR2, run_ret, run_new, run_C, run_var', run_gtp, run_lc, on_some, on_none, exists_eq_left, exists_eq_left', Option.some.injEq, D.bl.injEq, List.cons.injEq, D.int.injEq, D.loc.injEq, D.tup.injEq, and_true, true_and, startD, List.map_cons, List.map_nil, List.length_cons, List.length_nil, List.replicate, List.cons_append, List.nil_append, List.getElem?_cons_zero, List.getElem?_cons_succ, List.getElem?_nil, List.set_cons_zero, List.set_cons_succ, List.set_nil, Nat.add_zero, Nat.zero_add, Nat.reduceAdd, Nat.reduceSub]
  have D2 := D1.app (.lst [.int (w - 1), .int (h - 1)])
  have G2 := G1.trans (Gr.app S1 (.lst [.int (w - 1), .int (h - 1)]))
  have hf2 := (Gr.app S1 (.lst [.int (w - 1), .int (h - 1)])) _ _ hf1
  refine (run_rep get_new ⟨by decide, by decide, by rw [sz]; show 2 * 2 ≤ 16777216; decide⟩).mpr ?_
  generalize S1 ++ [O.lst [.int (w - 1), .int (h - 1)]] = S2 at D2 G2 hf2 ⊢
  have er : rep (Int.toNat 2) [D.int (w - 1), .int (h - 1)] = [.int (w - 1), .int (h - 1), .int (w - 1), .int (h - 1)] := rfl
  rw [er]
  have D3 := D2.app (.lst [.int (w - 1), .int (h - 1), .int (w - 1), .int (h - 1)])
  have G3 := G2.trans (Gr.app S2 (.lst [.int (w - 1), .int (h - 1), .int (w - 1), .int (h - 1)]))
  have hf3 := (Gr.app S2 (.lst [.int (w - 1), .int (h - 1), .int (w - 1), .int (h - 1)])) _ _ hf2
  have hx3 : (S2 ++ [O.lst [.int (w - 1), .int (h - 1), .int (w - 1), .int (h - 1)]])[S2.length]? = some (.lst [D.int (w - 1), .int (h - 1), .int (w - 1), .int (h - 1)]) := get_new
  generalize S2 ++ [O.lst [.int (w - 1), .int (h - 1), .int (w - 1), .int (h - 1)]] = S3 at D3 G3 hf3 hx3 ⊢
  generalize S2.length = zx at hx3 ⊢
  try simp only [fn_rt, fn_nx, seq_nx, seq_rt, seq_bk, seq_ct, turn_nx, turn_ct, turn_bk, turn_rt, run_fn, run_seq, run_asg, run_op, run_un, run_nil, run_cons, run_tup, run_lst, run_and, run_or, run_not, run_if, run_chain, run_call, run_callK, run_B, run_add, run_sub, run_lt, run_le, run_gt, run_ge, run_neg, run_mod, run_div, run_pow, run_mul, run_is, iN0, iN1, iN2, iN3, iN4, iN5, run_eqInt, run_eqStr, run_intB, run_min, run_max, run_lenT, run_mt0, run_mt, run_pass, run_rt, run_drop, run_sif, run_gn, run_par, run_gsn, run_gsc, run_gsb, run_for, run_iR1, run_iR2, run_ret, run_new, run_C, run_var', run_gtp, run_lc, on_some, on_none, exists_eq_left, exists_eq_left', Option.some.injEq, D.bl.injEq, List.cons.injEq, D.int.injEq, D.loc.injEq, D.tup.injEq, and_true, true_and, startD, List.map_cons, List.map_nil, List.length_cons, List.length_nil, List.replicate, List.cons_append, List.nil_append, List.getElem?_cons_zero, List.getElem?_cons_succ, List.getElem?_nil, List.set_cons_zero, List.set_cons_succ, List.set_nil, Nat.add_zero, Nat.zero_add, Nat.reduceAdd, Nat.reduceSub]
  refine (run_ixL (G3 _ _ hz) at2).mpr ?_
  try simp only [fn_rt, fn_nx, seq_nx, seq_rt, seq_bk, seq_ct, turn_nx, turn_ct, turn_bk, turn_rt, run_fn, run_seq, run_asg, run_op, run_un, run_nil, run_cons, run_tup, run_lst, run_and, run_or, run_not, run_if, run_chain, run_call, run_callK, run_B, run_add, run_sub, run_lt, run_le, run_gt, run_ge, run_neg, run_mod, run_div, run_pow, run_mul, run_is, iN0, iN1, iN2, iN3, iN4, iN5, run_eqInt, run_eqStr, run_intB, run_min, run_max, run_lenT, run_mt0, run_mt, run_pass, run_rt, run_drop, run_sif, run_gn, run_par, run_gsn, run_gsc, run_gsb, run_for, run_iR1, run_iR2, run_ret, run_new, run_C, run_var', run_gtp, run_lc, on_some, on_none, exists_eq_left, exists_eq_left', Option.some.injEq, D.bl.injEq, List.cons.injEq, D.int.injEq, D.loc.injEq, D.tup.injEq, and_true, true_and, startD, List.map_cons, List.map_nil, List.length_cons, List.length_nil, List.replicate, List.cons_append, List.nil_append, List.getElem?_cons_zero, List.getElem?_cons_succ, List.getElem?_nil, List.set_cons_zero, List.set_cons_succ, List.set_nil, Nat.add_zero, Nat.zero_add, Nat.reduceAdd, Nat.reduceSub]
  have D4 := D3.app (.lst [.int day])
  have G4 := G3.trans (Gr.app S3 (.lst [.int day]))
  have hf4 := (Gr.app S3 (.lst [.int day])) _ _ hf3
  have hx4 := (Gr.app S3 (.lst [.int day])) _ _ hx3
  refine (run_rep get_new ⟨by decide, by decide, by rw [sz]; show 1 * 2 ≤ 16777216; decide⟩).mpr ?_
  generalize S3 ++ [O.lst [.int day]] = S4 at D4 G4 hf4 hx4 ⊢
  have er2 : rep (Int.toNat 2) [D.int day] = [.int day, .int day] := rfl
  rw [er2]
  have D5 := D4.app (.lst [.int day, .int day])
  have G5 := G4.trans (Gr.app S4 (.lst [.int day, .int day]))
  have hf5 := (Gr.app S4 (.lst [.int day, .int day])) _ _ hf4
  have hx5 := (Gr.app S4 (.lst [.int day, .int day])) _ _ hx4
  refine (run_catL hx5 get_new (by simp; omega)).mpr ?_
  generalize S4 ++ [O.lst [.int day, .int day]] = S5 at D5 G5 hf5 hx5 ⊢
  have D6 := D5.app (.lst ([.int (w - 1), .int (h - 1), .int (w - 1), .int (h - 1)] ++ [.int day, .int day]))
  have G6 := G5.trans (Gr.app S5 (.lst ([.int (w - 1), .int (h - 1), .int (w - 1), .int (h - 1)] ++ [.int day, .int day])))
  have hf6 := (Gr.app S5 (.lst ([.int (w - 1), .int (h - 1), .int (w - 1), .int (h - 1)] ++ [.int day, .int day]))) _ _ hf5
  have hm6 : (S5 ++ [O.lst ([.int (w - 1), .int (h - 1), .int (w - 1), .int (h - 1)] ++ [.int day, .int day])])[S5.length]? = some (.lst [D.int (w - 1), .int (h - 1), .int (w - 1), .int (h - 1), .int day, .int day]) := get_new
  have hfm : zf ≠ S5.length := by have := (List.getElem?_eq_some_iff.mp hf5).1; omega
  have m1 := D5.new.1
  have m2 := D5.new.2
  generalize S5 ++ [O.lst ([.int (w - 1), .int (h - 1), .int (w - 1), .int (h - 1)] ++ [.int day, .int day])] = S6 at D6 G6 hf6 hm6 ⊢
  generalize S5.length = zm at hm6 hfm m1 m2 ⊢
  try simp only [fn_rt, fn_nx, seq_nx, seq_rt, seq_bk, seq_ct, turn_nx, turn_ct, turn_bk, turn_rt, run_fn, run_seq, run_asg, run_op, run_un, run_nil, run_cons, run_tup, run_lst, run_and, run_or, run_not, run_if, run_chain, run_call, run_callK, run_B, run_add, run_sub, run_lt, run_le, run_gt, run_ge, run_neg, run_mod, run_div, run_pow, run_mul, run_is, iN0, iN1, iN2, iN3, iN4, iN5, run_eqInt, run_eqStr, run_intB, run_min, run_max, run_lenT, run_mt0, run_mt, run_pass, run_rt, run_drop, run_sif, run_gn, run_par, run_gsn, run_gsc, run_gsb, run_for, run_iR1, run_iR2, run_ret, run_new, run_C, run_var', run_gtp, run_lc, on_some, on_none, exists_eq_left, exists_eq_left', Option.some.injEq, D.bl.injEq, List.cons.injEq, D.int.injEq, D.loc.injEq, D.tup.injEq, and_true, true_and, startD, List.map_cons, List.map_nil, List.length_cons, List.length_nil, List.replicate, List.cons_append, List.nil_append, List.getElem?_cons_zero, List.getElem?_cons_succ, List.getElem?_nil, List.set_cons_zero, List.set_cons_succ, List.set_nil, Nat.add_zero, Nat.zero_add, Nat.reduceAdd, Nat.reduceSub]
  refine ⟨_, _, ⟨rfl, rfl⟩, ?_⟩
  unfold p_law_beside_6
  rw [run_seq, run_for, run_iR1, run_cons, run_C, run_nil]
  refine ⟨6, rfl, ⟨by decide, by decide⟩, ?_⟩
  have er3 : rng 0 (Int.toNat 6) = [.int 0, .int 1, .int 2, .int 3, .int 4, .int 5] := rfl
  rw [er3]
  have z0 : Szs z w h day S6 := G6 _ _ hz
  have zzf : z ≠ zf := hkz z _ hz
  have zmf : zm ≠ zf := Ne.symm hfm
  refine run_loop_cons Gd.none ?_
  rw [run_gn]
  simp only [startD, List.map_cons, List.map_nil, List.length_cons, List.length_nil, List.replicate, List.cons_append, List.nil_append, List.getElem?_cons_zero, List.getElem?_cons_succ, List.getElem?_nil, List.set_cons_zero, List.set_cons_succ, List.set_nil, Nat.add_zero, Nat.zero_add, Nat.reduceAdd, Nat.reduceSub]
  refine bturn (vs := []) z0 D6 f1 f2 m1 m2 hfm hf6 hm6 at0 at0 at2 at0 (by omega) (by simp) fun x0 T0 _ _ _ l0 u0 E0 k0 g0 => ?_
  rw [turn_nx]
  refine run_loop_cons Gd.none ?_
  rw [run_gn]
  simp only [startD, List.map_cons, List.map_nil, List.length_cons, List.length_nil, List.replicate, List.cons_append, List.nil_append, List.getElem?_cons_zero, List.getElem?_cons_succ, List.getElem?_nil, List.set_cons_zero, List.set_cons_succ, List.set_nil, Nat.add_zero, Nat.zero_add, Nat.reduceAdd, Nat.reduceSub]
  refine bturn (k0 z _ z0 n1 n2 zzf) E0 f1 f2 m1 m2 hfm g0 (k0 zm _ hm6 m1 m2 zmf) at1 at1 at3 at1 (by omega) (by simp) fun x1 T1 _ _ _ l1 u1 E1 k1 g1 => ?_
  rw [turn_nx]
  have z1 : Szs z w h day T1 := k1 z _ (k0 z _ z0 n1 n2 zzf) n1 n2 zzf
  have h1 := k1 zm _ (k0 zm _ hm6 m1 m2 zmf) m1 m2 zmf
  refine run_loop_cons Gd.none ?_
  rw [run_gn]
  simp only [startD, List.map_cons, List.map_nil, List.length_cons, List.length_nil, List.replicate, List.cons_append, List.nil_append, List.getElem?_cons_zero, List.getElem?_cons_succ, List.getElem?_nil, List.set_cons_zero, List.set_cons_succ, List.set_nil, Nat.add_zero, Nat.zero_add, Nat.reduceAdd, Nat.reduceSub]
  refine bturn z1 E1 f1 f2 m1 m2 hfm g1 h1 at2 at2 at0 at2 (by omega) (by simp) fun x2 T2 _ _ _ l2 u2 E2 k2 g2 => ?_
  rw [turn_nx]
  refine run_loop_cons Gd.none ?_
  rw [run_gn]
  simp only [startD, List.map_cons, List.map_nil, List.length_cons, List.length_nil, List.replicate, List.cons_append, List.nil_append, List.getElem?_cons_zero, List.getElem?_cons_succ, List.getElem?_nil, List.set_cons_zero, List.set_cons_succ, List.set_nil, Nat.add_zero, Nat.zero_add, Nat.reduceAdd, Nat.reduceSub]
  refine bturn (k2 z _ z1 n1 n2 zzf) E2 f1 f2 m1 m2 hfm g2 (k2 zm _ h1 m1 m2 zmf) at3 at3 at1 at3 (by omega) (by simp) fun x3 T3 _ _ _ l3 u3 E3 k3 g3 => ?_
  rw [turn_nx]
  have z3 : Szs z w h day T3 := k3 z _ (k2 z _ z1 n1 n2 zzf) n1 n2 zzf
  have h3 := k3 zm _ (k2 zm _ h1 m1 m2 zmf) m1 m2 zmf
  refine run_loop_cons Gd.none ?_
  rw [run_gn]
  simp only [startD, List.map_cons, List.map_nil, List.length_cons, List.length_nil, List.replicate, List.cons_append, List.nil_append, List.getElem?_cons_zero, List.getElem?_cons_succ, List.getElem?_nil, List.set_cons_zero, List.set_cons_succ, List.set_nil, Nat.add_zero, Nat.zero_add, Nat.reduceAdd, Nat.reduceSub]
  refine bturn z3 E3 f1 f2 m1 m2 hfm g3 h3 at4 at4 at5 at4 (by omega) (by simp) fun x4 T4 _ _ _ l4 u4 E4 k4 g4 => ?_
  rw [turn_nx]
  refine run_loop_cons Gd.none ?_
  rw [run_gn]
  simp only [startD, List.map_cons, List.map_nil, List.length_cons, List.length_nil, List.replicate, List.cons_append, List.nil_append, List.getElem?_cons_zero, List.getElem?_cons_succ, List.getElem?_nil, List.set_cons_zero, List.set_cons_succ, List.set_nil, Nat.add_zero, Nat.zero_add, Nat.reduceAdd, Nat.reduceSub]
  refine bturn (k4 z _ z3 n1 n2 zzf) E4 f1 f2 m1 m2 hfm g4 (k4 zm _ h3 m1 m2 zmf) at5 at5 at4 at5 (by omega) (by simp) fun x5 T5 _ _ _ l5 u5 E5 k5 g5 => ?_
  rw [turn_nx]
  refine run_loop_nil Gd.none ?_
  rw [seq_nx]
  unfold p_law_beside_5
  rw [run_seq, run_asg, run_var rfl]
  refine run_up g5 rfl ?_
  simp only [List.map_append, List.map_cons, List.map_nil, List.nil_append, List.cons_append, run_gsc, run_gsn, run_gn, startD, List.map_cons, List.map_nil, List.length_cons, List.length_nil, List.replicate, List.cons_append, List.nil_append, List.getElem?_cons_zero, List.getElem?_cons_succ, List.getElem?_nil, List.set_cons_zero, List.set_cons_succ, List.set_nil, Nat.add_zero, Nat.zero_add, Nat.reduceAdd, Nat.reduceSub]
  try simp only [fn_rt, fn_nx, seq_nx, seq_rt, seq_bk, seq_ct, turn_nx, turn_ct, turn_bk, turn_rt, run_fn, run_seq, run_asg, run_op, run_un, run_nil, run_cons, run_tup, run_lst, run_and, run_or, run_not, run_if, run_chain, run_call, run_callK, run_B, run_add, run_sub, run_lt, run_le, run_gt, run_ge, run_neg, run_mod, run_div, run_pow, run_mul, run_is, iN0, iN1, iN2, iN3, iN4, iN5, run_eqInt, run_eqStr, run_intB, run_min, run_max, run_lenT, run_mt0, run_mt, run_pass, run_rt, run_drop, run_sif, run_gn, run_par, run_gsn, run_gsc, run_gsb, run_for, run_iR1, run_iR2, run_ret, run_new, run_C, run_var', run_gtp, run_lc, on_some, on_none, exists_eq_left, exists_eq_left', Option.some.injEq, D.bl.injEq, List.cons.injEq, D.int.injEq, D.loc.injEq, D.tup.injEq, and_true, true_and]
  unfold p_law_beside_4
  simp only [fn_rt, fn_nx, seq_nx, seq_rt, seq_bk, seq_ct, turn_nx, turn_ct, turn_bk, turn_rt, run_fn, run_seq, run_asg, run_op, run_un, run_nil, run_cons, run_tup, run_lst, run_and, run_or, run_not, run_if, run_chain, run_call, run_callK, run_B, run_add, run_sub, run_lt, run_le, run_gt, run_ge, run_neg, run_mod, run_div, run_pow, run_mul, run_is, iN0, iN1, iN2, iN3, iN4, iN5, run_eqInt, run_eqStr, run_intB, run_min, run_max, run_lenT, run_mt0, run_mt, run_pass, run_rt, run_drop, run_sif, run_gn, run_par, run_gsn, run_gsc, run_gsb, run_for, run_iR1, run_iR2, run_ret, run_new, run_C, run_var', run_gtp, run_lc, on_some, on_none, exists_eq_left, exists_eq_left', Option.some.injEq, D.bl.injEq, List.cons.injEq, D.int.injEq, D.loc.injEq, D.tup.injEq, and_true, true_and, startD, List.map_cons, List.map_nil, List.length_cons, List.length_nil, List.replicate, List.cons_append, List.nil_append, List.getElem?_cons_zero, List.getElem?_cons_succ, List.getElem?_nil, List.set_cons_zero, List.set_cons_succ, List.set_nil, Nat.add_zero, Nat.zero_add, Nat.reduceAdd, Nat.reduceSub]
  have KK : Keep n c S T5 := ⟨fun k u hk e1 e2 => by
    have e3 := hkz k u hk
    exact k5 k u (k4 k u (k3 k u (k2 k u (k1 k u (k0 k u (G6 k u hk) e1 e2 e3) e1 e2 e3) e1 e2 e3) e1 e2 e3) e1 e2 e3) e1 e2 e3⟩
  refine q ⟨if x2 < x0 then x2 else x0, if x3 < x1 then x3 else x1, if x2 > x0 then x2 else x0, if x3 > x1 then x3 else x1, if x5 < x4 then x5 else x4, if x5 > x4 then x5 else x4⟩ _ ⟨⟨?_, ?_⟩, ?_⟩ E5 KK
  · dsimp only; refine ⟨?_, ?_, ?_⟩ <;> repeat' split
    all_goals omega
  · dsimp only; refine ⟨?_, ?_, ?_⟩ <;> repeat' split
    all_goals omega
  · dsimp only; refine ⟨?_, ?_, ?_⟩ <;> repeat' split
    all_goals omega
theorem fields_gen (D0 : Dk n c S) (q : ∀ z w h day S', (1 ≤ w ∧ w ≤ 12) → (1 ≤ h ∧ h ≤ 12) → (1 ≤ day ∧ day ≤ 24) → z ≠ n → z ≠ c → Szs z w h day S' → Dk n c S' → Keep n c S S' → Q (.loc z) S') : Run (p_law_fields [.loc n]) S Q := by
  unfold p_law_fields
  simp only [fn_rt, fn_nx, seq_nx, seq_rt, seq_bk, seq_ct, turn_nx, turn_ct, turn_bk, turn_rt, run_fn, run_seq, run_asg, run_op, run_un, run_nil, run_cons, run_tup, run_lst, run_and, run_or, run_not, run_if, run_chain, run_call, run_callK, run_B, run_add, run_sub, run_lt, run_le, run_gt, run_ge, run_neg, run_mod, run_div, run_pow, run_mul, run_is, iN0, iN1, iN2, iN3, iN4, iN5, run_eqInt, run_eqStr, run_intB, run_min, run_max, run_lenT, run_mt0, run_mt, run_pass, run_rt, run_drop, run_sif, run_gn, run_par, run_gsn, run_gsc, run_gsb, run_for, run_iR1, run_iR2, run_ret, run_new, run_C, run_var', run_gtp, run_lc, on_some, on_none, exists_eq_left, exists_eq_left', Option.some.injEq, D.bl.injEq, List.cons.injEq, D.int.injEq, D.loc.injEq, D.tup.injEq, and_true, true_and, startD, List.map_cons, List.map_nil, List.length_cons, List.length_nil, List.replicate, List.cons_append, List.nil_append, List.getElem?_cons_zero, List.getElem?_cons_succ, List.getElem?_nil, List.set_cons_zero, List.set_cons_succ, List.set_nil, Nat.add_zero, Nat.zero_add, Nat.reduceAdd, Nat.reduceSub]
  have y1 := D0.new.1
  have y2 := D0.new.2
  have D1 := D0.app (.lst ([1, 2, 9, 10, 12, 5].map D.int))
  have K1 := Keep.app n c S (.lst ([1, 2, 9, 10, 12, 5].map D.int))
  have h1 : (S ++ [O.lst ([1, 2, 9, 10, 12, 5].map D.int)])[S.length]? = some (.lst ([1, 2, 9, 10, 12, 5].map D.int)) := get_new
  simp only [List.map_cons, List.map_nil] at D1 K1 h1
  generalize S ++ [O.lst [D.int 1, .int 2, .int 9, .int 10, .int 12, .int 5]] = S1 at D1 K1 h1 ⊢
  generalize S.length = z1 at y1 y2 h1 ⊢
  unfold p_law_fields_1
  simp only [fn_rt, fn_nx, seq_nx, seq_rt, seq_bk, seq_ct, turn_nx, turn_ct, turn_bk, turn_rt, run_fn, run_seq, run_asg, run_op, run_un, run_nil, run_cons, run_tup, run_lst, run_and, run_or, run_not, run_if, run_chain, run_call, run_callK, run_B, run_add, run_sub, run_lt, run_le, run_gt, run_ge, run_neg, run_mod, run_div, run_pow, run_mul, run_is, iN0, iN1, iN2, iN3, iN4, iN5, run_eqInt, run_eqStr, run_intB, run_min, run_max, run_lenT, run_mt0, run_mt, run_pass, run_rt, run_drop, run_sif, run_gn, run_par, run_gsn, run_gsc, run_gsb, run_for, run_iR1, run_iR2, run_ret, run_new, run_C, run_var', run_gtp, run_lc, on_some, on_none, exists_eq_left, exists_eq_left', Option.some.injEq, D.bl.injEq, List.cons.injEq, D.int.injEq, D.loc.injEq, D.tup.injEq, and_true, true_and, startD, List.map_cons, List.map_nil, List.length_cons, List.length_nil, List.replicate, List.cons_append, List.nil_append, List.getElem?_cons_zero, List.getElem?_cons_succ, List.getElem?_nil, List.set_cons_zero, List.set_cons_succ, List.set_nil, Nat.add_zero, Nat.zero_add, Nat.reduceAdd, Nat.reduceSub, pick_eq]
  refine pick_run D1 h1 y1 y2 (by simp) (by simp) fun u S2 hu D2 K2 => ?_
  refine pick_run D2 (K2.at_ _ _ h1 y1 y2) y1 y2 (by simp) (by simp) fun v S3 hv D3 K3 => ?_
  have w1 := D3.new.1
  have w2 := D3.new.2
  refine pick_run (D3.app _) get_new w1 w2 (by simp) (by simp) fun t S4 ht D4 K4 => ?_
  have K4' := K1.trans (K2.trans (K3.trans ((Keep.app _ _ _ _).trans K4)))
  obtain ⟨w, rfl, hw⟩ : ∃ w : Int, u = .int w ∧ (1 ≤ w ∧ w ≤ 12) := by
    simp only [List.mem_cons, List.not_mem_nil, or_false] at hu
    rcases hu with rfl | rfl | rfl | rfl | rfl | rfl <;> exact ⟨_, rfl, by decide, by decide⟩
  obtain ⟨h, rfl, hh⟩ : ∃ w : Int, v = .int w ∧ (1 ≤ w ∧ w ≤ 12) := by
    simp only [List.mem_cons, List.not_mem_nil, or_false] at hv
    rcases hv with rfl | rfl | rfl | rfl | rfl | rfl <;> exact ⟨_, rfl, by decide, by decide⟩
  obtain ⟨day, rfl, hd⟩ : ∃ w : Int, t = .int w ∧ (1 ≤ w ∧ w ≤ 24) := by
    simp only [List.mem_cons, List.not_mem_nil, or_false] at ht
    rcases ht with rfl | rfl | rfl | rfl <;> exact ⟨_, rfl, by decide, by decide⟩
  exact q _ w h day _ hw hh hd D4.new.1 D4.new.2 get_new (D4.app _) (K4'.trans (Keep.app _ _ _ _))
end
end Wwindfleet_k37_rooms_grown_and_clashing

end
section
set_option maxHeartbeats 4000000
/-! The law. -/
namespace Wwindfleet_k37_rooms_grown_and_clashing
open PySem Ev
open L2 (atI ixN Key)
section
variable {S : Sto} {Q : D → Sto → Prop} {R : Out → Sto → Prop} {env : DEnv} {n c d l z : Nat} {L : Lnd} {m x y w h day : Int} {r s : Rm} {gg : MG} {st : MS} {tt a : ME} {G : List D → Sto → Prop}
theorem run_make {cc : Nat} {init : List D → M D} {g : List D → List D → List D} {a b : DEnv → M (List D)} : Run (mMake cc init g a b env) S Q ↔ Run (a env) S fun xs S1 => Run (b env) S1 fun ys S2 => Run (init (g (.loc S2.length :: xs) ys)) (S2 ++ [.ins cc []]) fun r S3 => r = .non ∧ Q (.loc S2.length) S3 := by
  unfold mMake
  simp only [run_bd]
  refine run_congr fun xs S1 => run_congr fun ys S2 => ?_
  constructor
  · rintro ⟨d, S', e, q⟩
    dsimp only at e
    split at e
    · rename_i S3 em
      cases e
      exact ⟨.non, S', em, rfl, q⟩
    · cases e
  · rintro ⟨d, S', e, rfl, q⟩
    exact ⟨_, _, by dsimp only; rw [e], q⟩
theorem gkM {a b e : D} {p : Nat} : gF 3 1 [0, 1, 2, 3, 5, 6, 7, 8] [.int 12, .non, .tup [], .tup [], .tup []] [.loc p, a, b] [e] = [.loc p, a, b, e, .non, .tup [], .tup [], .tup []] := rfl
def Lof (w h day : Int) : Lnd := ⟨w, h, day, none, [], [], []⟩
theorem lof_ok (hw : 1 ≤ w ∧ w ≤ 12) (hh : 1 ≤ h ∧ h ≤ 12) (hd : 1 ≤ day ∧ day ≤ 24) : (Lof w h day).Ok :=
  ⟨hw, hh, hd, (fun _ e => (by cases e)), ⟨by simp [Lof], by simp [Lof]⟩, ⟨by simp [Lof], by simp [Lof]⟩, ⟨by simp [Lof], by simp [Lof]⟩, by simp [Lof]⟩
/-- [te for v in l], of rooms that are drawn -/
theorem many_rooms {v : Nat} {te : ME} {ys : List D} {mi : MI} {o : Option Nat} {P : Rm → Prop} (D0 : Dk n c S) (hl : ys.length ≤ 100) (hg : ∀ S', Keep n c S S' → Gd ⟨o, ys⟩ S' = true) (hmi : ∀ (H : Its → Sto → Prop), H ⟨o, ys⟩ S → Run (mi env) S H)
    (ht : ∀ y ∈ ys, ∀ (S' : Sto) (H : D → Sto → Prop), Dk n c S' → Keep n c S S' → (∀ (r : Rm) S'', P r → Dk n c S'' → Keep n c S' S'' → H r.D S'') → Run (te ((wipeD env [v]).set v (some y))) S' H)
    (q : ∀ (rs : List Rm) k S', (∀ r ∈ rs, P r) → rs.length = ys.length → k ≠ n → k ≠ c → S'[k]? = some (.lst (rs.map Rm.D)) → Dk n c S' → Keep n c S S' → Q (.loc k) S') :
    Run (mLc mi (gNm v) (mC (.bl true)) te [v] env) S Q := by
  have sz : (sizeLine : Nat) = 16777216 := sizeLine_eq
  rw [run_lc]
  refine hmi _ ?_
  refine run_loopC (acc := []) (fun zs as S1 => Dk n c S1 ∧ Keep n c S S1 ∧ (∀ z ∈ zs, z ∈ ys) ∧ ∃ rs : List Rm, as = rs.map Rm.D ∧ (∀ r ∈ rs, P r) ∧ rs.length + zs.length = ys.length) ⟨D0, Keep.refl _ _ _, fun _ h => h, [], rfl, by simp, by simp⟩ (fun _ _ _ h => hg _ h.2.1) ?_ ?_ (fun ys as S1 _ => ⟨as, by simp⟩)
  · rintro y zs as S1 ⟨D1, K1, hy, rs, rfl, hr, hn⟩
    rw [run_gn, run_C]
    refine ⟨true, rfl, ?_⟩
    rw [if_pos rfl]
    refine ht y (hy y (by simp)) _ _ D1 K1 fun r S2 hP D2 K2 => ?_
    refine ⟨D2, K1.trans K2, fun z hz => hy z (by simp [hz]), rs ++ [r], by simp, ?_, by simp at hn ⊢; omega⟩
    intro s hs
    simp only [List.mem_append, List.mem_singleton] at hs
    rcases hs with hs | rfl
    · exact hr s hs
    · exact hP
  · rintro as S1 ⟨D1, K1, hy, rs, rfl, hr, hn⟩
    simp at hn
    refine ⟨rs.map Rm.D, by simp, by simp; omega, ?_⟩
    exact q rs _ _ hr hn D1.new.1 D1.new.2 get_new (D1.app _) (K1.trans (Keep.app _ _ _ _))
theorem rooms_sm {rs : List Rm} (h1 : ∀ r ∈ rs, Rm.ok w h day r) (hw : w ≤ 12) (hh : h ≤ 12) (hd : day ≤ 24) (hl : rs.length ≤ 20) : SmL (rs.map Rm.D) 1 5000 := by
  refine SmL.le (SmL.all (w := 246) (k := 1) ?_) ?_
  · intro d hd'
    simp only [List.mem_map] at hd'
    obtain ⟨r, hr, rfl⟩ := hd'
    exact Rm.sm (h1 r hr) hw hh hd
  · rw [List.length_map]
    have := Nat.mul_le_mul_right 247 hl
    omega
theorem grow_ok (ok : r.ok w h day) (hm : 0 ≤ m) : (r.grow w h m).ok w h day := by
  obtain ⟨⟨⟨a0, a1, a2⟩, b0, b1, b2⟩, c0, c1, c2⟩ := ok
  unfold Rm.grow Rm.ok Bok mx mn
  dsimp only
  refine ⟨⟨⟨?_, ?_, ?_⟩, ?_, ?_, ?_⟩, c0, c1, c2⟩ <;> repeat' split
  all_goals omega
theorem law_run (ns : List Int) (hn : ns.length ≤ 63) : Run (plaw [.sq (ns.map .int)]) [] fun d _ => d = .bl true := by
  have sz : (sizeLine : Nat) = 16777216 := sizeLine_eq
  unfold plaw
  simp only [fn_rt, fn_nx, seq_nx, seq_rt, seq_bk, seq_ct, turn_nx, turn_ct, turn_bk, turn_rt, run_fn, run_seq, run_asg, run_op, run_un, run_nil, run_cons, run_tup, run_lst, run_and, run_or, run_not, run_if, run_chain, run_call, run_callK, run_B, run_add, run_sub, run_lt, run_le, run_gt, run_ge, run_neg, run_mod, run_div, run_pow, run_mul, run_is, iN0, iN1, iN2, iN3, iN4, iN5, run_eqInt, run_eqStr, run_intB, run_min, run_max, run_lenT, run_mt0, run_mt, run_pass, run_rt, run_drop, run_sif, run_gn, run_par, run_gsn, run_gsc, run_gsb, run_for, run_iR1, run_iR2, run_ret, run_new, run_C, run_var', run_gtp, run_lc, on_some, on_none, exists_eq_left, exists_eq_left', Option.some.injEq, D.bl.injEq, List.cons.injEq, D.int.injEq, D.loc.injEq, D.tup.injEq, and_true, true_and, startD, List.map_cons, List.map_nil, List.length_cons, List.length_nil, List.replicate, List.cons_append, List.nil_append, List.getElem?_cons_zero, List.getElem?_cons_succ, List.getElem?_nil, List.set_cons_zero, List.set_cons_succ, List.set_nil, Nat.add_zero, Nat.zero_add, Nat.reduceAdd, Nat.reduceSub, deck_eq]
  refine deck_run hn fun n c S1 D1 => ?_
  unfold plaw_11
  simp only [fn_rt, fn_nx, seq_nx, seq_rt, seq_bk, seq_ct, turn_nx, turn_ct, turn_bk, turn_rt, run_fn, run_seq, run_asg, run_op, run_un, run_nil, run_cons, run_tup, run_lst, run_and, run_or, run_not, run_if, run_chain, run_call, run_callK, run_B, run_add, run_sub, run_lt, run_le, run_gt, run_ge, run_neg, run_mod, run_div, run_pow, run_mul, run_is, iN0, iN1, iN2, iN3, iN4, iN5, run_eqInt, run_eqStr, run_intB, run_min, run_max, run_lenT, run_mt0, run_mt, run_pass, run_rt, run_drop, run_sif, run_gn, run_par, run_gsn, run_gsc, run_gsb, run_for, run_iR1, run_iR2, run_ret, run_new, run_C, run_var', run_gtp, run_lc, on_some, on_none, exists_eq_left, exists_eq_left', Option.some.injEq, D.bl.injEq, List.cons.injEq, D.int.injEq, D.loc.injEq, D.tup.injEq, and_true, true_and, startD, List.map_cons, List.map_nil, List.length_cons, List.length_nil, List.replicate, List.cons_append, List.nil_append, List.getElem?_cons_zero, List.getElem?_cons_succ, List.getElem?_nil, List.set_cons_zero, List.set_cons_succ, List.set_nil, Nat.add_zero, Nat.zero_add, Nat.reduceAdd, Nat.reduceSub, draw_eq]
  refine draw_run D1 (by omega) (by omega) fun m S2 m0 m1 D2 K2 => ?_
  refine fields_gen D2 fun z w h day S3 hw hh hd z1 z2 hz D3 K3 => ?_
  try simp only [fn_rt, fn_nx, seq_nx, seq_rt, seq_bk, seq_ct, turn_nx, turn_ct, turn_bk, turn_rt, run_fn, run_seq, run_asg, run_op, run_un, run_nil, run_cons, run_tup, run_lst, run_and, run_or, run_not, run_if, run_chain, run_call, run_callK, run_B, run_add, run_sub, run_lt, run_le, run_gt, run_ge, run_neg, run_mod, run_div, run_pow, run_mul, run_is, iN0, iN1, iN2, iN3, iN4, iN5, run_eqInt, run_eqStr, run_intB, run_min, run_max, run_lenT, run_mt0, run_mt, run_pass, run_rt, run_drop, run_sif, run_gn, run_par, run_gsn, run_gsc, run_gsb, run_for, run_iR1, run_iR2, run_ret, run_new, run_C, run_var', run_gtp, run_lc, on_some, on_none, exists_eq_left, exists_eq_left', Option.some.injEq, D.bl.injEq, List.cons.injEq, D.int.injEq, D.loc.injEq, D.tup.injEq, and_true, true_and, startD, List.map_cons, List.map_nil, List.length_cons, List.length_nil, List.replicate, List.cons_append, List.nil_append, List.getElem?_cons_zero, List.getElem?_cons_succ, List.getElem?_nil, List.set_cons_zero, List.set_cons_succ, List.set_nil, Nat.add_zero, Nat.zero_add, Nat.reduceAdd, Nat.reduceSub]
  unfold plaw_10
  rw [run_seq, run_asg, run_make]
  simp only [fn_rt, fn_nx, seq_nx, seq_rt, seq_bk, seq_ct, turn_nx, turn_ct, turn_bk, turn_rt, run_fn, run_seq, run_asg, run_op, run_un, run_nil, run_cons, run_tup, run_lst, run_and, run_or, run_not, run_if, run_chain, run_call, run_callK, run_B, run_add, run_sub, run_lt, run_le, run_gt, run_ge, run_neg, run_mod, run_div, run_pow, run_mul, run_is, iN0, iN1, iN2, iN3, iN4, iN5, run_eqInt, run_eqStr, run_intB, run_min, run_max, run_lenT, run_mt0, run_mt, run_pass, run_rt, run_drop, run_sif, run_gn, run_par, run_gsn, run_gsc, run_gsb, run_for, run_iR1, run_iR2, run_ret, run_new, run_C, run_var', run_gtp, run_lc, on_some, on_none, exists_eq_left, exists_eq_left', Option.some.injEq, D.bl.injEq, List.cons.injEq, D.int.injEq, D.loc.injEq, D.tup.injEq, and_true, true_and, startD, List.map_cons, List.map_nil, List.length_cons, List.length_nil, List.replicate, List.cons_append, List.nil_append, List.getElem?_cons_zero, List.getElem?_cons_succ, List.getElem?_nil, List.set_cons_zero, List.set_cons_succ, List.set_nil, Nat.add_zero, Nat.zero_add, Nat.reduceAdd, Nat.reduceSub]
  refine (run_ixL hz at0).mpr ?_
  refine (run_ixL hz at1).mpr ?_
  refine (run_ixL hz at2).mpr ?_
  rw [gkM]
  have D4 := D3.app (.ins 0 [])
  have p1 := D3.new.1
  have p2 := D3.new.2
  have hz4 : Szs z w h day (S3 ++ [O.ins 0 []]) := get_app hz
  have zp : z ≠ S3.length := by have := (List.getElem?_eq_some_iff.mp (show S3[z]? = _ from hz)).1; omega
  refine mk_run (L := Lof w h day) (lof_ok hw hh hd) get_new fun S5 k5 hl => ⟨rfl, ?_⟩
  have D5 : Dk n c S5 := by
    obtain ⟨⟨a, t, ns, h1, h2, hl⟩, hne⟩ := D4
    exact ⟨⟨a, t, ns, k5 _ _ h1 (Ne.symm p1), k5 _ _ h2 (Ne.symm p2), hl⟩, hne⟩
  have z5 : Szs z w h day S5 := k5 _ _ hz4 zp
  generalize S3.length = l at p1 p2 hl ⊢
  clear k5 hz4 zp D4
  try simp only [fn_rt, fn_nx, seq_nx, seq_rt, seq_bk, seq_ct, turn_nx, turn_ct, turn_bk, turn_rt, run_fn, run_seq, run_asg, run_op, run_un, run_nil, run_cons, run_tup, run_lst, run_and, run_or, run_not, run_if, run_chain, run_call, run_callK, run_B, run_add, run_sub, run_lt, run_le, run_gt, run_ge, run_neg, run_mod, run_div, run_pow, run_mul, run_is, iN0, iN1, iN2, iN3, iN4, iN5, run_eqInt, run_eqStr, run_intB, run_min, run_max, run_lenT, run_mt0, run_mt, run_pass, run_rt, run_drop, run_sif, run_gn, run_par, run_gsn, run_gsc, run_gsb, run_for, run_iR1, run_iR2, run_ret, run_new, run_C, run_var', run_gtp, run_lc, on_some, on_none, exists_eq_left, exists_eq_left', Option.some.injEq, D.bl.injEq, List.cons.injEq, D.int.injEq, D.loc.injEq, D.tup.injEq, and_true, true_and, startD, List.map_cons, List.map_nil, List.length_cons, List.length_nil, List.replicate, List.cons_append, List.nil_append, List.getElem?_cons_zero, List.getElem?_cons_succ, List.getElem?_nil, List.set_cons_zero, List.set_cons_succ, List.set_nil, Nat.add_zero, Nat.zero_add, Nat.reduceAdd, Nat.reduceSub]
  unfold plaw_9
  rw [run_seq, run_asg]
  have iv : ∀ (e : DEnv) (H : Its → Sto → Prop), e[1]? = some (some (.loc n)) → (∀ (m : Int) S', (0 ≤ m ∧ m ≤ 5) → Dk n c S' → Keep n c S5 S' → H ⟨none, rng 0 m.toNat⟩ S') → Run (iR1 (mCons (mCall p_law_draw (mCons (mVar 1) (mCons (mC (.int 6)) mNil))) mNil) e) S5 H := by
    intro e H he q
    rw [run_iR1, run_cons, run_call, run_cons, run_var he, run_cons, run_C, run_nil, draw_eq]
    refine draw_run D5 (by omega) (by omega) fun m S' m0 m1 D' K' => ?_
    rw [run_nil]
    exact ⟨m, rfl, ⟨by omega, by omega⟩, q m S' ⟨m0, by omega⟩ D' K'⟩
  rw [run_lc]
  refine iv _ _ rfl fun k S6 hk D6 K6 => ?_
  have z6 : Szs z w h day S6 := K6.at_ _ _ z5 z1 z2
  have l6 := hl.keep K6 p1 p2
  have ln : (rng 0 k.toNat).length ≤ 5 := by unfold rng; simp; omega
  have mr := many_rooms (S := S6) (Q := fun d S' => Run (plaw_8 [some (.sq (ns.map .int)), some (.loc n), some (.int m), some (.loc z), some (.loc l), some d, none, none, none, none, none, none, none]) S' (onFn fun d _ => d = .bl true)) (env := [some (.sq (ns.map .int)), some (.loc n), some (.int m), some (.loc z), some (.loc l), none, none, none, none, none, none, none, none]) (v := 12) (te := mCall p_law_space (mCons (mVar 1) (mCons (mVar 3) mNil))) (ys := rng 0 k.toNat) (mi := fun _ => ret (⟨none, rng 0 k.toNat⟩ : Its)) (P := Rm.ok w h day) D6 (by omega) (fun _ _ => Gd.none) (fun H q => run_ret.mpr q) ?_ ?_
  · rw [run_lc, run_ret] at mr
    refine mr.mono fun ds S' hq => ⟨hq.1, ?_⟩
    simp only [fn_rt, fn_nx, seq_nx, seq_rt, seq_bk, seq_ct, turn_nx, turn_ct, turn_bk, turn_rt, run_fn, run_seq, run_asg, run_op, run_un, run_nil, run_cons, run_tup, run_lst, run_and, run_or, run_not, run_if, run_chain, run_call, run_callK, run_B, run_add, run_sub, run_lt, run_le, run_gt, run_ge, run_neg, run_mod, run_div, run_pow, run_mul, run_is, iN0, iN1, iN2, iN3, iN4, iN5, run_eqInt, run_eqStr, run_intB, run_min, run_max, run_lenT, run_mt0, run_mt, run_pass, run_rt, run_drop, run_sif, run_gn, run_par, run_gsn, run_gsc, run_gsb, run_for, run_iR1, run_iR2, run_ret, run_new, run_C, run_var', run_gtp, run_lc, on_some, on_none, exists_eq_left, exists_eq_left', Option.some.injEq, D.bl.injEq, List.cons.injEq, D.int.injEq, D.loc.injEq, D.tup.injEq, and_true, true_and, startD, List.map_cons, List.map_nil, List.length_cons, List.length_nil, List.replicate, List.cons_append, List.nil_append, List.getElem?_cons_zero, List.getElem?_cons_succ, List.getElem?_nil, List.set_cons_zero, List.set_cons_succ, List.set_nil, Nat.add_zero, Nat.zero_add, Nat.reduceAdd, Nat.reduceSub]
    exact hq.2
  · intro y _ S' H D' K' q
    simp only [fn_rt, fn_nx, seq_nx, seq_rt, seq_bk, seq_ct, turn_nx, turn_ct, turn_bk, turn_rt, run_fn, run_seq, run_asg, run_op, run_un, run_nil, run_cons, run_tup, run_lst, run_and, run_or, run_not, run_if, run_chain, run_call, run_callK, run_B, run_add, run_sub, run_lt, run_le, run_gt, run_ge, run_neg, run_mod, run_div, run_pow, run_mul, run_is, iN0, iN1, iN2, iN3, iN4, iN5, run_eqInt, run_eqStr, run_intB, run_min, run_max, run_lenT, run_mt0, run_mt, run_pass, run_rt, run_drop, run_sif, run_gn, run_par, run_gsn, run_gsc, run_gsb, run_for, run_iR1, run_iR2, run_ret, run_new, run_C, run_var', run_gtp, run_lc, on_some, on_none, exists_eq_left, exists_eq_left', Option.some.injEq, D.bl.injEq, List.cons.injEq, D.int.injEq, D.loc.injEq, D.tup.injEq, and_true, true_and, startD, List.map_cons, List.map_nil, List.length_cons, List.length_nil, List.replicate, List.cons_append, List.nil_append, List.getElem?_cons_zero, List.getElem?_cons_succ, List.getElem?_nil, List.set_cons_zero, List.set_cons_succ, List.set_nil, Nat.add_zero, Nat.zero_add, Nat.reduceAdd, Nat.reduceSub, wipeD]
    exact space_gen (K'.at_ _ _ z6 z1 z2) D' z1 z2 hw hh hd q
  intro rs k1 S7 hrs hrl k1n k1c hk1 D7 K7
  have z7 : Szs z w h day S7 := K7.at_ _ _ z6 z1 z2
  have l7 := l6.keep K7 p1 p2
  have rl : rs.length ≤ 5 := by omega
  clear iv
  unfold plaw_8
  rw [run_seq, run_asg]
  refine many_rooms (P := Rm.ok w h day) (ys := rs.map Rm.D) (o := some k1) D7 (by simp; omega) (fun S' K' => Gd.some (K'.at_ _ _ hk1 k1n k1c)) (fun H q => by rw [run_iV, run_var rfl, run_iVL hk1]; exact q) ?_ ?_
  · intro y hy S' H D' K' q
    simp only [List.mem_map] at hy
    obtain ⟨r, hr, rfl⟩ := hy
    simp only [fn_rt, fn_nx, seq_nx, seq_rt, seq_bk, seq_ct, turn_nx, turn_ct, turn_bk, turn_rt, run_fn, run_seq, run_asg, run_op, run_un, run_nil, run_cons, run_tup, run_lst, run_and, run_or, run_not, run_if, run_chain, run_call, run_callK, run_B, run_add, run_sub, run_lt, run_le, run_gt, run_ge, run_neg, run_mod, run_div, run_pow, run_mul, run_is, iN0, iN1, iN2, iN3, iN4, iN5, run_eqInt, run_eqStr, run_intB, run_min, run_max, run_lenT, run_mt0, run_mt, run_pass, run_rt, run_drop, run_sif, run_gn, run_par, run_gsn, run_gsc, run_gsb, run_for, run_iR1, run_iR2, run_ret, run_new, run_C, run_var', run_gtp, run_lc, on_some, on_none, exists_eq_left, exists_eq_left', Option.some.injEq, D.bl.injEq, List.cons.injEq, D.int.injEq, D.loc.injEq, D.tup.injEq, and_true, true_and, startD, List.map_cons, List.map_nil, List.length_cons, List.length_nil, List.replicate, List.cons_append, List.nil_append, List.getElem?_cons_zero, List.getElem?_cons_succ, List.getElem?_nil, List.set_cons_zero, List.set_cons_succ, List.set_nil, Nat.add_zero, Nat.zero_add, Nat.reduceAdd, Nat.reduceSub, wipeD]
    exact beside_gen (K'.at_ _ _ z7 z1 z2) D' z1 z2 hw hh hd q
  intro ss k2 S8 hss hsl k2n k2c hk2 D8 K8
  have z8 : Szs z w h day S8 := K8.at_ _ _ z7 z1 z2
  have l8 := l7.keep K8 p1 p2
  have hk1' := K8.at_ _ _ hk1 k1n k1c
  have sl : ss.length ≤ 5 := by simp at hsl; omega
  try simp only [fn_rt, fn_nx, seq_nx, seq_rt, seq_bk, seq_ct, turn_nx, turn_ct, turn_bk, turn_rt, run_fn, run_seq, run_asg, run_op, run_un, run_nil, run_cons, run_tup, run_lst, run_and, run_or, run_not, run_if, run_chain, run_call, run_callK, run_B, run_add, run_sub, run_lt, run_le, run_gt, run_ge, run_neg, run_mod, run_div, run_pow, run_mul, run_is, iN0, iN1, iN2, iN3, iN4, iN5, run_eqInt, run_eqStr, run_intB, run_min, run_max, run_lenT, run_mt0, run_mt, run_pass, run_rt, run_drop, run_sif, run_gn, run_par, run_gsn, run_gsc, run_gsb, run_for, run_iR1, run_iR2, run_ret, run_new, run_C, run_var', run_gtp, run_lc, on_some, on_none, exists_eq_left, exists_eq_left', Option.some.injEq, D.bl.injEq, List.cons.injEq, D.int.injEq, D.loc.injEq, D.tup.injEq, and_true, true_and, startD, List.map_cons, List.map_nil, List.length_cons, List.length_nil, List.replicate, List.cons_append, List.nil_append, List.getElem?_cons_zero, List.getElem?_cons_succ, List.getElem?_nil, List.set_cons_zero, List.set_cons_succ, List.set_nil, Nat.add_zero, Nat.zero_add, Nat.reduceAdd, Nat.reduceSub]
  unfold plaw_7
  rw [run_seq, run_par, run_cons, run_B, run_cons, run_lc, run_iV, run_var rfl, run_iVL hk1']
  have rsm := rooms_sm hrs hw.2 hh.2 hd.2 (by omega)
  have gsm : SmL ((rs.map (Rm.grow w h m)).map Rm.D) 1 5000 := rooms_sm (w := w) (h := h) (day := day) (by
    intro r hr
    simp only [List.mem_map] at hr
    obtain ⟨s, hs, rfl⟩ := hr
    exact grow_ok (hrs s hs) m0) hw.2 hh.2 hd.2 (by simp; omega)
  refine run_loopC (acc := []) (fun ys as T => Gr S8 T ∧ ∃ us vs : List Rm, rs = us ++ vs ∧ ys = vs.map Rm.D ∧ as = (us.map (Rm.grow w h m)).map Rm.D) ⟨Gr.refl _, [], rs, rfl, rfl, rfl⟩ (fun _ _ _ g => Gd.some (g.1 _ _ hk1')) ?_ ?_ (fun ys as S1 _ => ⟨as, by simp⟩)
  · rintro y ys as T ⟨g, us, vs, e, ey, rfl⟩
    cases vs with
    | nil => cases ey
    | cons v vs =>
      cases ey
      have vok := hrs v (by rw [e]; simp)
      rw [run_gn, run_C]
      refine ⟨true, rfl, ?_⟩
      rw [if_pos rfl]
      simp only [fn_rt, fn_nx, seq_nx, seq_rt, seq_bk, seq_ct, turn_nx, turn_ct, turn_bk, turn_rt, run_fn, run_seq, run_asg, run_op, run_un, run_nil, run_cons, run_tup, run_lst, run_and, run_or, run_not, run_if, run_chain, run_call, run_callK, run_B, run_add, run_sub, run_lt, run_le, run_gt, run_ge, run_neg, run_mod, run_div, run_pow, run_mul, run_is, iN0, iN1, iN2, iN3, iN4, iN5, run_eqInt, run_eqStr, run_intB, run_min, run_max, run_lenT, run_mt0, run_mt, run_pass, run_rt, run_drop, run_sif, run_gn, run_par, run_gsn, run_gsc, run_gsb, run_for, run_iR1, run_iR2, run_ret, run_new, run_C, run_var', run_gtp, run_lc, on_some, on_none, exists_eq_left, exists_eq_left', Option.some.injEq, D.bl.injEq, List.cons.injEq, D.int.injEq, D.loc.injEq, D.tup.injEq, and_true, true_and, startD, List.map_cons, List.map_nil, List.length_cons, List.length_nil, List.replicate, List.cons_append, List.nil_append, List.getElem?_cons_zero, List.getElem?_cons_succ, List.getElem?_nil, List.set_cons_zero, List.set_cons_succ, List.set_nil, Nat.add_zero, Nat.zero_add, Nat.reduceAdd, Nat.reduceSub, wipeD]
      refine wider_run (g _ _ z8) hw hh vok.1 m0 fun T' g' => ?_
      exact ⟨g.trans g', us ++ [v], vs, by rw [e]; simp, rfl, by simp⟩
  rintro as T ⟨g, us, vs, e, ey, rfl⟩
  cases vs with
  | cons v vs => cases ey
  | nil =>
  rw [List.append_nil] at e
  subst e
  refine ⟨_, rfl, by simp; omega, ?_⟩
  rw [run_nil]
  refine (run_tupleL get_new).mpr ?_
  have g9 := g.trans (Gr.app T (.lst ((rs.map (Rm.grow w h m)).map Rm.D)))
  generalize T ++ [O.lst ((rs.map (Rm.grow w h m)).map Rm.D)] = S9 at g9 ⊢
  rw [run_cons, run_B, run_cons, run_var rfl, run_nil]
  refine (rsm.repr (by decide) (by decide) (g9 _ _ hk1')).mpr ?_
  rw [run_nil]
  refine ⟨_, _, rfl, ?_⟩
  simp only [startD, List.map_cons, List.map_nil, List.length_cons, List.length_nil, List.replicate, List.cons_append, List.nil_append, List.getElem?_cons_zero, List.getElem?_cons_succ, List.getElem?_nil, List.set_cons_zero, List.set_cons_succ, List.set_nil, Nat.add_zero, Nat.zero_add, Nat.reduceAdd, Nat.reduceSub]
  rw [seq_nx]
  unfold plaw_6
  rw [run_seq, run_asg, run_lst, run_cons, run_call, run_cons, run_var rfl, run_cons, run_B, run_cons, run_var rfl, run_nil]
  refine (run_tupleL (g9 _ _ hk1')).mpr ?_
  simp only [fn_rt, fn_nx, seq_nx, seq_rt, seq_bk, seq_ct, turn_nx, turn_ct, turn_bk, turn_rt, run_fn, run_seq, run_asg, run_op, run_un, run_nil, run_cons, run_tup, run_lst, run_and, run_or, run_not, run_if, run_chain, run_call, run_callK, run_B, run_add, run_sub, run_lt, run_le, run_gt, run_ge, run_neg, run_mod, run_div, run_pow, run_mul, run_is, iN0, iN1, iN2, iN3, iN4, iN5, run_eqInt, run_eqStr, run_intB, run_min, run_max, run_lenT, run_mt0, run_mt, run_pass, run_rt, run_drop, run_sif, run_gn, run_par, run_gsn, run_gsc, run_gsb, run_for, run_iR1, run_iR2, run_ret, run_new, run_C, run_var', run_gtp, run_lc, on_some, on_none, exists_eq_left, exists_eq_left', Option.some.injEq, D.bl.injEq, List.cons.injEq, D.int.injEq, D.loc.injEq, D.tup.injEq, and_true, true_and, startD, List.map_cons, List.map_nil, List.length_cons, List.length_nil, List.replicate, List.cons_append, List.nil_append, List.getElem?_cons_zero, List.getElem?_cons_succ, List.getElem?_nil, List.set_cons_zero, List.set_cons_succ, List.set_nil, Nat.add_zero, Nat.zero_add, Nat.reduceAdd, Nat.reduceSub, gkG]
  refine grown_run (L := Lof w h day) (l8.gr g9) (by omega) fun S10 g10 => ?_
  have g10' := g9.trans g10
  try simp only [fn_rt, fn_nx, seq_nx, seq_rt, seq_bk, seq_ct, turn_nx, turn_ct, turn_bk, turn_rt, run_fn, run_seq, run_asg, run_op, run_un, run_nil, run_cons, run_tup, run_lst, run_and, run_or, run_not, run_if, run_chain, run_call, run_callK, run_B, run_add, run_sub, run_lt, run_le, run_gt, run_ge, run_neg, run_mod, run_div, run_pow, run_mul, run_is, iN0, iN1, iN2, iN3, iN4, iN5, run_eqInt, run_eqStr, run_intB, run_min, run_max, run_lenT, run_mt0, run_mt, run_pass, run_rt, run_drop, run_sif, run_gn, run_par, run_gsn, run_gsc, run_gsb, run_for, run_iR1, run_iR2, run_ret, run_new, run_C, run_var', run_gtp, run_lc, on_some, on_none, exists_eq_left, exists_eq_left', Option.some.injEq, D.bl.injEq, List.cons.injEq, D.int.injEq, D.loc.injEq, D.tup.injEq, and_true, true_and, startD, List.map_cons, List.map_nil, List.length_cons, List.length_nil, List.replicate, List.cons_append, List.nil_append, List.getElem?_cons_zero, List.getElem?_cons_succ, List.getElem?_nil, List.set_cons_zero, List.set_cons_succ, List.set_nil, Nat.add_zero, Nat.zero_add, Nat.reduceAdd, Nat.reduceSub]
  refine (run_tupleL (g10' _ _ hk1')).mpr ?_
  try simp only [fn_rt, fn_nx, seq_nx, seq_rt, seq_bk, seq_ct, turn_nx, turn_ct, turn_bk, turn_rt, run_fn, run_seq, run_asg, run_op, run_un, run_nil, run_cons, run_tup, run_lst, run_and, run_or, run_not, run_if, run_chain, run_call, run_callK, run_B, run_add, run_sub, run_lt, run_le, run_gt, run_ge, run_neg, run_mod, run_div, run_pow, run_mul, run_is, iN0, iN1, iN2, iN3, iN4, iN5, run_eqInt, run_eqStr, run_intB, run_min, run_max, run_lenT, run_mt0, run_mt, run_pass, run_rt, run_drop, run_sif, run_gn, run_par, run_gsn, run_gsc, run_gsb, run_for, run_iR1, run_iR2, run_ret, run_new, run_C, run_var', run_gtp, run_lc, on_some, on_none, exists_eq_left, exists_eq_left', Option.some.injEq, D.bl.injEq, List.cons.injEq, D.int.injEq, D.loc.injEq, D.tup.injEq, and_true, true_and, startD, List.map_cons, List.map_nil, List.length_cons, List.length_nil, List.replicate, List.cons_append, List.nil_append, List.getElem?_cons_zero, List.getElem?_cons_succ, List.getElem?_nil, List.set_cons_zero, List.set_cons_succ, List.set_nil, Nat.add_zero, Nat.zero_add, Nat.reduceAdd, Nat.reduceSub, gkG]
  refine grown_run (L := Lof w h day) (l8.gr g10') (by omega) fun S11 g11 => ?_
  have g11' := g10'.trans g11
  try simp only [fn_rt, fn_nx, seq_nx, seq_rt, seq_bk, seq_ct, turn_nx, turn_ct, turn_bk, turn_rt, run_fn, run_seq, run_asg, run_op, run_un, run_nil, run_cons, run_tup, run_lst, run_and, run_or, run_not, run_if, run_chain, run_call, run_callK, run_B, run_add, run_sub, run_lt, run_le, run_gt, run_ge, run_neg, run_mod, run_div, run_pow, run_mul, run_is, iN0, iN1, iN2, iN3, iN4, iN5, run_eqInt, run_eqStr, run_intB, run_min, run_max, run_lenT, run_mt0, run_mt, run_pass, run_rt, run_drop, run_sif, run_gn, run_par, run_gsn, run_gsc, run_gsb, run_for, run_iR1, run_iR2, run_ret, run_new, run_C, run_var', run_gtp, run_lc, on_some, on_none, exists_eq_left, exists_eq_left', Option.some.injEq, D.bl.injEq, List.cons.injEq, D.int.injEq, D.loc.injEq, D.tup.injEq, and_true, true_and, startD, List.map_cons, List.map_nil, List.length_cons, List.length_nil, List.replicate, List.cons_append, List.nil_append, List.getElem?_cons_zero, List.getElem?_cons_succ, List.getElem?_nil, List.set_cons_zero, List.set_cons_succ, List.set_nil, Nat.add_zero, Nat.zero_add, Nat.reduceAdd, Nat.reduceSub]
  have tsm : SmL [D.tup ((rs.map (Rm.grow w h m)).map Rm.D), .tup ((rs.map (Rm.grow w h m)).map Rm.D)] 2 10100 := SmL.le (.cons (Sm.tup gsm) (.cons (Sm.tup gsm) .nil)) (by omega)
  have h12 : (S11 ++ [O.lst [D.tup ((rs.map (Rm.grow w h m)).map Rm.D), .tup ((rs.map (Rm.grow w h m)).map Rm.D)]])[S11.length]? = some (.lst [D.tup ((rs.map (Rm.grow w h m)).map Rm.D), .tup ((rs.map (Rm.grow w h m)).map Rm.D)]) := get_new
  have g12 := g11'.trans (Gr.app S11 (.lst [D.tup ((rs.map (Rm.grow w h m)).map Rm.D), .tup ((rs.map (Rm.grow w h m)).map Rm.D)]))
  show Run (plaw_5 [some (.sq (ns.map .int)), some (.loc n), some (.int m), some (.loc z), some (.loc l), some (.loc k1), some (.loc k2), some (.tup ((rs.map (Rm.grow w h m)).map Rm.D)), some (.str (shw (.sq (rs.map Rm.D)))), some (.loc S11.length), none, none, none]) (S11 ++ [O.lst [D.tup ((rs.map (Rm.grow w h m)).map Rm.D), .tup ((rs.map (Rm.grow w h m)).map Rm.D)]]) (onFn fun d _ => d = .bl true)
  generalize S11 ++ [O.lst [D.tup ((rs.map (Rm.grow w h m)).map Rm.D), .tup ((rs.map (Rm.grow w h m)).map Rm.D)]] = S12 at h12 g12 ⊢
  generalize S11.length = kh at h12 ⊢
  unfold plaw_5
  rw [run_seq, run_sif, run_or, run_op, run_B, run_cons, run_var rfl, run_nil]
  refine (tsm.repr (by decide) (by decide) h12).mpr ?_
  simp only [fn_rt, fn_nx, seq_nx, seq_rt, seq_bk, seq_ct, turn_nx, turn_ct, turn_bk, turn_rt, run_fn, run_seq, run_asg, run_op, run_un, run_nil, run_cons, run_tup, run_lst, run_and, run_or, run_not, run_if, run_chain, run_call, run_callK, run_B, run_add, run_sub, run_lt, run_le, run_gt, run_ge, run_neg, run_mod, run_div, run_pow, run_mul, run_is, iN0, iN1, iN2, iN3, iN4, iN5, run_eqInt, run_eqStr, run_intB, run_min, run_max, run_lenT, run_mt0, run_mt, run_pass, run_rt, run_drop, run_sif, run_gn, run_par, run_gsn, run_gsc, run_gsb, run_for, run_iR1, run_iR2, run_ret, run_new, run_C, run_var', run_gtp, run_lc, on_some, on_none, exists_eq_left, exists_eq_left', Option.some.injEq, D.bl.injEq, List.cons.injEq, D.int.injEq, D.loc.injEq, D.tup.injEq, and_true, true_and, startD, List.map_cons, List.map_nil, List.length_cons, List.length_nil, List.replicate, List.cons_append, List.nil_append, List.getElem?_cons_zero, List.getElem?_cons_succ, List.getElem?_nil, List.set_cons_zero, List.set_cons_succ, List.set_nil, Nat.add_zero, Nat.zero_add, Nat.reduceAdd, Nat.reduceSub]
  refine (tsm.repr (by decide) (by decide) get_new).mpr ?_
  have g13 := g12.trans (Gr.app S12 (.lst [D.tup ((rs.map (Rm.grow w h m)).map Rm.D), .tup ((rs.map (Rm.grow w h m)).map Rm.D)]))
  generalize S12 ++ [O.lst [D.tup ((rs.map (Rm.grow w h m)).map Rm.D), .tup ((rs.map (Rm.grow w h m)).map Rm.D)]] = S13 at g13 ⊢
  simp only [run_eqStr, eqT rfl, fn_rt, fn_nx, seq_nx, seq_rt, seq_bk, seq_ct, turn_nx, turn_ct, turn_bk, turn_rt, run_fn, run_seq, run_asg, run_op, run_un, run_nil, run_cons, run_tup, run_lst, run_and, run_or, run_not, run_if, run_chain, run_call, run_callK, run_B, run_add, run_sub, run_lt, run_le, run_gt, run_ge, run_neg, run_mod, run_div, run_pow, run_mul, run_is, iN0, iN1, iN2, iN3, iN4, iN5, run_eqInt, run_eqStr, run_intB, run_min, run_max, run_lenT, run_mt0, run_mt, run_pass, run_rt, run_drop, run_sif, run_gn, run_par, run_gsn, run_gsc, run_gsb, run_for, run_iR1, run_iR2, run_ret, run_new, run_C, run_var', run_gtp, run_lc, on_some, on_none, exists_eq_left, exists_eq_left', Option.some.injEq, D.bl.injEq, List.cons.injEq, D.int.injEq, D.loc.injEq, D.tup.injEq, and_true, true_and, startD, List.map_cons, List.map_nil, List.length_cons, List.length_nil, List.replicate, List.cons_append, List.nil_append, List.getElem?_cons_zero, List.getElem?_cons_succ, List.getElem?_nil, List.set_cons_zero, List.set_cons_succ, List.set_nil, Nat.add_zero, Nat.zero_add, Nat.reduceAdd, Nat.reduceSub, bne_self_eq_false, Bool.false_eq_true, if_false]
  refine (rsm.repr (by decide) (by decide) (g13 _ _ hk1')).mpr ?_
  simp only [run_eqStr, eqT rfl, fn_rt, fn_nx, seq_nx, seq_rt, seq_bk, seq_ct, turn_nx, turn_ct, turn_bk, turn_rt, run_fn, run_seq, run_asg, run_op, run_un, run_nil, run_cons, run_tup, run_lst, run_and, run_or, run_not, run_if, run_chain, run_call, run_callK, run_B, run_add, run_sub, run_lt, run_le, run_gt, run_ge, run_neg, run_mod, run_div, run_pow, run_mul, run_is, iN0, iN1, iN2, iN3, iN4, iN5, run_eqInt, run_eqStr, run_intB, run_min, run_max, run_lenT, run_mt0, run_mt, run_pass, run_rt, run_drop, run_sif, run_gn, run_par, run_gsn, run_gsc, run_gsb, run_for, run_iR1, run_iR2, run_ret, run_new, run_C, run_var', run_gtp, run_lc, on_some, on_none, exists_eq_left, exists_eq_left', Option.some.injEq, D.bl.injEq, List.cons.injEq, D.int.injEq, D.loc.injEq, D.tup.injEq, and_true, true_and, startD, List.map_cons, List.map_nil, List.length_cons, List.length_nil, List.replicate, List.cons_append, List.nil_append, List.getElem?_cons_zero, List.getElem?_cons_succ, List.getElem?_nil, List.set_cons_zero, List.set_cons_succ, List.set_nil, Nat.add_zero, Nat.zero_add, Nat.reduceAdd, Nat.reduceSub, bne_self_eq_false, Bool.false_eq_true, if_false]
  have hall : ∀ r ∈ rs ++ ss, Rm.ok w h day r := by
    intro r hr
    rcases List.mem_append.mp hr with hr | hr
    · exact hrs r hr
    · exact hss r hr
  have len : (rs.map Rm.D).length + (ss.map Rm.D).length ≤ sizeLine := by simp; omega
  unfold plaw_4
  rw [run_seq, run_for, run_iV, run_op, run_var rfl, run_var rfl]
  refine (run_catL (g13 _ _ hk1') (g13 _ _ hk2) len).mpr ?_
  rw [run_iVL get_new]
  have g14 := g13.trans (Gr.app S13 (.lst (rs.map Rm.D ++ ss.map Rm.D)))
  have h14 : (S13 ++ [O.lst (rs.map Rm.D ++ ss.map Rm.D)])[S13.length]? = some (.lst (rs.map Rm.D ++ ss.map Rm.D)) := get_new
  generalize S13 ++ [O.lst (rs.map Rm.D ++ ss.map Rm.D)] = S14 at g14 h14 ⊢
  generalize S13.length = k14 at h14 ⊢
  refine run_loop (fun ys e T => Gr S14 T ∧ (∃ a10 a11, e = [some (.sq (ns.map .int)), some (.loc n), some (.int m), some (.loc z), some (.loc l), some (.loc k1), some (.loc k2), some (.tup ((rs.map (Rm.grow w h m)).map Rm.D)), some (.str (shw (.sq (rs.map Rm.D)))), some (.loc kh), a10, a11, none]) ∧ ∃ vs : List Rm, ys = vs.map Rm.D ∧ ∀ v ∈ vs, Rm.ok w h day v) ⟨Gr.refl _, ⟨_, _, rfl⟩, rs ++ ss, by simp, hall⟩ (fun _ _ _ g => Gd.some (g.1 _ _ h14)) ?_ ?_
  · rintro y ys e T ⟨gT, ⟨a10, a11, rfl⟩, vs, ey, hv⟩
    cases vs with
    | nil => cases ey
    | cons v vs =>
      cases ey
      have vok := hv v (by simp)
      have gt := g14.trans gT
      rw [run_gn]
      simp only [startD, List.map_cons, List.map_nil, List.length_cons, List.length_nil, List.replicate, List.cons_append, List.nil_append, List.getElem?_cons_zero, List.getElem?_cons_succ, List.getElem?_nil, List.set_cons_zero, List.set_cons_succ, List.set_nil, Nat.add_zero, Nat.zero_add, Nat.reduceAdd, Nat.reduceSub]
      unfold plaw_2
      rw [run_for, run_iV, run_op, run_var rfl, run_var rfl]
      refine (run_catL (gt _ _ hk1') (gt _ _ hk2) len).mpr ?_
      rw [run_iVL get_new]
      have gu := gT.trans (Gr.app T (.lst (rs.map Rm.D ++ ss.map Rm.D)))
      have hu : (T ++ [O.lst (rs.map Rm.D ++ ss.map Rm.D)])[T.length]? = some (.lst (rs.map Rm.D ++ ss.map Rm.D)) := get_new
      generalize T ++ [O.lst (rs.map Rm.D ++ ss.map Rm.D)] = U at gu hu ⊢
      generalize T.length = ku at hu ⊢
      refine run_loop (fun ys e T => Gr U T ∧ (∃ a11, e = [some (.sq (ns.map .int)), some (.loc n), some (.int m), some (.loc z), some (.loc l), some (.loc k1), some (.loc k2), some (.tup ((rs.map (Rm.grow w h m)).map Rm.D)), some (.str (shw (.sq (rs.map Rm.D)))), some (.loc kh), some v.D, a11, none]) ∧ ∃ xs : List Rm, ys = xs.map Rm.D ∧ ∀ x ∈ xs, Rm.ok w h day x) ⟨Gr.refl _, ⟨_, rfl⟩, rs ++ ss, by simp, hall⟩ (fun _ _ _ g => Gd.some (g.1 _ _ hu)) ?_ ?_
      · rintro y' ys' e V ⟨gV, ⟨b11, rfl⟩, xs, ex, hx⟩
        cases xs with
        | nil => cases ex
        | cons x xs =>
          cases ex
          rw [run_gn]
          simp only [startD, List.map_cons, List.map_nil, List.length_cons, List.length_nil, List.replicate, List.cons_append, List.nil_append, List.getElem?_cons_zero, List.getElem?_cons_succ, List.getElem?_nil, List.set_cons_zero, List.set_cons_succ, List.set_nil, Nat.add_zero, Nat.zero_add, Nat.reduceAdd, Nat.reduceSub]
          unfold plaw_1
          simp only [fn_rt, fn_nx, seq_nx, seq_rt, seq_bk, seq_ct, turn_nx, turn_ct, turn_bk, turn_rt, run_fn, run_seq, run_asg, run_op, run_un, run_nil, run_cons, run_tup, run_lst, run_and, run_or, run_not, run_if, run_chain, run_call, run_callK, run_B, run_add, run_sub, run_lt, run_le, run_gt, run_ge, run_neg, run_mod, run_div, run_pow, run_mul, run_is, iN0, iN1, iN2, iN3, iN4, iN5, run_eqInt, run_eqStr, run_intB, run_min, run_max, run_lenT, run_mt0, run_mt, run_pass, run_rt, run_drop, run_sif, run_gn, run_par, run_gsn, run_gsc, run_gsb, run_for, run_iR1, run_iR2, run_ret, run_new, run_C, run_var', run_gtp, run_lc, on_some, on_none, exists_eq_left, exists_eq_left', Option.some.injEq, D.bl.injEq, List.cons.injEq, D.int.injEq, D.loc.injEq, D.tup.injEq, and_true, true_and, startD, List.map_cons, List.map_nil, List.length_cons, List.length_nil, List.replicate, List.cons_append, List.nil_append, List.getElem?_cons_zero, List.getElem?_cons_succ, List.getElem?_nil, List.set_cons_zero, List.set_cons_succ, List.set_nil, Nat.add_zero, Nat.zero_add, Nat.reduceAdd, Nat.reduceSub]
          refine two_run (L := Lof w h day) (l8.gr (g14.trans (gu.trans gV))) hw.2 hh.2 hd.2 vok (hx x (by simp)) ⟨m0, by omega⟩ fun W gW => ?_
          refine ⟨true, rfl, ?_⟩
          simp only [Bool.not_true, Bool.false_eq_true, if_false]
          exact ⟨gV.trans gW, ⟨_, rfl⟩, xs, rfl, fun u hu => hx u (by simp [hu])⟩
      · rintro e V ⟨gV, ⟨b11, rfl⟩, xs, ex, hx⟩
        rw [turn_nx]
        exact ⟨gu.trans gV, ⟨_, _, rfl⟩, vs, rfl, fun u hu => hv u (by simp [hu])⟩
  · rintro e T ⟨gT, ⟨a10, a11, rfl⟩, vs, ey, hv⟩
    rw [seq_nx]
    unfold plaw_3
    simp only [fn_rt, fn_nx, seq_nx, seq_rt, seq_bk, seq_ct, turn_nx, turn_ct, turn_bk, turn_rt, run_fn, run_seq, run_asg, run_op, run_un, run_nil, run_cons, run_tup, run_lst, run_and, run_or, run_not, run_if, run_chain, run_call, run_callK, run_B, run_add, run_sub, run_lt, run_le, run_gt, run_ge, run_neg, run_mod, run_div, run_pow, run_mul, run_is, iN0, iN1, iN2, iN3, iN4, iN5, run_eqInt, run_eqStr, run_intB, run_min, run_max, run_lenT, run_mt0, run_mt, run_pass, run_rt, run_drop, run_sif, run_gn, run_par, run_gsn, run_gsc, run_gsb, run_for, run_iR1, run_iR2, run_ret, run_new, run_C, run_var', run_gtp, run_lc, on_some, on_none, exists_eq_left, exists_eq_left', Option.some.injEq, D.bl.injEq, List.cons.injEq, D.int.injEq, D.loc.injEq, D.tup.injEq, and_true, true_and]
theorem law_true (ns : List Int) (hn : ns.length ≤ 63) : ∃ S', plaw [.sq (ns.map D.int)] [] = some (.bl true, S') := by
  obtain ⟨d, S', e, rfl⟩ := law_run ns hn
  exact ⟨S', e⟩
end
end Wwindfleet_k37_rooms_grown_and_clashing

end
namespace Wwindfleet_k37_rooms_grown_and_clashing
open PySem PySem.Spec PyProof.Rows L2 Ev
set_option maxHeartbeats 4000000 in
theorem all_mk {l : PySem.W.OpenLaw} {w : World} {K : PySem.W.Frag} {h : Heap} {mg : Str → Option Value} {fa : Addr} (X : K.In h) (G : h.Ns mainGlobals mg) (hfa : mg "law" = some (.ref fa))
    {cC0 : Addr} (aC0 : PySem.W.nsIn K mainGlobals "Land" = some (some (.ref cC0))) (pg0 : PySem.W.plainGet K cC0 Str.empty = true) (hd0 : PySem.W.hasDictIn K cC0 = true) (po0 : PySem.W.plainOver K cC0 = true) (sa0 : PySem.W.findIn K (.ref cC0) "__setattr__" = some (some (.builtin "object.__setattr__"))) (mk0 : PySem.W.makesIn K cC0 = true) (kc0 : PySem.W.keepIn K (.ref cC0) = true)
    (nf0_0 : PySem.W.findIn K (.ref cC0) "wide" = some none)
    (nf0_1 : PySem.W.findIn K (.ref cC0) "high" = some none)
    (nf0_2 : PySem.W.findIn K (.ref cC0) "day" = some none)
    (nf0_3 : PySem.W.findIn K (.ref cC0) "heights" = some none)
    (nf0_4 : PySem.W.findIn K (.ref cC0) "barred" = some none)
    (nf0_5 : PySem.W.findIn K (.ref cC0) "people" = some none)
    (nf0_6 : PySem.W.findIn K (.ref cC0) "pads" = some none)
    {f0 : Addr} {od0 an0 : Option Addr} {sl0 : Array (Option Value)} {oc0 dc0 pm0 cd0 ct0 : Value} {kV0 : Value} (a0 : PySem.W.nsIn K mainGlobals "grown_room" = some (some (.ref f0))) (l0 : K.lookup f0 = some ⟨oc0, od0, .func (PySem.W.fnOf "grown_room" "grown_room" (defArgs sgrown_room) (defBody sgrown_room) (defScope sgrown_room) .none kV0 dc0 pm0 an0 cd0 ct0), sl0⟩) (c0 : PySem.W.codeIn K cd0 "grown_room" = true) (k0 : PySem.W.keepIn K (.ref f0) = true)
    {f1 : Addr} {od1 an1 : Option Addr} {sl1 : Array (Option Value)} {oc1 dc1 pm1 cd1 ct1 : Value} {kV1 : Value} (a1 : PySem.W.nsIn K mainGlobals "grown" = some (some (.ref f1))) (l1 : K.lookup f1 = some ⟨oc1, od1, .func (PySem.W.fnOf "grown" "grown" (defArgs sgrown) (defBody sgrown) (defScope sgrown) .none kV1 dc1 pm1 an1 cd1 ct1), sl1⟩) (c1 : PySem.W.codeIn K cd1 "grown" = true) (k1 : PySem.W.keepIn K (.ref f1) = true)
    {f2 : Addr} {od2 an2 : Option Addr} {sl2 : Array (Option Value)} {oc2 dc2 pm2 cd2 ct2 : Value} {kV2 : Value} (a2 : PySem.W.nsIn K mainGlobals "_law_deck" = some (some (.ref f2))) (l2 : K.lookup f2 = some ⟨oc2, od2, .func (PySem.W.fnOf "_law_deck" "_law_deck" (defArgs s_law_deck) (defBody s_law_deck) (defScope s_law_deck) .none kV2 dc2 pm2 an2 cd2 ct2), sl2⟩) (c2 : PySem.W.codeIn K cd2 "_law_deck" = true) (k2 : PySem.W.keepIn K (.ref f2) = true)
    {f3 : Addr} {od3 an3 : Option Addr} {sl3 : Array (Option Value)} {oc3 dc3 pm3 cd3 ct3 : Value} {kV3 : Value} (a3 : PySem.W.nsIn K mainGlobals "_law_draw" = some (some (.ref f3))) (l3 : K.lookup f3 = some ⟨oc3, od3, .func (PySem.W.fnOf "_law_draw" "_law_draw" (defArgs s_law_draw) (defBody s_law_draw) (defScope s_law_draw) .none kV3 dc3 pm3 an3 cd3 ct3), sl3⟩) (c3 : PySem.W.codeIn K cd3 "_law_draw" = true) (k3 : PySem.W.keepIn K (.ref f3) = true)
    {f4 : Addr} {od4 an4 : Option Addr} {sl4 : Array (Option Value)} {oc4 dc4 pm4 cd4 ct4 : Value} {kV4 : Value} (a4 : PySem.W.nsIn K mainGlobals "_law_pick" = some (some (.ref f4))) (l4 : K.lookup f4 = some ⟨oc4, od4, .func (PySem.W.fnOf "_law_pick" "_law_pick" (defArgs s_law_pick) (defBody s_law_pick) (defScope s_law_pick) .none kV4 dc4 pm4 an4 cd4 ct4), sl4⟩) (c4 : PySem.W.codeIn K cd4 "_law_pick" = true) (k4 : PySem.W.keepIn K (.ref f4) = true)
    {f5 : Addr} {od5 an5 : Option Addr} {sl5 : Array (Option Value)} {oc5 dc5 pm5 cd5 ct5 : Value} {kV5 : Value} (a5 : PySem.W.nsIn K mainGlobals "_law_fields" = some (some (.ref f5))) (l5 : K.lookup f5 = some ⟨oc5, od5, .func (PySem.W.fnOf "_law_fields" "_law_fields" (defArgs s_law_fields) (defBody s_law_fields) (defScope s_law_fields) .none kV5 dc5 pm5 an5 cd5 ct5), sl5⟩) (c5 : PySem.W.codeIn K cd5 "_law_fields" = true) (k5 : PySem.W.keepIn K (.ref f5) = true)
    {f6 : Addr} {od6 an6 : Option Addr} {sl6 : Array (Option Value)} {oc6 dc6 pm6 cd6 ct6 : Value} {kV6 : Value} (a6 : PySem.W.nsIn K mainGlobals "_law_bounds" = some (some (.ref f6))) (l6 : K.lookup f6 = some ⟨oc6, od6, .func (PySem.W.fnOf "_law_bounds" "_law_bounds" (defArgs s_law_bounds) (defBody s_law_bounds) (defScope s_law_bounds) .none kV6 dc6 pm6 an6 cd6 ct6), sl6⟩) (c6 : PySem.W.codeIn K cd6 "_law_bounds" = true) (k6 : PySem.W.keepIn K (.ref f6) = true)
    {f7 : Addr} {od7 an7 : Option Addr} {sl7 : Array (Option Value)} {oc7 dc7 pm7 cd7 ct7 : Value} {kV7 : Value} (a7 : PySem.W.nsIn K mainGlobals "_law_space" = some (some (.ref f7))) (l7 : K.lookup f7 = some ⟨oc7, od7, .func (PySem.W.fnOf "_law_space" "_law_space" (defArgs s_law_space) (defBody s_law_space) (defScope s_law_space) .none kV7 dc7 pm7 an7 cd7 ct7), sl7⟩) (c7 : PySem.W.codeIn K cd7 "_law_space" = true) (k7 : PySem.W.keepIn K (.ref f7) = true)
    {f8 : Addr} {od8 an8 : Option Addr} {sl8 : Array (Option Value)} {oc8 dc8 pm8 cd8 ct8 : Value} {kV8 : Value} (a8 : PySem.W.nsIn K mainGlobals "_law_beside" = some (some (.ref f8))) (l8 : K.lookup f8 = some ⟨oc8, od8, .func (PySem.W.fnOf "_law_beside" "_law_beside" (defArgs s_law_beside) (defBody s_law_beside) (defScope s_law_beside) .none kV8 dc8 pm8 an8 cd8 ct8), sl8⟩) (c8 : PySem.W.codeIn K cd8 "_law_beside" = true) (k8 : PySem.W.keepIn K (.ref f8) = true)
    {f9 : Addr} {od9 an9 : Option Addr} {sl9 : Array (Option Value)} {oc9 dc9 pm9 cd9 ct9 : Value} {kV9 : Value} (a9 : PySem.W.nsIn K mainGlobals "_law_off" = some (some (.ref f9))) (l9 : K.lookup f9 = some ⟨oc9, od9, .func (PySem.W.fnOf "_law_off" "_law_off" (defArgs s_law_off) (defBody s_law_off) (defScope s_law_off) .none kV9 dc9 pm9 an9 cd9 ct9), sl9⟩) (c9 : PySem.W.codeIn K cd9 "_law_off" = true) (k9 : PySem.W.keepIn K (.ref f9) = true)
    {f10 : Addr} {od10 an10 : Option Addr} {sl10 : Array (Option Value)} {oc10 dc10 pm10 cd10 ct10 : Value} {kV10 : Value} (a10 : PySem.W.nsIn K mainGlobals "_law_wider" = some (some (.ref f10))) (l10 : K.lookup f10 = some ⟨oc10, od10, .func (PySem.W.fnOf "_law_wider" "_law_wider" (defArgs s_law_wider) (defBody s_law_wider) (defScope s_law_wider) .none kV10 dc10 pm10 an10 cd10 ct10), sl10⟩) (c10 : PySem.W.codeIn K cd10 "_law_wider" = true) (k10 : PySem.W.keepIn K (.ref f10) = true)
    {f11 : Addr} {od11 an11 : Option Addr} {sl11 : Array (Option Value)} {oc11 dc11 pm11 cd11 ct11 : Value} {kV11 : Value} (a11 : PySem.W.nsIn K mainGlobals "do_boxes_meet" = some (some (.ref f11))) (l11 : K.lookup f11 = some ⟨oc11, od11, .func (PySem.W.fnOf "do_boxes_meet" "do_boxes_meet" (defArgs sdo_boxes_meet) (defBody sdo_boxes_meet) (defScope sdo_boxes_meet) .none kV11 dc11 pm11 an11 cd11 ct11), sl11⟩) (c11 : PySem.W.codeIn K cd11 "do_boxes_meet" = true) (k11 : PySem.W.keepIn K (.ref f11) = true)
    {f12 : Addr} {od12 an12 : Option Addr} {sl12 : Array (Option Value)} {oc12 dc12 pm12 cd12 ct12 : Value} {kV12 : Value} (a12 : PySem.W.nsIn K mainGlobals "do_clash" = some (some (.ref f12))) (l12 : K.lookup f12 = some ⟨oc12, od12, .func (PySem.W.fnOf "do_clash" "do_clash" (defArgs sdo_clash) (defBody sdo_clash) (defScope sdo_clash) .none kV12 dc12 pm12 an12 cd12 ct12), sl12⟩) (c12 : PySem.W.codeIn K cd12 "do_clash" = true) (k12 : PySem.W.keepIn K (.ref f12) = true)
    {f13 : Addr} {od13 an13 : Option Addr} {sl13 : Array (Option Value)} {oc13 dc13 pm13 cd13 ct13 : Value} {kV13 : Value} (a13 : PySem.W.nsIn K mainGlobals "_law_meet" = some (some (.ref f13))) (l13 : K.lookup f13 = some ⟨oc13, od13, .func (PySem.W.fnOf "_law_meet" "_law_meet" (defArgs s_law_meet) (defBody s_law_meet) (defScope s_law_meet) .none kV13 dc13 pm13 an13 cd13 ct13), sl13⟩) (c13 : PySem.W.codeIn K cd13 "_law_meet" = true) (k13 : PySem.W.keepIn K (.ref f13) = true)
    {f14 : Addr} {od14 an14 : Option Addr} {sl14 : Array (Option Value)} {oc14 dc14 pm14 cd14 ct14 : Value} {kV14 : Value} (a14 : PySem.W.nsIn K mainGlobals "_law_gap" = some (some (.ref f14))) (l14 : K.lookup f14 = some ⟨oc14, od14, .func (PySem.W.fnOf "_law_gap" "_law_gap" (defArgs s_law_gap) (defBody s_law_gap) (defScope s_law_gap) .none kV14 dc14 pm14 an14 cd14 ct14), sl14⟩) (c14 : PySem.W.codeIn K cd14 "_law_gap" = true) (k14 : PySem.W.keepIn K (.ref f14) = true)
    {f15 : Addr} {od15 an15 : Option Addr} {sl15 : Array (Option Value)} {oc15 dc15 pm15 cd15 ct15 : Value} {kV15 : Value} (a15 : PySem.W.nsIn K mainGlobals "_law_two_right" = some (some (.ref f15))) (l15 : K.lookup f15 = some ⟨oc15, od15, .func (PySem.W.fnOf "_law_two_right" "_law_two_right" (defArgs s_law_two_right) (defBody s_law_two_right) (defScope s_law_two_right) .none kV15 dc15 pm15 an15 cd15 ct15), sl15⟩) (c15 : PySem.W.codeIn K cd15 "_law_two_right" = true) (k15 : PySem.W.keepIn K (.ref f15) = true)
    {f16 : Addr} {od16 an16 : Option Addr} {sl16 : Array (Option Value)} {oc16 dc16 pm16 cd16 ct16 : Value} {kV16 : Value} (a16 : PySem.W.nsIn K mainGlobals "is_whole" = some (some (.ref f16))) (l16 : K.lookup f16 = some ⟨oc16, od16, .func (PySem.W.fnOf "is_whole" "is_whole" (defArgs sis_whole) (defBody sis_whole) (defScope sis_whole) .none kV16 dc16 pm16 an16 cd16 ct16), sl16⟩) (c16 : PySem.W.codeIn K cd16 "is_whole" = true) (k16 : PySem.W.keepIn K (.ref f16) = true)
    {f17 : Addr} {od17 an17 : Option Addr} {sl17 : Array (Option Value)} {oc17 dc17 pm17 cd17 ct17 : Value} {kV17 : Value} (a17 : PySem.W.nsIn K mainGlobals "is_whole_from" = some (some (.ref f17))) (l17 : K.lookup f17 = some ⟨oc17, od17, .func (PySem.W.fnOf "is_whole_from" "is_whole_from" (defArgs sis_whole_from) (defBody sis_whole_from) (defScope sis_whole_from) .none kV17 dc17 pm17 an17 cd17 ct17), sl17⟩) (c17 : PySem.W.codeIn K cd17 "is_whole_from" = true) (k17 : PySem.W.keepIn K (.ref f17) = true)
    {f18 : Addr} {od18 an18 : Option Addr} {sl18 : Array (Option Value)} {oc18 dc18 pm18 cd18 ct18 : Value} {kV18 : Value} (a18 : PySem.W.nsIn K mainGlobals "is_tuple_of" = some (some (.ref f18))) (l18 : K.lookup f18 = some ⟨oc18, od18, .func (PySem.W.fnOf "is_tuple_of" "is_tuple_of" (defArgs sis_tuple_of) (defBody sis_tuple_of) (defScope sis_tuple_of) .none kV18 dc18 pm18 an18 cd18 ct18), sl18⟩) (c18 : PySem.W.codeIn K cd18 "is_tuple_of" = true) (k18 : PySem.W.keepIn K (.ref f18) = true)
    {f19 : Addr} {od19 an19 : Option Addr} {sl19 : Array (Option Value)} {oc19 dc19 pm19 cd19 ct19 : Value} {kV19 : Value} (a19 : PySem.W.nsIn K mainGlobals "are_wholes_from" = some (some (.ref f19))) (l19 : K.lookup f19 = some ⟨oc19, od19, .func (PySem.W.fnOf "are_wholes_from" "are_wholes_from" (defArgs sare_wholes_from) (defBody sare_wholes_from) (defScope sare_wholes_from) .none kV19 dc19 pm19 an19 cd19 ct19), sl19⟩) (c19 : PySem.W.codeIn K cd19 "are_wholes_from" = true) (k19 : PySem.W.keepIn K (.ref f19) = true)
    {f20 : Addr} {od20 an20 : Option Addr} {sl20 : Array (Option Value)} {oc20 dc20 pm20 cd20 ct20 : Value} {kV20 : Value} (a20 : PySem.W.nsIn K mainGlobals "is_height_row" = some (some (.ref f20))) (l20 : K.lookup f20 = some ⟨oc20, od20, .func (PySem.W.fnOf "is_height_row" "is_height_row" (defArgs sis_height_row) (defBody sis_height_row) (defScope sis_height_row) .none kV20 dc20 pm20 an20 cd20 ct20), sl20⟩) (c20 : PySem.W.codeIn K cd20 "is_height_row" = true) (k20 : PySem.W.keepIn K (.ref f20) = true)
    {f21 : Addr} {od21 an21 : Option Addr} {sl21 : Array (Option Value)} {oc21 dc21 pm21 cd21 ct21 : Value} {kV21 : Value} (a21 : PySem.W.nsIn K mainGlobals "are_heights" = some (some (.ref f21))) (l21 : K.lookup f21 = some ⟨oc21, od21, .func (PySem.W.fnOf "are_heights" "are_heights" (defArgs sare_heights) (defBody sare_heights) (defScope sare_heights) .none kV21 dc21 pm21 an21 cd21 ct21), sl21⟩) (c21 : PySem.W.codeIn K cd21 "are_heights" = true) (k21 : PySem.W.keepIn K (.ref f21) = true)
    {f22 : Addr} {od22 an22 : Option Addr} {sl22 : Array (Option Value)} {oc22 dc22 pm22 cd22 ct22 : Value} {kV22 : Value} (a22 : PySem.W.nsIn K mainGlobals "is_tuple_to" = some (some (.ref f22))) (l22 : K.lookup f22 = some ⟨oc22, od22, .func (PySem.W.fnOf "is_tuple_to" "is_tuple_to" (defArgs sis_tuple_to) (defBody sis_tuple_to) (defScope sis_tuple_to) .none kV22 dc22 pm22 an22 cd22 ct22), sl22⟩) (c22 : PySem.W.codeIn K cd22 "is_tuple_to" = true) (k22 : PySem.W.keepIn K (.ref f22) = true)
    {f23 : Addr} {od23 an23 : Option Addr} {sl23 : Array (Option Value)} {oc23 dc23 pm23 cd23 ct23 : Value} {kV23 : Value} (a23 : PySem.W.nsIn K mainGlobals "is_span" = some (some (.ref f23))) (l23 : K.lookup f23 = some ⟨oc23, od23, .func (PySem.W.fnOf "is_span" "is_span" (defArgs sis_span) (defBody sis_span) (defScope sis_span) .none kV23 dc23 pm23 an23 cd23 ct23), sl23⟩) (c23 : PySem.W.codeIn K cd23 "is_span" = true) (k23 : PySem.W.keepIn K (.ref f23) = true)
    {f24 : Addr} {od24 an24 : Option Addr} {sl24 : Array (Option Value)} {oc24 dc24 pm24 cd24 ct24 : Value} {kV24 : Value} (a24 : PySem.W.nsIn K mainGlobals "is_box" = some (some (.ref f24))) (l24 : K.lookup f24 = some ⟨oc24, od24, .func (PySem.W.fnOf "is_box" "is_box" (defArgs sis_box) (defBody sis_box) (defScope sis_box) .none kV24 dc24 pm24 an24 cd24 ct24), sl24⟩) (c24 : PySem.W.codeIn K cd24 "is_box" = true) (k24 : PySem.W.keepIn K (.ref f24) = true)
    {f25 : Addr} {od25 an25 : Option Addr} {sl25 : Array (Option Value)} {oc25 dc25 pm25 cd25 ct25 : Value} {kV25 : Value} (a25 : PySem.W.nsIn K mainGlobals "is_room" = some (some (.ref f25))) (l25 : K.lookup f25 = some ⟨oc25, od25, .func (PySem.W.fnOf "is_room" "is_room" (defArgs sis_room) (defBody sis_room) (defScope sis_room) .none kV25 dc25 pm25 an25 cd25 ct25), sl25⟩) (c25 : PySem.W.codeIn K cd25 "is_room" = true) (k25 : PySem.W.keepIn K (.ref f25) = true)
    {f26 : Addr} {od26 an26 : Option Addr} {sl26 : Array (Option Value)} {oc26 dc26 pm26 cd26 ct26 : Value} {kV26 : Value} (a26 : PySem.W.nsIn K mainGlobals "are_rooms" = some (some (.ref f26))) (l26 : K.lookup f26 = some ⟨oc26, od26, .func (PySem.W.fnOf "are_rooms" "are_rooms" (defArgs sare_rooms) (defBody sare_rooms) (defScope sare_rooms) .none kV26 dc26 pm26 an26 cd26 ct26), sl26⟩) (c26 : PySem.W.codeIn K cd26 "are_rooms" = true) (k26 : PySem.W.keepIn K (.ref f26) = true)
    {f27 : Addr} {od27 an27 : Option Addr} {sl27 : Array (Option Value)} {oc27 dc27 pm27 cd27 ct27 : Value} {kV27 : Value} (a27 : PySem.W.nsIn K mainGlobals "is_pad" = some (some (.ref f27))) (l27 : K.lookup f27 = some ⟨oc27, od27, .func (PySem.W.fnOf "is_pad" "is_pad" (defArgs sis_pad) (defBody sis_pad) (defScope sis_pad) .none kV27 dc27 pm27 an27 cd27 ct27), sl27⟩) (c27 : PySem.W.codeIn K cd27 "is_pad" = true) (k27 : PySem.W.keepIn K (.ref f27) = true)
    {f28 : Addr} {od28 an28 : Option Addr} {sl28 : Array (Option Value)} {oc28 dc28 pm28 cd28 ct28 : Value} {kV28 : Value} (a28 : PySem.W.nsIn K mainGlobals "are_pads" = some (some (.ref f28))) (l28 : K.lookup f28 = some ⟨oc28, od28, .func (PySem.W.fnOf "are_pads" "are_pads" (defArgs sare_pads) (defBody sare_pads) (defScope sare_pads) .none kV28 dc28 pm28 an28 cd28 ct28), sl28⟩) (c28 : PySem.W.codeIn K cd28 "are_pads" = true) (k28 : PySem.W.keepIn K (.ref f28) = true)
    {f29 : Addr} {od29 an29 : Option Addr} {sl29 : Array (Option Value)} {oc29 dc29 pm29 cd29 ct29 : Value} {kd29 : Addr} (a29 : PySem.W.findIn K (.ref cC0) "__init__" = some (some (.ref f29))) (i29 : PySem.W.isFn K (.ref f29) = true) (l29 : K.lookup f29 = some ⟨oc29, od29, .func (PySem.W.fnOf "__init__" "Land.__init__" (defArgs sLand_mk) (defBody sLand_mk) (defScope sLand_mk) .none (.ref kd29) dc29 pm29 an29 cd29 ct29), sl29⟩) (c29 : PySem.W.codeIn K cd29 "Land.__init__" = true) (k29 : PySem.W.keepIn K (.ref f29) = true) {da29_4 : Addr} {do29_4 : Option Addr} {dn29_4 : Nat} {ds29_4 : Array (Option Value)} (d29_4 : PySem.W.nsIn K kd29 "pads" = some (some (.ref da29_4))) (dl29_4 : K.lookup da29_4 = some ⟨.type "tuple", do29_4, .seq #[] dn29_4, ds29_4⟩) {da29_3 : Addr} {do29_3 : Option Addr} {dn29_3 : Nat} {ds29_3 : Array (Option Value)} (d29_3 : PySem.W.nsIn K kd29 "people" = some (some (.ref da29_3))) (dl29_3 : K.lookup da29_3 = some ⟨.type "tuple", do29_3, .seq #[] dn29_3, ds29_3⟩) {da29_2 : Addr} {do29_2 : Option Addr} {dn29_2 : Nat} {ds29_2 : Array (Option Value)} (d29_2 : PySem.W.nsIn K kd29 "barred" = some (some (.ref da29_2))) (dl29_2 : K.lookup da29_2 = some ⟨.type "tuple", do29_2, .seq #[] dn29_2, ds29_2⟩) (d29_1 : PySem.W.nsIn K kd29 "heights" = some (some Value.none)) {dt29_0 : Tok} (d29_0 : PySem.W.nsIn K kd29 "day" = some (some (Value.int 12 dt29_0)))
    {f30 : Addr} {od30 an30 : Option Addr} {sl30 : Array (Option Value)} {oc30 dc30 pm30 cd30 ct30 : Value} {kV30 : Value} (a30 : PySem.W.nsIn K mainGlobals "law" = some (some (.ref f30))) (l30 : K.lookup f30 = some ⟨oc30, od30, .func (PySem.W.fnOf "law" "law" (defArgs slaw) (defBody slaw) (defScope slaw) .none kV30 dc30 pm30 an30 cd30 ct30), sl30⟩) (c30 : PySem.W.codeIn K cd30 "law" = true) (k30 : PySem.W.keepIn K (.ref f30) = true)
    (z0 : PySem.W.nsIn K mainGlobals "all" = some none)
    (z1 : PySem.W.nsIn K mainGlobals "any" = some none)
    (z2 : PySem.W.nsIn K mainGlobals "bool" = some none)
    (z3 : PySem.W.nsIn K mainGlobals "enumerate" = some none)
    (z4 : PySem.W.nsIn K mainGlobals "int" = some none)
    (z5 : PySem.W.nsIn K mainGlobals "isinstance" = some none)
    (z6 : PySem.W.nsIn K mainGlobals "len" = some none)
    (z7 : PySem.W.nsIn K mainGlobals "list" = some none)
    (z8 : PySem.W.nsIn K mainGlobals "max" = some none)
    (z9 : PySem.W.nsIn K mainGlobals "min" = some none)
    (z10 : PySem.W.nsIn K mainGlobals "range" = some none)
    (z11 : PySem.W.nsIn K mainGlobals "repr" = some none)
    (z12 : PySem.W.nsIn K mainGlobals "sum" = some none)
    (z13 : PySem.W.nsIn K mainGlobals "tuple" = some none)
    {tk0 : Tok} (y0 : PySem.W.nsIn K mainGlobals "HIGHEST" = some (some (.int 9 tk0)))
    {tk1 : Tok} (y1 : PySem.W.nsIn K mainGlobals "LONGEST_DAY" = some (some (.int 24 tk1)))
    {tk2 : Tok} (y2 : PySem.W.nsIn K mainGlobals "MOST_ON_PAD" = some (some (.int 4 tk2)))
    {tk3 : Tok} (y3 : PySem.W.nsIn K mainGlobals "MOST_PADS" = some (some (.int 4 tk3)))
    {tk4 : Tok} (y4 : PySem.W.nsIn K mainGlobals "MOST_ROOMS" = some (some (.int 8 tk4)))
    {tk5 : Tok} (y5 : PySem.W.nsIn K mainGlobals "WIDEST" = some (some (.int 12 tk5))) :
    ∃ fd : FuncData, (∀ (s : Shared) (v : Value), BindsTo s fd ⟨[v], []⟩ [("_law_script", v)]) ∧ ∀ base : Heap, K.In base → base.Ns mainGlobals mg → FnOk l.prog w K mg base CX0 10 fa fd ["_law_script"] (spLaw K) := by
  have e := hfa.symm.trans (PySem.W.mg_of X G a30)
  cases e
  have B : Blt K mg := ⟨PySem.W.mg_none_of X G z0, PySem.W.mg_none_of X G z1, PySem.W.mg_none_of X G z2, PySem.W.mg_none_of X G z3, PySem.W.mg_none_of X G z4, PySem.W.mg_none_of X G z5, PySem.W.mg_none_of X G z6, PySem.W.mg_none_of X G z7, PySem.W.mg_none_of X G z8, PySem.W.mg_none_of X G z9, PySem.W.mg_none_of X G z10, PySem.W.mg_none_of X G z11, PySem.W.mg_none_of X G z12, PySem.W.mg_none_of X G z13, ⟨_, PySem.W.mg_of X G y0⟩, ⟨_, PySem.W.mg_of X G y1⟩, ⟨_, PySem.W.mg_of X G y2⟩, ⟨_, PySem.W.mg_of X G y3⟩, ⟨_, PySem.W.mg_of X G y4⟩, ⟨_, PySem.W.mg_of X G y5⟩⟩
  have D0 : DefAt K mg "grown_room" sgrown_room ["land", "room", "by"] := ⟨_, _, fun_mk (st := sgrown_room) l0 c0 k0, PySem.W.mg_of X G a0, (fun_mk (st := sgrown_room) l0 c0 k0).binds fun _ _ _ _ _ _ us hl => match us, hl with | [_, _, _], _ => rfl⟩
  have D1 : DefAt K mg "grown" sgrown ["land", "rooms", "by"] := ⟨_, _, fun_mk (st := sgrown) l1 c1 k1, PySem.W.mg_of X G a1, (fun_mk (st := sgrown) l1 c1 k1).binds fun _ _ _ _ _ _ us hl => match us, hl with | [_, _, _], _ => rfl⟩
  have D2 : DefAt K mg "_law_deck" s_law_deck ["_law_script"] := ⟨_, _, fun_mk (st := s_law_deck) l2 c2 k2, PySem.W.mg_of X G a2, (fun_mk (st := s_law_deck) l2 c2 k2).binds fun _ _ _ _ _ _ us hl => match us, hl with | [_], _ => rfl⟩
  have D3 : DefAt K mg "_law_draw" s_law_draw ["_law_deck_here", "_law_many"] := ⟨_, _, fun_mk (st := s_law_draw) l3 c3 k3, PySem.W.mg_of X G a3, (fun_mk (st := s_law_draw) l3 c3 k3).binds fun _ _ _ _ _ _ us hl => match us, hl with | [_, _], _ => rfl⟩
  have D4 : DefAt K mg "_law_pick" s_law_pick ["_law_deck_here", "_law_some"] := ⟨_, _, fun_mk (st := s_law_pick) l4 c4 k4, PySem.W.mg_of X G a4, (fun_mk (st := s_law_pick) l4 c4 k4).binds fun _ _ _ _ _ _ us hl => match us, hl with | [_, _], _ => rfl⟩
  have D5 : DefAt K mg "_law_fields" s_law_fields ["_law_deck_here"] := ⟨_, _, fun_mk (st := s_law_fields) l5 c5 k5, PySem.W.mg_of X G a5, (fun_mk (st := s_law_fields) l5 c5 k5).binds fun _ _ _ _ _ _ us hl => match us, hl with | [_], _ => rfl⟩
  have D6 : DefAt K mg "_law_bounds" s_law_bounds ["_law_deck_here", "_law_least", "_law_most"] := ⟨_, _, fun_mk (st := s_law_bounds) l6 c6 k6, PySem.W.mg_of X G a6, (fun_mk (st := s_law_bounds) l6 c6 k6).binds fun _ _ _ _ _ _ us hl => match us, hl with | [_, _, _], _ => rfl⟩
  have D7 : DefAt K mg "_law_space" s_law_space ["_law_deck_here", "_law_sizes"] := ⟨_, _, fun_mk (st := s_law_space) l7 c7 k7, PySem.W.mg_of X G a7, (fun_mk (st := s_law_space) l7 c7 k7).binds fun _ _ _ _ _ _ us hl => match us, hl with | [_, _], _ => rfl⟩
  have D8 : DefAt K mg "_law_beside" s_law_beside ["_law_deck_here", "_law_sizes", "_law_it"] := ⟨_, _, fun_mk (st := s_law_beside) l8 c8 k8, PySem.W.mg_of X G a8, (fun_mk (st := s_law_beside) l8 c8 k8).binds fun _ _ _ _ _ _ us hl => match us, hl with | [_, _, _], _ => rfl⟩
  have D9 : DefAt K mg "_law_off" s_law_off ["_law_it", "_law_k", "_law_far"] := ⟨_, _, fun_mk (st := s_law_off) l9 c9 k9, PySem.W.mg_of X G a9, (fun_mk (st := s_law_off) l9 c9 k9).binds fun _ _ _ _ _ _ us hl => match us, hl with | [_, _, _], _ => rfl⟩
  have D10 : DefAt K mg "_law_wider" s_law_wider ["_law_sizes", "_law_it", "_law_many"] := ⟨_, _, fun_mk (st := s_law_wider) l10 c10 k10, PySem.W.mg_of X G a10, (fun_mk (st := s_law_wider) l10 c10 k10).binds fun _ _ _ _ _ _ us hl => match us, hl with | [_, _, _], _ => rfl⟩
  have D11 : DefAt K mg "do_boxes_meet" sdo_boxes_meet ["one", "other"] := ⟨_, _, fun_mk (st := sdo_boxes_meet) l11 c11 k11, PySem.W.mg_of X G a11, (fun_mk (st := sdo_boxes_meet) l11 c11 k11).binds fun _ _ _ _ _ _ us hl => match us, hl with | [_, _], _ => rfl⟩
  have D12 : DefAt K mg "do_clash" sdo_clash ["one", "other"] := ⟨_, _, fun_mk (st := sdo_clash) l12 c12 k12, PySem.W.mg_of X G a12, (fun_mk (st := sdo_clash) l12 c12 k12).binds fun _ _ _ _ _ _ us hl => match us, hl with | [_, _], _ => rfl⟩
  have D13 : DefAt K mg "_law_meet" s_law_meet ["_law_it", "_law_far"] := ⟨_, _, fun_mk (st := s_law_meet) l13 c13 k13, PySem.W.mg_of X G a13, (fun_mk (st := s_law_meet) l13 c13 k13).binds fun _ _ _ _ _ _ us hl => match us, hl with | [_, _], _ => rfl⟩
  have D14 : DefAt K mg "_law_gap" s_law_gap ["_law_it", "_law_far", "_law_k"] := ⟨_, _, fun_mk (st := s_law_gap) l14 c14 k14, PySem.W.mg_of X G a14, (fun_mk (st := s_law_gap) l14 c14 k14).binds fun _ _ _ _ _ _ us hl => match us, hl with | [_, _, _], _ => rfl⟩
  have D15 : DefAt K mg "_law_two_right" s_law_two_right ["_law_made", "_law_it", "_law_far", "_law_many"] := ⟨_, _, fun_mk (st := s_law_two_right) l15 c15 k15, PySem.W.mg_of X G a15, (fun_mk (st := s_law_two_right) l15 c15 k15).binds fun _ _ _ _ _ _ us hl => match us, hl with | [_, _, _, _], _ => rfl⟩
  have D16 : DefAt K mg "is_whole" sis_whole ["thing"] := ⟨_, _, fun_mk (st := sis_whole) l16 c16 k16, PySem.W.mg_of X G a16, (fun_mk (st := sis_whole) l16 c16 k16).binds fun _ _ _ _ _ _ us hl => match us, hl with | [_], _ => rfl⟩
  have D17 : DefAt K mg "is_whole_from" sis_whole_from ["thing", "least", "greatest"] := ⟨_, _, fun_mk (st := sis_whole_from) l17 c17 k17, PySem.W.mg_of X G a17, (fun_mk (st := sis_whole_from) l17 c17 k17).binds fun _ _ _ _ _ _ us hl => match us, hl with | [_, _, _], _ => rfl⟩
  have D18 : DefAt K mg "is_tuple_of" sis_tuple_of ["thing", "many"] := ⟨_, _, fun_mk (st := sis_tuple_of) l18 c18 k18, PySem.W.mg_of X G a18, (fun_mk (st := sis_tuple_of) l18 c18 k18).binds fun _ _ _ _ _ _ us hl => match us, hl with | [_, _], _ => rfl⟩
  have D19 : DefAt K mg "are_wholes_from" sare_wholes_from ["things", "least", "greatest"] := ⟨_, _, fun_mk (st := sare_wholes_from) l19 c19 k19, PySem.W.mg_of X G a19, (fun_mk (st := sare_wholes_from) l19 c19 k19).binds fun _ _ _ _ _ _ us hl => match us, hl with | [_, _, _], _ => rfl⟩
  have D20 : DefAt K mg "is_height_row" sis_height_row ["land", "thing"] := ⟨_, _, fun_mk (st := sis_height_row) l20 c20 k20, PySem.W.mg_of X G a20, (fun_mk (st := sis_height_row) l20 c20 k20).binds fun _ _ _ _ _ _ us hl => match us, hl with | [_, _], _ => rfl⟩
  have D21 : DefAt K mg "are_heights" sare_heights ["land", "thing"] := ⟨_, _, fun_mk (st := sare_heights) l21 c21 k21, PySem.W.mg_of X G a21, (fun_mk (st := sare_heights) l21 c21 k21).binds fun _ _ _ _ _ _ us hl => match us, hl with | [_, _], _ => rfl⟩
  have D22 : DefAt K mg "is_tuple_to" sis_tuple_to ["thing", "most"] := ⟨_, _, fun_mk (st := sis_tuple_to) l22 c22 k22, PySem.W.mg_of X G a22, (fun_mk (st := sis_tuple_to) l22 c22 k22).binds fun _ _ _ _ _ _ us hl => match us, hl with | [_, _], _ => rfl⟩
  have D23 : DefAt K mg "is_span" sis_span ["first", "last", "greatest"] := ⟨_, _, fun_mk (st := sis_span) l23 c23 k23, PySem.W.mg_of X G a23, (fun_mk (st := sis_span) l23 c23 k23).binds fun _ _ _ _ _ _ us hl => match us, hl with | [_, _, _], _ => rfl⟩
  have D24 : DefAt K mg "is_box" sis_box ["land", "thing"] := ⟨_, _, fun_mk (st := sis_box) l24 c24 k24, PySem.W.mg_of X G a24, (fun_mk (st := sis_box) l24 c24 k24).binds fun _ _ _ _ _ _ us hl => match us, hl with | [_, _], _ => rfl⟩
  have D25 : DefAt K mg "is_room" sis_room ["land", "thing"] := ⟨_, _, fun_mk (st := sis_room) l25 c25 k25, PySem.W.mg_of X G a25, (fun_mk (st := sis_room) l25 c25 k25).binds fun _ _ _ _ _ _ us hl => match us, hl with | [_, _], _ => rfl⟩
  have D26 : DefAt K mg "are_rooms" sare_rooms ["land", "thing"] := ⟨_, _, fun_mk (st := sare_rooms) l26 c26 k26, PySem.W.mg_of X G a26, (fun_mk (st := sare_rooms) l26 c26 k26).binds fun _ _ _ _ _ _ us hl => match us, hl with | [_, _], _ => rfl⟩
  have D27 : DefAt K mg "is_pad" sis_pad ["land", "thing"] := ⟨_, _, fun_mk (st := sis_pad) l27 c27 k27, PySem.W.mg_of X G a27, (fun_mk (st := sis_pad) l27 c27 k27).binds fun _ _ _ _ _ _ us hl => match us, hl with | [_, _], _ => rfl⟩
  have D28 : DefAt K mg "are_pads" sare_pads ["land", "thing"] := ⟨_, _, fun_mk (st := sare_pads) l28 c28 k28, PySem.W.mg_of X G a28, (fun_mk (st := sare_pads) l28 c28 k28).binds fun _ _ _ _ _ _ us hl => match us, hl with | [_, _], _ => rfl⟩
  refine ⟨PySem.W.fnOf "law" "law" (defArgs slaw) (defBody slaw) (defScope slaw) .none kV30 dc30 pm30 an30 cd30 ct30, fun s v => .of_eq rfl, fun base _ _ => ?_⟩
  let cl : Nat → Addr := fun i => [cC0].getD i 0
  have C0 : ClsD K (cl 0) ["wide", "high", "day", "heights", "barred", "people", "pads"] := ⟨⟨pg0, hd0, po0, sa0⟩, fun f hf => by
    simp only [List.mem_cons, List.not_mem_nil, or_false] at hf
    rcases hf with rfl | rfl | rfl | rfl | rfl | rfl | rfl
    · exact nf0_0
    · exact nf0_1
    · exact nf0_2
    · exact nf0_3
    · exact nf0_4
    · exact nf0_5
    · exact nf0_6⟩
  have Ggrown_room := Ogrown_room (P := l.prog) (w := w) (K := K) (mg := mg) (base := base) (cl := cl) B D0 C0
  have Ggrown := Ogrown (P := l.prog) (w := w) (K := K) (mg := mg) (base := base) (cl := cl) B D1 Ggrown_room
  have G_law_deck := O_law_deck (P := l.prog) (w := w) (K := K) (mg := mg) (base := base) (cl := cl) B D2 
  have G_law_draw := O_law_draw (P := l.prog) (w := w) (K := K) (mg := mg) (base := base) (cl := cl) B D3 
  have G_law_pick := O_law_pick (P := l.prog) (w := w) (K := K) (mg := mg) (base := base) (cl := cl) B D4 G_law_draw
  have G_law_fields := O_law_fields (P := l.prog) (w := w) (K := K) (mg := mg) (base := base) (cl := cl) B D5 G_law_pick
  have G_law_bounds := O_law_bounds (P := l.prog) (w := w) (K := K) (mg := mg) (base := base) (cl := cl) B D6 G_law_draw
  have G_law_space := O_law_space (P := l.prog) (w := w) (K := K) (mg := mg) (base := base) (cl := cl) B D7 G_law_bounds
  have G_law_beside := O_law_beside (P := l.prog) (w := w) (K := K) (mg := mg) (base := base) (cl := cl) B D8 G_law_draw
  have G_law_off := O_law_off (P := l.prog) (w := w) (K := K) (mg := mg) (base := base) (cl := cl) B D9 
  have G_law_wider := O_law_wider (P := l.prog) (w := w) (K := K) (mg := mg) (base := base) (cl := cl) B D10 G_law_off
  have Gdo_boxes_meet := Odo_boxes_meet (P := l.prog) (w := w) (K := K) (mg := mg) (base := base) (cl := cl) B D11 
  have Gdo_clash := Odo_clash (P := l.prog) (w := w) (K := K) (mg := mg) (base := base) (cl := cl) B D12 Gdo_boxes_meet
  have G_law_meet := O_law_meet (P := l.prog) (w := w) (K := K) (mg := mg) (base := base) (cl := cl) B D13 
  have G_law_gap := O_law_gap (P := l.prog) (w := w) (K := K) (mg := mg) (base := base) (cl := cl) B D14 
  have G_law_two_right := O_law_two_right (P := l.prog) (w := w) (K := K) (mg := mg) (base := base) (cl := cl) B D15 Ggrown Gdo_clash G_law_meet G_law_gap
  have Gis_whole := Ois_whole (P := l.prog) (w := w) (K := K) (mg := mg) (base := base) (cl := cl) B D16 
  have Gis_whole_from := Ois_whole_from (P := l.prog) (w := w) (K := K) (mg := mg) (base := base) (cl := cl) B D17 Gis_whole
  have Gis_tuple_of := Ois_tuple_of (P := l.prog) (w := w) (K := K) (mg := mg) (base := base) (cl := cl) B D18 
  have Gare_wholes_from := Oare_wholes_from (P := l.prog) (w := w) (K := K) (mg := mg) (base := base) (cl := cl) B D19 Gis_whole_from
  have Gis_height_row := Ois_height_row (P := l.prog) (w := w) (K := K) (mg := mg) (base := base) (cl := cl) B D20 C0 Gare_wholes_from Gis_tuple_of
  have Gare_heights := Oare_heights (P := l.prog) (w := w) (K := K) (mg := mg) (base := base) (cl := cl) B D21 C0 Gis_tuple_of Gis_height_row
  have Gis_tuple_to := Ois_tuple_to (P := l.prog) (w := w) (K := K) (mg := mg) (base := base) (cl := cl) B D22 
  have Gis_span := Ois_span (P := l.prog) (w := w) (K := K) (mg := mg) (base := base) (cl := cl) B D23 Gare_wholes_from
  have Gis_box := Ois_box (P := l.prog) (w := w) (K := K) (mg := mg) (base := base) (cl := cl) B D24 C0 Gis_span Gis_tuple_of
  have Gis_room := Ois_room (P := l.prog) (w := w) (K := K) (mg := mg) (base := base) (cl := cl) B D25 C0 Gis_span Gis_tuple_of Gis_box
  have Gare_rooms := Oare_rooms (P := l.prog) (w := w) (K := K) (mg := mg) (base := base) (cl := cl) B D26 Gis_tuple_to Gis_room
  have Gis_pad := Ois_pad (P := l.prog) (w := w) (K := K) (mg := mg) (base := base) (cl := cl) B D27 Gis_whole_from Gis_tuple_of Gis_box
  have Gare_pads := Oare_pads (P := l.prog) (w := w) (K := K) (mg := mg) (base := base) (cl := cl) B D28 Gis_tuple_to Gis_pad Gdo_boxes_meet
  have M0 : MkE l.prog w K mg base ⟨K, cl⟩ "Land" "Land.__init__" sLand_mk 0 ["self", "wide", "high", "day", "heights", "barred", "people", "pads"] 8 pLand_mk ["day", "heights", "barred", "people", "pads"] [.int 12, .non, .tup [], .tup [], .tup []] := ⟨_, _, _, _, _, _, _, _, _, fun_mk (st := sLand_mk) l29 c29 k29, OLand_mk (P := l.prog) (w := w) (K := K) (mg := mg) (base := base) (cl := cl) (fun_mk (st := sLand_mk) l29 c29 k29) B C0 Gis_whole_from Gare_heights Gare_rooms Gare_pads, PySem.W.mg_of X G aC0, ⟨mk0, a29, i29, kc0⟩, .cons d29_0 DfV.int (.cons d29_1 DfV.non (.cons d29_2 (DfV.tup0 dl29_2) (.cons d29_3 (DfV.tup0 dl29_3) (.cons d29_4 (DfV.tup0 dl29_4) (.nil))))), rfl⟩
  exact law_fn rfl (Flaw0 (fun_mk (st := slaw) l30 c30 k30) B M0 Ggrown G_law_deck G_law_draw G_law_fields G_law_space G_law_beside G_law_wider G_law_two_right) law_true
end Wwindfleet_k37_rooms_grown_and_clashing
open PySem PySem.W PyProof.Rows
set_option maxRecDepth 100000 in
set_option maxHeartbeats 0 in
theorem PySem.Challenge.cw_windfleet_k37_rooms_grown_and_clashing_holds : PySem.Challenge.rw_windfleet_k37_rooms_grown_and_clashing.Holds := by
  w_on; o_law; k_head; (case hw => w_witness2)
  k_fill
  refine L2.walk_ofK (l := PySem.Challenge.rw_windfleet_k37_rooms_grown_and_clashing) (n := 63) (k := 10) (x := "_law_script") (CX := L2.CX0) (sp := Ev.spLaw) rfl (by decide) rfl ⟨rfl, by decide, by decide, rfl⟩ (fun w h Y => PySem.W.kIn_of Y) ?F ?S ?C
  case F =>
    intro w mg fa h KX G hmg
    refine' Wwindfleet_k37_rooms_grown_and_clashing.all_mk KX G hmg ?aC0 ?pg0 ?hd0 ?po0 ?sa0 ?mk0 ?kc0 ?nf0_0 ?nf0_1 ?nf0_2 ?nf0_3 ?nf0_4 ?nf0_5 ?nf0_6 ?a0 ?l0 ?c0 ?k0 ?a1 ?l1 ?c1 ?k1 ?a2 ?l2 ?c2 ?k2 ?a3 ?l3 ?c3 ?k3 ?a4 ?l4 ?c4 ?k4 ?a5 ?l5 ?c5 ?k5 ?a6 ?l6 ?c6 ?k6 ?a7 ?l7 ?c7 ?k7 ?a8 ?l8 ?c8 ?k8 ?a9 ?l9 ?c9 ?k9 ?a10 ?l10 ?c10 ?k10 ?a11 ?l11 ?c11 ?k11 ?a12 ?l12 ?c12 ?k12 ?a13 ?l13 ?c13 ?k13 ?a14 ?l14 ?c14 ?k14 ?a15 ?l15 ?c15 ?k15 ?a16 ?l16 ?c16 ?k16 ?a17 ?l17 ?c17 ?k17 ?a18 ?l18 ?c18 ?k18 ?a19 ?l19 ?c19 ?k19 ?a20 ?l20 ?c20 ?k20 ?a21 ?l21 ?c21 ?k21 ?a22 ?l22 ?c22 ?k22 ?a23 ?l23 ?c23 ?k23 ?a24 ?l24 ?c24 ?k24 ?a25 ?l25 ?c25 ?k25 ?a26 ?l26 ?c26 ?k26 ?a27 ?l27 ?c27 ?k27 ?a28 ?l28 ?c28 ?k28 ?a29 ?i29 ?l29 ?c29 ?k29 ?d29_4 ?dl29_4 ?d29_3 ?dl29_3 ?d29_2 ?dl29_2 ?d29_1 ?d29_0 ?a30 ?l30 ?c30 ?k30 ?z0 ?z1 ?z2 ?z3 ?z4 ?z5 ?z6 ?z7 ?z8 ?z9 ?z10 ?z11 ?z12 ?z13 ?y0 ?y1 ?y2 ?y3 ?y4 ?y5
    (case aC0 => k_is)
    (case pg0 => k_is)
    (case hd0 => k_is)
    (case po0 => k_is)
    (case sa0 => k_is)
    (case mk0 => k_is)
    (case kc0 => k_is)
    (case nf0_0 => k_is)
    (case nf0_1 => k_is)
    (case nf0_2 => k_is)
    (case nf0_3 => k_is)
    (case nf0_4 => k_is)
    (case nf0_5 => k_is)
    (case nf0_6 => k_is)
    (case a0 => k_is)
    (case l0 => k_is)
    (case c0 => k_is)
    (case k0 => k_is)
    (case a1 => k_is)
    (case l1 => k_is)
    (case c1 => k_is)
    (case k1 => k_is)
    (case a2 => k_is)
    (case l2 => k_is)
    (case c2 => k_is)
    (case k2 => k_is)
    (case a3 => k_is)
    (case l3 => k_is)
    (case c3 => k_is)
    (case k3 => k_is)
    (case a4 => k_is)
    (case l4 => k_is)
    (case c4 => k_is)
    (case k4 => k_is)
    (case a5 => k_is)
    (case l5 => k_is)
    (case c5 => k_is)
    (case k5 => k_is)
    (case a6 => k_is)
    (case l6 => k_is)
    (case c6 => k_is)
    (case k6 => k_is)
    (case a7 => k_is)
    (case l7 => k_is)
    (case c7 => k_is)
    (case k7 => k_is)
    (case a8 => k_is)
    (case l8 => k_is)
    (case c8 => k_is)
    (case k8 => k_is)
    (case a9 => k_is)
    (case l9 => k_is)
    (case c9 => k_is)
    (case k9 => k_is)
    (case a10 => k_is)
    (case l10 => k_is)
    (case c10 => k_is)
    (case k10 => k_is)
    (case a11 => k_is)
    (case l11 => k_is)
    (case c11 => k_is)
    (case k11 => k_is)
    (case a12 => k_is)
    (case l12 => k_is)
    (case c12 => k_is)
    (case k12 => k_is)
    (case a13 => k_is)
    (case l13 => k_is)
    (case c13 => k_is)
    (case k13 => k_is)
    (case a14 => k_is)
    (case l14 => k_is)
    (case c14 => k_is)
    (case k14 => k_is)
    (case a15 => k_is)
    (case l15 => k_is)
    (case c15 => k_is)
    (case k15 => k_is)
    (case a16 => k_is)
    (case l16 => k_is)
    (case c16 => k_is)
    (case k16 => k_is)
    (case a17 => k_is)
    (case l17 => k_is)
    (case c17 => k_is)
    (case k17 => k_is)
    (case a18 => k_is)
    (case l18 => k_is)
    (case c18 => k_is)
    (case k18 => k_is)
    (case a19 => k_is)
    (case l19 => k_is)
    (case c19 => k_is)
    (case k19 => k_is)
    (case a20 => k_is)
    (case l20 => k_is)
    (case c20 => k_is)
    (case k20 => k_is)
    (case a21 => k_is)
    (case l21 => k_is)
    (case c21 => k_is)
    (case k21 => k_is)
    (case a22 => k_is)
    (case l22 => k_is)
    (case c22 => k_is)
    (case k22 => k_is)
    (case a23 => k_is)
    (case l23 => k_is)
    (case c23 => k_is)
    (case k23 => k_is)
    (case a24 => k_is)
    (case l24 => k_is)
    (case c24 => k_is)
    (case k24 => k_is)
    (case a25 => k_is)
    (case l25 => k_is)
    (case c25 => k_is)
    (case k25 => k_is)
    (case a26 => k_is)
    (case l26 => k_is)
    (case c26 => k_is)
    (case k26 => k_is)
    (case a27 => k_is)
    (case l27 => k_is)
    (case c27 => k_is)
    (case k27 => k_is)
    (case a28 => k_is)
    (case l28 => k_is)
    (case c28 => k_is)
    (case k28 => k_is)
    (case a29 => k_is)
    (case i29 => k_is)
    (case l29 => k_is)
    (case c29 => k_is)
    (case k29 => k_is)
    (case d29_4 => k_is)
    (case dl29_4 => k_is)
    (case d29_3 => k_is)
    (case dl29_3 => k_is)
    (case d29_2 => k_is)
    (case dl29_2 => k_is)
    (case d29_1 => k_is)
    (case d29_0 => k_is)
    (case a30 => k_is)
    (case l30 => k_is)
    (case c30 => k_is)
    (case k30 => k_is)
    (case z0 => k_is)
    (case z1 => k_is)
    (case z2 => k_is)
    (case z3 => k_is)
    (case z4 => k_is)
    (case z5 => k_is)
    (case z6 => k_is)
    (case z7 => k_is)
    (case z8 => k_is)
    (case z9 => k_is)
    (case z10 => k_is)
    (case z11 => k_is)
    (case z12 => k_is)
    (case z13 => k_is)
    (case y0 => k_is)
    (case y1 => k_is)
    (case y2 => k_is)
    (case y3 => k_is)
    (case y4 => k_is)
    (case y5 => k_is)
  case S => exact fun K H a ns hl hO hS => ⟨a, ns, rfl, hS, hl, hO, fun _ => rfl⟩
  case C => exact fun H s e s' z => z
#print axioms PySem.Challenge.cw_windfleet_k37_rooms_grown_and_clashing_holds
