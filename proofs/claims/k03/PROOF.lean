import PyProof.Rows.All
import Wide.All
import OpenK.AllK
import Wide.FinOn
import Lean
import PyProof.EqAt
import PyProof.EqKinds
import PyProof.TupleCall
import PySem.Challenge.RW_apart_k03_tellings_read
set_option Elab.async false
set_option linter.all false
set_option maxRecDepth 100000
/-! THE HAND LAYER, for ints, bools, texts, own classes, LISTS and tuples (index, slices, in, append, pop ..), calls, loops. Paste it whole ahead of your own text; what your proof does not reach may be deleted. -/
namespace L2
open PySem PySem.Spec PyProof.Rows

/-- a key: an int or a str -/
abbrev Key := Sum Int Str
def keyIs : Key → Value → Bool
  | .inl k, v => Value.isInt k v
  | .inr x, v => Value.isStrOf x v
def keyH (w : World) : Key → Int
  | .inl k => hashInt k
  | .inr x => hashStr w x
theorem keyIs_shape : ∀ {k : Key} {v : Value}, keyIs k v = true → (∃ i t, k = Sum.inl i ∧ v = Value.int i t) ∨ (∃ x t, k = Sum.inr x ∧ v = Value.str x t)
  | .inl i, v, h => by
    obtain ⟨t, e⟩ := Value.isInt_shape (k := i) (v := v) h
    exact .inl ⟨i, t, rfl, e⟩
  | .inr x, v, h => by
    obtain ⟨t, e⟩ := Value.isStrOf_shape (x := x) (v := v) h
    exact .inr ⟨x, t, rfl, e⟩
theorem keyIs_int (i : Int) (t : Tok) : keyIs (.inl i) (.int i t) = true := by simp [keyIs, Value.isInt]
theorem keyIs_str (x : Str) (t : Tok) : keyIs (.inr x) (.str x t) = true := by simp [keyIs, Value.isStrOf]
theorem key_ll (a b : Int) : decide ((Sum.inl a : Key) = Sum.inl b) = (a == b) := by
  by_cases e : a = b
  · subst e; simp
  · have h : ¬ (Sum.inl a : Key) = Sum.inl b := fun q => e (Sum.inl.inj q)
    rw [decide_eq_false h]
    exact (beq_eq_false_iff_ne.mpr e).symm
theorem key_rr (a b : Str) : decide ((Sum.inr a : Key) = Sum.inr b) = decide (a = b) := by
  by_cases e : a = b
  · subst e; simp
  · have h : ¬ (Sum.inr a : Key) = Sum.inr b := fun q => e (Sum.inr.inj q)
    rw [decide_eq_false h, decide_eq_false e]
theorem key_lr (a : Int) (b : Str) : decide ((Sum.inl a : Key) = Sum.inr b) = false := decide_eq_false (fun q => nomatch q)
theorem key_rl (a : Str) (b : Int) : decide ((Sum.inr a : Key) = Sum.inl b) = false := decide_eq_false (fun q => nomatch q)

def mixKind (prog : Program) (w : World) : PySem.KeyKind prog w Key where
  is := keyIs
  hash := keyH w
  inj := fun v a b ha hb => by
    rcases keyIs_shape ha with ⟨i, t, rfl, rfl⟩ | ⟨x, t, rfl, rfl⟩
    · rcases keyIs_shape hb with ⟨j, u, rfl, e⟩ | ⟨y, u, rfl, e⟩
      · injection e with e1 _; rw [e1]
      · exact nomatch e
    · rcases keyIs_shape hb with ⟨j, u, rfl, e⟩ | ⟨y, u, rfl, e⟩
      · exact nomatch e
      · injection e with e1 _; rw [e1]
  byValue := fun k v h => by
    rcases keyIs_shape h with ⟨i, t, rfl, rfl⟩ | ⟨x, t, rfl, rfl⟩ <;> rfl
  pyHash := fun hv h => by
    rcases keyIs_shape hv with ⟨i, t, rfl, rfl⟩ | ⟨x, t, rfl, rfl⟩
    · exact wpAny_pyHash_int h
    · exact wpAny_pyHash_str h
  eqBool := fun hu hv h => by
    rcases keyIs_shape hu with ⟨i, t, rfl, rfl⟩ | ⟨x, t, rfl, rfl⟩
    · rcases keyIs_shape hv with ⟨j, u, rfl, rfl⟩ | ⟨y, u, rfl, rfl⟩
      · rw [key_ll] at h; exact wpAny_eqBool_int h
      · rw [key_lr] at h; exact SeqAt.EqAt.int_str i t y u _ _ _ _ h
    · rcases keyIs_shape hv with ⟨j, u, rfl, rfl⟩ | ⟨y, u, rfl, rfl⟩
      · rw [key_rl] at h; exact SeqAt.EqAt.str_int x t j u _ _ _ _ h
      · rw [key_rr] at h; exact wpAny_eqBool_str h
  «strs» := fun k x t v h => by
    rcases keyIs_shape h with ⟨i, u, rfl, e⟩ | ⟨y, u, rfl, e⟩
    · exact nomatch e
    · injection e with e1 _
      subst e1
      cases v <;> rfl

theorem mixKind_int (prog : Program) (w : World) (i : Int) (t : Tok) : (mixKind prog w).is (.inl i) (.int i t) = true := keyIs_int i t
theorem mixKind_str (prog : Program) (w : World) (x : Str) (t : Tok) : (mixKind prog w).is (.inr x) (.str x t) = true := keyIs_str x t
end L2

namespace L2
open PySem PySem.Spec PyProof.Rows

/-- a value, without the heap -/
inductive V where
  | non | bl (b : Bool) | int (i : Int) | str (x : Str) | byt (b : Array UInt8) | flt (b : UInt64) | ref (a : Addr) | ty (n : String)
  deriving DecidableEq

def RelV : V → Value → Prop
  | .non, u => u = Value.none
  | .bl b, u => u = Value.bool b
  | .int i, u => ∃ t, u = Value.int i t
  | .str x, u => ∃ t, u = Value.str x t
  | .byt b, u => ∃ t, u = Value.bytes b t
  | .flt b, u => ∃ t, u = Value.float b t
  | .ref a, u => u = Value.ref a
  | .ty n, u => u = Value.type n

abbrev Vals : List V → List Value → Prop := Paired RelV
theorem Vals.length {xs : List V} {us : List Value} (r : Vals xs us) : xs.length = us.length := Paired.length r
theorem Vals.get : ∀ {xs : List V} {us : List Value} {i : Nat} {x : V}, Vals xs us → xs[i]? = some x → ∃ u, us[i]? = some u ∧ RelV x u
  | _, _, _, _, .nil, e => by simp at e
  | _, _, 0, _, .cons r _, e => by simp at e; subst e; exact ⟨_, rfl, r⟩
  | _, _, i + 1, x, .cons _ t, e => by
    obtain ⟨u, h1, h2⟩ := Vals.get (i := i) (x := x) t (by simpa using e)
    exact ⟨u, by simpa using h1, h2⟩
theorem Vals.set {x : V} {u : Value} (r : RelV x u) : ∀ {xs : List V} {us : List Value} (i : Nat), Vals xs us → Vals (xs.set i x) (us.set i u)
  | _, _, _, .nil => .nil
  | _, _, 0, .cons _ t => .cons r t
  | _, _, i + 1, .cons q t => .cons q (Vals.set r i t)
theorem Vals.append : ∀ {xs ys : List V} {us ws : List Value}, Vals xs us → Vals ys ws → Vals (xs ++ ys) (us ++ ws)
  | _, _, _, _, .nil, s => s
  | _, _, _, _, .cons r t, s => .cons r (Vals.append t s)
theorem Vals.take : ∀ {xs : List V} {us : List Value} (n : Nat), Vals xs us → Vals (xs.take n) (us.take n)
  | _, _, 0, _ => .nil
  | _, _, _ + 1, .nil => .nil
  | _, _, n + 1, .cons r t => .cons r (Vals.take n t)
theorem Vals.drop : ∀ {xs : List V} {us : List Value} (n : Nat), Vals xs us → Vals (xs.drop n) (us.drop n)
  | _, _, 0, r => r
  | _, _, _ + 1, .nil => .nil
  | _, _, n + 1, .cons _ t => Vals.drop n t
def RelO : Option V → Option Value → Prop
  | some v, some u => RelV v u
  | none, none => True
  | _, _ => False
def KV {κ : Type} : List (κ × V) → List (κ × Value) → Prop := Paired fun (p : κ × V) (q : κ × Value) => p.1 = q.1 ∧ RelV p.2 q.2

/-- a key of a dict (00_mix): an int or a text -/
def kV : Key → V
  | .inl i => .int i
  | .inr x => .str x

/-- what stands at a tracked address -/
inductive HO where
  /-- a list -/
  | lst (xs : List V)
  /-- a tuple (never changes) -/
  | tup (xs : List V)
  /-- a dict whose keys are ints and texts; one whose keys are tuples of ints and texts (the empty one is both) -/
  | dK (kvs : List (Key × V)) | dT (kvs : List (List Key × V))
  /-- a set of ints: its members, its size -/
  | set (S : Int → Bool) (n : Nat)
  /-- an instance of the class at C, its dict at dx, its attributes -/
  | ins (C dx : Addr) (fs : List (Str × V))
  /-- the dict of the instance at x -/
  | own (x : Addr)
  /-- the dict of an exception -/
  | xd (fs : List (Str × V))
  /-- a bound method, f of x -/
  | met (f x : Addr)
  /-- a range object lo, lo + 1, .. below hi -/
  | rng (lo hi : Int)
  /-- a thing that is known to the object (the script; a dict while a loop walks it): read, never written while it is so -/
  | frz (o : Obj) (u : HO)
  /-- a code object's table -/
  | tbl (ps : Array Value)
  /-- any other thing, by what is true of its one object (a def of one's own: SetO a S n := HO.ext fun h => ..) -/
  | ext (φ : Heap → Prop)

abbrev Hp := Addr → Option HO
def upd (H : Hp) (a : Addr) (o : HO) : Hp := fun b => if b = a then some o else H b
theorem upd_same {H : Hp} {a : Addr} {o : HO} : upd H a o a = some o := by unfold upd; rw [if_pos rfl]
theorem upd_ne {H : Hp} {a b : Addr} {o : HO} (h : b ≠ a) : upd H a o b = H b := by unfold upd; rw [if_neg h]
theorem upd_upd {H : Hp} {a : Addr} {o u : HO} : upd (upd H a o) a u = upd H a u := by
  funext b; unfold upd; split <;> rfl
/-- two objects of different content stand apart -/
theorem ne_of {H : Hp} {a b : Addr} {o u : HO} (h : H a = some o) (h' : H b = some u) (d : o ≠ u) : a ≠ b := by
  intro e; subst e; rw [h] at h'; exact d (Option.some.inj h')
theorem ne_of_none {H : Hp} {a b : Addr} {o : HO} (h : H a = some o) (h' : H b = none) : a ≠ b := by
  intro e; subst e; rw [h] at h'; cases h'

section
variable (P : Program) (w : World)
def ObjOk (H : Hp) (h : Heap) (a : Addr) : HO → Prop
  | .lst xs => xs.length ≤ sizeLine ∧ ∃ (its : List Value) (n : Nat), Vals xs its ∧ h.get? a = some { cls := .type "list", data := .seq its.toArray n }
  | .tup xs => xs.length ≤ sizeLine ∧ ∃ its : List Value, Vals xs its ∧ IsTup h a its.toArray
  | .dK kvs => kvs.length ≤ sizeLine ∧ (a == sysModules) = false ∧ ∃ vs, KV kvs vs ∧ h.DictOf (mixKind P w) a vs
  | .dT kvs => kvs.length ≤ sizeLine ∧ (a == sysModules) = false ∧ ∃ xs : List (List Key × Addr × Value),
      Paired (fun (p : List Key × V) (q : List Key × Addr × Value) => p.1 = q.1 ∧ H q.2.1 = some (.tup (p.1.map kV)) ∧ RelV p.2 q.2.2) kvs xs ∧
      ∃ o es ep, h.get? a = some o ∧ o.ExactDict ∧ o.data = .dict es ep ∧ es.toList = xs.map (entryOfKey (tupleKind (mixKind P w))) ∧ (xs.map (·.1)).Nodup
  | .set S n => h.SetOf (intKind P w) a S n
  | .ins C dx fs => H dx = some (.own a) ∧ fs.length ≤ 1000 ∧ dx ≠ a ∧ h.get? a = some (PySem.W.instObj C dx) ∧
      ∃ mA, h.Ns1 dx mA ∧ (∀ f, RelO (fs.lookup f) (mA f)) ∧ PySem.Within mA (fs.map (·.1))
  | .own _ => ∃ o, h.get? a = some o
  | .xd fs => ∃ mA, h.Ns1 a mA ∧ ∀ f, RelO (fs.lookup f) (mA f)
  | .rng lo hi => ∃ t u v, h.get? a = some { cls := .type "range", data := .fields #[.int lo t, .int hi u, .int 1 v] }
  | .frz o u => h.get? a = some o ∧ ObjOk H h a u
  | .tbl ps => h.get? a = some { cls := .none, data := .fields ps }
  | .met f x => h.get? a = some (PySem.W.methodObj (.ref f) (.ref x))
  | .ext φ => φ h ∧ (∃ o, h.get? a = some o) ∧ ∀ h1 h2 : Heap, φ h1 → (∀ o, h1.get? a = some o → h2.get? a = some o) → φ h2
/-- the abstract heap is held -/
def HOk (H : Hp) (h : Heap) : Prop := ∀ a o, H a = some o → ObjOk P w H h a o
end

section
variable {P : Program} {w : World} {H H' : Hp} {h h' : Heap} {a : Addr} {o : HO}
theorem ObjOk.lt (x : ObjOk P w H h a o) : a < h.objs.size := by
  cases o with
  | lst xs => obtain ⟨_, _, _, _, e⟩ := x; exact Heap.lt_size e
  | tup xs => obtain ⟨_, _, _, p⟩ := x; exact p.lt
  | dK kvs => obtain ⟨_, _, _, _, o, _, _, e, _⟩ := x; exact Heap.lt_size e
  | dT kvs => obtain ⟨_, _, _, _, o, _, _, e, _⟩ := x; exact Heap.lt_size e
  | set S n => obtain ⟨o, _, _, _, e, _⟩ := x; exact Heap.lt_size e
  | ins C dx fs => obtain ⟨_, _, _, e, _⟩ := x; exact Heap.lt_size e
  | own y => obtain ⟨_, e⟩ := x; exact Heap.lt_size e
  | xd fs => obtain ⟨_, ⟨_, _, _, e, _⟩, _⟩ := x; exact Heap.lt_size e
  | rng lo hi => obtain ⟨_, _, _, e⟩ := x; exact Heap.lt_size e
  | frz ob u => obtain ⟨e, _⟩ := x; exact Heap.lt_size e
  | tbl ps => exact Heap.lt_size (show h.get? a = some _ from x)
  | met f y => exact Heap.lt_size (show h.get? a = some _ from x)
  | ext φ => obtain ⟨_, ⟨_, e⟩, _⟩ := x; exact Heap.lt_size e
theorem Paired.mapP {α β : Type} {F G : α → β → Prop} : ∀ {l₁ : List α} {l₂ : List β}, Paired F l₁ l₂ → (∀ a b, F a b → G a b) → Paired G l₁ l₂
  | _, _, .nil, _ => .nil
  | _, _, .cons r t, f => .cons (f _ _ r) (Paired.mapP t f)
/-- what an object's description leans on: its own object, its own dict, the tuples -/
theorem ObjOk.stay (x : ObjOk P w H h a o) (k : ∀ b u, (b = a ∨ H b = some (.own a)) → h.get? b = some u → h'.get? b = some u)
    (ho : ∀ b, H b = some (.own a) → H' b = some (.own a)) (ht : ∀ b xs, H b = some (.tup xs) → H' b = some (.tup xs)) : ObjOk P w H' h' a o := by
  induction o with
  | lst xs => obtain ⟨z, its, n, r, e⟩ := x; exact ⟨z, its, n, r, k _ _ (.inl rfl) e⟩
  | tup xs => obtain ⟨z, its, r, ob, e, c⟩ := x; exact ⟨z, its, r, ob, k _ _ (.inl rfl) e, c⟩
  | dK kvs => obtain ⟨z, y, vs, r, ob, es, ep, e, c⟩ := x; exact ⟨z, y, vs, r, ob, es, ep, k _ _ (.inl rfl) e, c⟩
  | dT kvs =>
    obtain ⟨z, y, xs, r, ob, es, ep, e, c⟩ := x
    exact ⟨z, y, xs, Paired.mapP r fun p q z => ⟨z.1, ht _ _ z.2.1, z.2.2⟩, ob, es, ep, k _ _ (.inl rfl) e, c⟩
  | set S n => obtain ⟨ob, es, ep, t, e, c⟩ := x; exact ⟨ob, es, ep, t, k _ _ (.inl rfl) e, c⟩
  | ins C dx fs =>
    obtain ⟨d, z, ne, e, mA, ⟨od, es, ep, e2, c⟩, r⟩ := x
    exact ⟨ho _ d, z, ne, k _ _ (.inl rfl) e, mA, ⟨od, es, ep, k _ _ (.inr d) e2, c⟩, r⟩
  | own y => obtain ⟨ob, e⟩ := x; exact ⟨ob, k _ _ (.inl rfl) e⟩
  | xd fs => obtain ⟨mA, ⟨od, es, ep, e, c⟩, r⟩ := x; exact ⟨mA, ⟨od, es, ep, k _ _ (.inl rfl) e, c⟩, r⟩
  | rng lo hi => obtain ⟨t, u, v, e⟩ := x; exact ⟨t, u, v, k _ _ (.inl rfl) e⟩
  | frz ob u ih => obtain ⟨e, q⟩ := x; exact ⟨k _ _ (.inl rfl) e, ih q⟩
  | tbl ps =>
    have e : h.get? a = some { cls := .none, data := .fields ps } := x
    show h'.get? a = some { cls := .none, data := .fields ps }
    exact k a _ (.inl rfl) e
  | met f y =>
    have e : h.get? a = some (PySem.W.methodObj (.ref f) (.ref y)) := x
    show h'.get? a = some (PySem.W.methodObj (.ref f) (.ref y))
    exact k a _ (.inl rfl) e
  | ext φ => obtain ⟨p, ⟨o, e⟩, st⟩ := x; exact ⟨st _ _ p fun o q => k _ _ (.inl rfl) q, ⟨o, k _ _ (.inl rfl) e⟩, st⟩
theorem HOk.lt (x : HOk P w H h) (e : H a = some o) : a < h.objs.size := (x a o e).lt
theorem HOk.fresh (x : HOk P w H h) (e : h.objs.size ≤ a) : H a = none := by
  cases q : H a with
  | none => rfl
  | some u => exact absurd (Nat.lt_of_lt_of_le (x.lt q) e) (Nat.lt_irrefl _)
/-- every object of the heap is kept -/
theorem HOk.kept (x : HOk P w H h) (k : ∀ b u, h.get? b = some u → h'.get? b = some u) : HOk P w H h' := fun a o e =>
  (x a o e).stay (fun b u _ q => k b u q) (fun _ q => q) fun _ _ q => q
/-- a new object is laid and tracked -/
theorem HOk.laid (x : HOk P w H h) (k : ∀ b u, h.get? b = some u → h'.get? b = some u) (hp : h.objs.size ≤ a) (new : ObjOk P w (upd H a o) h' a o) : HOk P w (upd H a o) h' := fun b u e => by
  have hn := x.fresh hp
  by_cases hb : b = a
  · subst hb; rw [upd_same] at e; cases e; exact new
  · rw [upd_ne hb] at e
    exact (x b u e).stay (fun c v _ q => k c v q) (fun c q => by rw [upd_ne (ne_of_none q hn)]; exact q) fun c xs q => by rw [upd_ne (ne_of_none q hn)]; exact q
end

/-- what may be read as u: it is u, or a known u -/
def Rd (H : Hp) (a : Addr) (u : HO) : Prop := H a = some u ∨ ∃ o, H a = some (.frz o u)
theorem Rd.ok {P : Program} {w : World} {H : Hp} {h : Heap} {a : Addr} {u : HO} (r : Rd H a u) (x : HOk P w H h) : ObjOk P w H h a u := by
  rcases r with r | ⟨o, r⟩
  · exact x a u r
  · obtain ⟨_, q⟩ := x a _ r
    exact q
/-- what may be written -/
def Mut : Option HO → Prop
  | some (.lst _) => True
  | some (.dK _) => True
  | some (.dT _) => True
  | some (.set _ _) => True
  | some (.ins _ _ _) => True
  | some (.ext _) => True
  | _ => False
section
variable {P : Program} {w : World} {H : Hp} {h h' : Heap} {x e : Addr} {o' : HO}
/-- the object at e is changed: x itself, or the dict of the instance x -/
theorem HOk.write (ok : HOk P w H h) (mu : Mut (H x)) (he : e = x ∨ H e = some (.own x)) (k : ∀ b u, b ≠ e → h.get? b = some u → h'.get? b = some u) (heo : ∃ u, h'.get? e = some u)
    (new : ObjOk P w (upd H x o') h' x o') : HOk P w (upd H x o') h' := fun b u q => by
  have nown : ∀ c y, H c = some (.own y) → c ≠ x := fun c y r z => by subst z; rw [r] at mu; exact mu
  have ntup : ∀ c xs, H c = some (.tup xs) → c ≠ x := fun c xs r z => by subst z; rw [r] at mu; exact mu
  by_cases hb : b = x
  · subst hb; rw [upd_same] at q; cases q; exact new
  · rw [upd_ne hb] at q
    by_cases hbe : b = e
    · have q' : H b = some (.own x) := by
        rcases he with z | z
        · exact absurd (hbe.trans z) hb
        · rw [hbe]; exact z
      rw [q] at q'; cases q'
      obtain ⟨v, hv⟩ := heo
      exact ⟨v, by rw [hbe]; exact hv⟩
    · refine (ok b u q).stay (fun c v hc r => k c v ?_ r) (fun c r => by rw [upd_ne (nown c b r)]; exact r) fun c xs r => by rw [upd_ne (ntup c xs r)]; exact r
      rcases hc with rfl | hc
      · exact hbe
      · rintro rfl
        rcases he with z | z
        · exact nown c b hc z
        · rw [hc] at z; cases z; exact hb rfl
end

/-! ### kept unless tracked; of the frames at fs (the callers') the slots may change (an exception that passes writes there); of the records at ex (iterators) nothing is said -/
structure Un (fs ex : List Addr) (H H' : Hp) (h h' : Heap) : Prop where
  keep : ∀ b o, h.get? b = some o → H b = none → b ∉ fs → b ∉ ex → h'.get? b = some o
  slot : ∀ b o, h.get? b = some o → H b = none → b ∈ fs → b ∉ ex → ∃ sl, h'.get? b = some { o with slots := sl }
  free : ∀ b o, h.get? b = some o → H b = none → b ∉ ex → H' b = none
  there : ∀ b o, h.get? b = some o → b ∉ ex → ∃ o', h'.get? b = some o'
  tups : ∀ b xs, H b = some (.tup xs) → H' b = some (.tup xs)
  frzs : ∀ b o u, H b = some (.frz o u) → H' b = some (.frz o u)
  tbls : ∀ b ps, H b = some (.tbl ps) → ∃ more, H' b = some (.tbl (ps ++ more))
section
variable {fs fs' ex ex' : List Addr} {H H1 H2 : Hp} {h h1 h2 h' : Heap} {a x e : Addr} {o : HO}
theorem Un.any (u : Un fs ex H H1 h h1) {b : Addr} {ob : Obj} (q : h.get? b = some ob) (n : H b = none) (hx : b ∉ ex) : ∃ sl, h1.get? b = some { ob with slots := sl } := by
  by_cases hb : b ∈ fs
  · exact u.slot b ob q n hb hx
  · exact ⟨ob.slots, u.keep b ob q n hb hx⟩
theorem Un.kept (k : ∀ b u, h.get? b = some u → h'.get? b = some u) : Un fs ex H H h h' :=
  ⟨fun b ob q _ _ _ => k b ob q, fun b ob q _ _ _ => ⟨ob.slots, k b ob q⟩, fun _ _ _ n _ => n, fun b ob q _ => ⟨ob, k b ob q⟩, fun _ _ q => q, fun _ _ _ q => q, fun _ ps q => ⟨#[], by rw [q]; simp⟩⟩
theorem Un.refl : Un fs ex H H h h := Un.kept fun _ _ q => q
theorem Un.laid (k : ∀ b u, h.get? b = some u → h'.get? b = some u) (hp : h.objs.size ≤ a) (hn : H a = none) : Un fs ex H (upd H a o) h h' where
  keep := fun b u q _ _ _ => k b u q
  slot := fun b u q _ _ _ => ⟨u.slots, k b u q⟩
  free := fun b u q n _ => by rw [upd_ne (Nat.ne_of_lt (Nat.lt_of_lt_of_le (Heap.lt_size q) hp))]; exact n
  there := fun b u q _ => ⟨u, k b u q⟩
  tups := fun b xs q => by rw [upd_ne (ne_of_none q hn)]; exact q
  frzs := fun b u xs q => by rw [upd_ne (ne_of_none q hn)]; exact q
  tbls := fun b ps q => ⟨#[], by rw [upd_ne (ne_of_none q hn), q]; simp⟩
theorem Un.write (mu : Mut (H x)) (he : e = x ∨ H e = some (.own x)) (k : ∀ b u, b ≠ e → h.get? b = some u → h'.get? b = some u) (heo : ∃ u, h'.get? e = some u) : Un fs ex H (upd H x o) h h' := by
  have hx : ∀ b, H b = none → b ≠ x := fun b n z => by subst z; rw [n] at mu; exact mu
  have hb : ∀ b, H b = none → b ≠ e := fun b n z => by
    subst z
    rcases he with r | r
    · exact hx b n r
    · rw [n] at r; cases r
  have hm : ∀ b u, H b = some u → ¬ Mut (some u) → b ≠ x := fun b u q nm z => by subst z; rw [q] at mu; exact nm mu
  refine ⟨fun b u q n _ _ => k b u (hb b n) q, fun b u q n _ _ => ⟨u.slots, k b u (hb b n) q⟩, fun b u q n _ => by rw [upd_ne (hx b n)]; exact n, fun b u q _ => ?_,
    fun b xs q => by rw [upd_ne (hm b _ q fun z => z)]; exact q, fun b u xs q => by rw [upd_ne (hm b _ q fun z => z)]; exact q, fun b ps q => ⟨#[], by rw [upd_ne (hm b _ q fun z => z), q]; simp⟩⟩
  by_cases hbe : b = e
  · subst hbe; exact heo
  · exact ⟨u, k b u hbe q⟩
end

/-! ### the heap without what is tracked -/
def trk (h : Heap) (H : Hp) : List Addr := (List.range h.objs.size).filter fun a => (H a).isSome
def hidT (h : Heap) (H : Hp) : Heap := PySem.W.hideAll h (trk h H)
theorem hidT_size (h : Heap) (H : Hp) : (hidT h H).objs.size = h.objs.size := PySem.W.hideAll_size _ _
theorem hidT_get {h : Heap} {H : Hp} {b : Addr} {o : Obj} (e : h.get? b = some o) (n : H b = none) : (hidT h H).get? b = some o :=
  PySem.W.hideAll_get _ e fun hm => by
    have q : (H b).isSome = true := (List.mem_filter.mp hm).2
    rw [n] at q; simp at q
theorem of_hidT {h : Heap} {H : Hp} {b : Addr} {o : Obj} (e : (hidT h H).get? b = some o) : h.get? b = some o ∧ H b = none := by
  have e' : h.get? b = some o := PySem.W.of_hideAll (trk h H) e
  refine ⟨e', ?_⟩
  cases q : H b with
  | none => rfl
  | some x =>
    have hm : b ∈ trk h H := List.mem_filter.mpr ⟨List.mem_range.mpr (Heap.lt_size e'), by simp [q]⟩
    have z : (hidT h H).get? b = none := PySem.W.hideAll_none (trk h H) hm
    rw [z] at e; cases e

/-! ### OpenK's ledger, filled with every new object but one -/
def allNews (g h : Heap) (L : Addr) : List (Addr × Obj) := (List.range h.objs.size).filterMap fun a => if a = L ∨ (g.get? a).isSome = true then none else (h.get? a).map fun o => (a, o)
def rest (g h : Heap) (L d : Addr) : List (Addr × Obj) := (allNews g h L).filter fun p => decide (p.1 ≠ d)
end L2

namespace L2
open PySem PySem.Spec PyProof.Rows

/-- the module's facts, over the base: the heap at the law's entry without what is tracked there -/
structure Mod (K : PySem.W.Frag) (mg : Str → Option Value) (base : Heap) : Prop where
  kin : K.In base
  glob : base.Ns mainGlobals mg
  blt : ∃ mb, base.Ns builtinsNs mb ∧ ∀ x : Str, x ≠ "__name__" → mb x = bootBuiltins x
  nolimit : base.NoLimit

/-- the context: a def's body (or a comprehension's block) running. base: fixed through the whole law; s₀, H₀: the entry; outer: the frames whose slots others may change (a def's callers); stack: all frames that run;
   ex: iterators that were made ahead of the entry and are walked here (a comprehension's); fn: the names whose cells were made at the entry (a def: all; a comprehension's block: its own); calm: not within an except suite; pn: pins that every state bears; xe: what is wanted of an exception that leaves the code -/
structure Cx where
  prog : Program
  w : World
  K : PySem.W.Frag
  mg : Str → Option Value
  base : Heap
  A : Around
  N : List Str
  s₀ : Shared
  H₀ : Hp
  env : Env
  outer : List Env
  stack : List Env
  ex : List Addr
  fn : Str → Bool
  calm : Bool
  pn : List (Addr × Obj)
  xe : Value → Shared → Prop
/-- the callers' frames -/
def frs (l : List Env) : List Addr := l.filterMap (·.frame)
abbrev Cx.fs (X : Cx) : List Addr := frs X.outer

def Vis (sc : Scope) (x : Str) : Prop := sc.names.lookup x = some .local ∨ sc.names.lookup x = some .cell ∨ sc.names.lookup x = some .free
def Loc (sc : Scope) (x : Str) : Prop := sc.names.lookup x = some .local ∨ sc.names.lookup x = some .cell
def Look (env : Env) (h : Heap) (m : Str → Option Value) (x : Str) (u : Value) : Prop :=
  (env.kindOf x = some .local ∧ m x = some u) ∨ ((env.kindOf x = some .cell ∨ env.kindOf x = some .free) ∧ ∃ c, env.cells.lookup x = some c ∧ h.IsCell c (some u))

structure Cx.Ok (X : Cx) : Prop where
  mod : Mod X.K X.mg X.base
  kind : X.env.scope.kind = .function
  glob : X.env.globals = mainGlobals
  blt : X.env.builtins = builtinsNs
  above : X.s₀.heap.objs.size ≤ X.env.locals
  inj : ∀ x y c, X.env.cells.lookup x = some c → X.env.cells.lookup y = some c → x = y
  has : ∀ x, (X.env.kindOf x = some .cell ∨ X.env.kindOf x = some .free) → ∃ c, X.env.cells.lookup x = some c
  cab : ∀ x c, X.fn x = true → X.env.cells.lookup x = some c → X.s₀.heap.objs.size ≤ c
  hd : X.calm = true → X.A.handled = none
  frames : X.A.frames = some X.stack
  stk : X.stack = X.outer ∨ (X.stack = X.env :: X.outer ∧ X.env.frame = some X.env.locals)
  exf : ∀ b ∈ X.ex, b ≠ X.env.locals ∧ ∀ x c, X.env.cells.lookup x = some c → c ≠ b
  bs : ∀ b o, X.base.get? b = some o → X.s₀.heap.get? b = some o ∧ X.H₀ b = none
  bsz : X.base.objs.size ≤ X.s₀.heap.objs.size
  noex : ∀ b o, X.base.get? b = some o → b ∉ X.ex
  exfs : ∀ b ∈ X.ex, b ∉ X.fs
  funs : X.s₀.heap.FunFrames X.base X.outer
  frf : ∀ b ∈ X.fs, X.H₀ b = none

structure Inv (X : Cx) (pins : List (Addr × Obj)) (σ : List (Option V)) (H : Hp) (s : Shared) : Prop where
  ok : X.Ok
  os : s.os = X.s₀.os
  bare : AllBare s.gens
  base : Un X.fs X.ex X.H₀ H X.s₀.heap s.heap
  loc : ∃ m, s.heap.Ns X.env.locals m ∧ ∀ (i : Nat) (x : Str) (v : V), X.N[i]? = some x → σ[i]? = some (some v) → Vis X.env.scope x → ∃ u, RelV v u ∧ Look X.env s.heap m x u
  cell : ∀ x c, X.env.cells.lookup x = some c → ∃ v, s.heap.IsCell c v
  free : H X.env.locals = none
  freeC : ∀ x c, X.env.cells.lookup x = some c → H c = none
  pin : ∀ p ∈ X.pn ++ pins, s.heap.get? p.1 = some p.2 ∧ H p.1 = none ∧ p.1 ≠ X.env.locals ∧ p.1 ∉ X.fs ∧ ∀ v, p.2.data ≠ .cell v
  hok : HOk X.prog X.w H s.heap
  len : σ.length = X.N.length

section
variable {X : Cx} {pins : List (Addr × Obj)} {σ : List (Option V)} {H H' : Hp} {s : Shared} {h' : Heap}

theorem Cx.Ok.nofr (ok : X.Ok) {b : Addr} {o : Obj} (e : X.base.get? b = some o) : b ∉ X.fs := fun hb => by
  have := (ok.funs.mem hb).1
  rw [e] at this; cases this
theorem Inv.bs (I : Inv X pins σ H s) : ∀ b o, X.base.get? b = some o → s.heap.get? b = some o ∧ H b = none := fun b o e =>
  ⟨I.base.keep b o (I.ok.bs b o e).1 (I.ok.bs b o e).2 (I.ok.nofr e) (I.ok.noex b o e), I.base.free b o (I.ok.bs b o e).1 (I.ok.bs b o e).2 (I.ok.noex b o e)⟩
theorem Inv.bk (I : Inv X pins σ H s) : ∀ b o, X.base.get? b = some o → s.heap.get? b = some o := fun b o e => (I.bs b o e).1
theorem Inv.mod (I : Inv X pins σ H s) : Mod X.K X.mg X.base := I.ok.mod
theorem Inv.kIn (I : Inv X pins σ H s) : X.K.In s.heap := I.ok.mod.kin.keeps I.bk
theorem Inv.lt (I : Inv X pins σ H s) : X.env.locals < s.heap.objs.size := let ⟨_, hn, _⟩ := I.loc; hn.lt
theorem Inv.sz (I : Inv X pins σ H s) : X.s₀.heap.objs.size ≤ s.heap.objs.size := Nat.le_trans I.ok.above (Nat.le_of_lt I.lt)
theorem Inv.nofs (I : Inv X pins σ H s) {a : Addr} (h : s.heap.objs.size ≤ a) : a ∉ X.fs := fun hb => by
  obtain ⟨_, o, ho, _⟩ := I.ok.funs.mem hb
  exact absurd (Nat.lt_of_lt_of_le (Heap.lt_size ho) (Nat.le_trans I.sz h)) (Nat.lt_irrefl _)
theorem Inv.cne (I : Inv X pins σ H s) : ∀ x c, X.env.cells.lookup x = some c → c ≠ X.env.locals := fun x c e z => by
  obtain ⟨v, o, ho, hd⟩ := I.cell x c e
  obtain ⟨m, ⟨o', es, ep, ho', hd', _⟩, _⟩ := I.loc
  rw [z, ho'] at ho; cases ho; rw [hd'] at hd; cases hd
theorem Inv.funs (I : Inv X pins σ H s) : s.heap.FunFrames X.base X.outer := by
  have all : ∀ (l : List Env), (∀ b ∈ frs l, b ∈ X.fs) → X.s₀.heap.FunFrames X.base l → s.heap.FunFrames X.base l := by
    intro l
    induction l with
    | nil => intro _ _; trivial
    | cons env r ih =>
      intro hs hl
      obtain ⟨hk, ⟨L, o, hf, hn, ho, hd⟩, hr⟩ := hl
      have hL : L ∈ X.fs := hs L (by unfold frs; rw [List.filterMap_cons, hf]; exact List.mem_cons_self)
      obtain ⟨sl, e⟩ := I.base.slot L o ho (I.ok.frf L hL) hL fun z => I.ok.exfs L z hL
      exact ⟨hk, ⟨L, _, hf, hn, e, hd⟩, ih (fun b hb => hs b (by unfold frs; rw [List.filterMap_cons, hf]; exact List.mem_cons_of_mem _ hb)) hr⟩
  exact all X.outer (fun _ hb => hb) I.ok.funs

/-- the frames that run, for a call -/
theorem Inv.stack (I : Inv X pins σ H s) : s.heap.FunFrames X.base X.stack := by
  rcases I.ok.stk with e | ⟨e, hf⟩
  · rw [e]; exact I.funs
  · rw [e]
    obtain ⟨m, hn, _⟩ := I.loc
    refine .cons (by rw [I.ok.kind]; decide) hf hn ?_ I.funs
    exact Heap.get?_none_of_le (Nat.le_trans I.ok.bsz I.ok.above)
theorem Inv.stkSub (I : Inv X pins σ H s) : ∀ b ∈ frs X.stack, b ∈ X.env.locals :: X.fs := fun b hb => by
  rcases I.ok.stk with e | ⟨e, hf⟩
  · rw [e] at hb; exact List.mem_cons_of_mem _ hb
  · rw [e] at hb
    unfold frs at hb
    rw [List.filterMap_cons, hf] at hb
    exact hb
theorem Inv.stkFree (I : Inv X pins σ H s) : ∀ b ∈ frs X.stack, H b = none := fun b hb => by
  rcases List.mem_cons.mp (I.stkSub b hb) with e | hb
  · rw [e]; exact I.free
  · obtain ⟨_, o, ho, _⟩ := I.ok.funs.mem hb
    exact I.base.free b o ho (I.ok.frf b hb) fun z => I.ok.exfs b z hb

/-- THE STEP: the untracked objects but the frame and the records at ch are kept (the callers' frames up to slots), the frame's map is kept, the new abstract heap is held -/
theorem Inv.step {g' : Array GenState} {t' : Nat} {d' : Drawn} {ch : List Addr} (I : Inv X pins σ H s)
    (hch : ∀ b ∈ ch, (b ∈ X.ex ∨ X.s₀.heap.objs.size ≤ b) ∧ b ≠ X.env.locals ∧ (∀ x c, X.env.cells.lookup x = some c → c ≠ b) ∧ ∀ p ∈ X.pn ++ pins, p.1 ≠ b)
    (keep : ∀ b o, b ≠ X.env.locals → b ∉ X.fs → b ∉ ch → s.heap.get? b = some o → H b = none → h'.get? b = some o)
    (slot : ∀ b o, b ≠ X.env.locals → b ∈ X.fs → b ∉ ch → s.heap.get? b = some o → H b = none → ∃ sl, h'.get? b = some { o with slots := sl }) (free : ∀ b o, b ∉ ch → s.heap.get? b = some o → H b = none → H' b = none)
    (there : ∀ b o, b ∉ ch → s.heap.get? b = some o → ∃ o', h'.get? b = some o')
    (tups : ∀ b xs, H b = some (.tup xs) → H' b = some (.tup xs)) (frzs : ∀ b o u, H b = some (.frz o u) → H' b = some (.frz o u)) (tbls : ∀ b ps, H b = some (.tbl ps) → ∃ more, H' b = some (.tbl (ps ++ more)))
    (ns : ∀ m, s.heap.Ns X.env.locals m → h'.Ns X.env.locals m) (hok : HOk X.prog X.w H' h') (hg : AllBare g') :
    Inv X pins σ H' { s with heap := h', gens := g', drawn := d', toks := t' } := by
  have neL : ∀ b o, X.s₀.heap.get? b = some o → b ≠ X.env.locals := fun b o e => Nat.ne_of_lt (Nat.lt_of_lt_of_le (Heap.lt_size e) I.ok.above)
  have neC : ∀ b o, X.s₀.heap.get? b = some o → b ∉ X.ex → b ∉ ch := fun b o e hx hb => by
    rcases (hch b hb).1 with z | z
    · exact hx z
    · exact absurd (Nat.lt_of_lt_of_le (Heap.lt_size e) z) (Nat.lt_irrefl _)
  have cellK : ∀ x c, X.env.cells.lookup x = some c → ∀ v, s.heap.IsCell c v → h'.IsCell c v := fun x c e v ⟨o, ho, hd⟩ => by
    have nch : c ∉ ch := fun z => (hch c z).2.2.1 x c e rfl
    by_cases hc : c ∈ X.fs
    · obtain ⟨sl, q⟩ := slot c o (I.cne x c e) hc nch ho (I.freeC x c e)
      exact ⟨_, q, hd⟩
    · exact ⟨o, keep c o (I.cne x c e) hc nch ho (I.freeC x c e), hd⟩
  refine ⟨I.ok, I.os, hg, ⟨fun b o e n hb hx => ?_, fun b o e n hb hx => ?_, fun b o e n hx => ?_, fun b o e hx => ?_, fun b xs e => tups b xs (I.base.tups b xs e), fun b o xs e => frzs b o xs (I.base.frzs b o xs e), fun b ps e => ?_⟩, ?_, fun x c e => ?_, ?_, fun x c e => ?_, fun p hp => ?_, hok, I.len⟩
  · exact keep b o (neL b o e) hb (neC b o e hx) (I.base.keep b o e n hb hx) (I.base.free b o e n hx)
  · obtain ⟨sl, e1⟩ := I.base.slot b o e n hb hx
    obtain ⟨sl', e2⟩ := slot b _ (neL b o e) hb (neC b o e hx) e1 (I.base.free b o e n hx)
    exact ⟨sl', e2⟩
  · obtain ⟨o', e1⟩ := I.base.there b o e hx
    exact free b o' (neC b o e hx) e1 (I.base.free b o e n hx)
  · obtain ⟨o', e1⟩ := I.base.there b o e hx
    exact there b o' (neC b o e hx) e1
  · obtain ⟨m1, e1⟩ := I.base.tbls b ps e
    obtain ⟨m2, e2⟩ := tbls b _ e1
    exact ⟨m1 ++ m2, by rw [e2, Array.append_assoc]⟩
  · obtain ⟨m, hn, hl⟩ := I.loc
    refine ⟨m, ns m hn, fun i x v e1 e2 e3 => ?_⟩
    obtain ⟨u, r, l⟩ := hl i x v e1 e2 e3
    refine ⟨u, r, ?_⟩
    rcases l with l | ⟨k, c, e, z⟩
    · exact .inl l
    · exact .inr ⟨k, c, e, cellK x c e _ z⟩
  · obtain ⟨v, z⟩ := I.cell x c e
    exact ⟨v, cellK x c e v z⟩
  · obtain ⟨m, ⟨o, _, _, ho, _⟩, _⟩ := I.loc
    exact free _ o (fun z => (hch _ z).2.1 rfl) ho I.free
  · obtain ⟨v, o, ho, hd⟩ := I.cell x c e
    exact free c o (fun z => (hch c z).2.2.1 x c e rfl) ho (I.freeC x c e)
  · obtain ⟨e, n, ne, nf, d⟩ := I.pin p hp
    have nch : p.1 ∉ ch := fun z => (hch p.1 z).2.2.2 p hp rfl
    exact ⟨keep p.1 p.2 ne nf nch e n, free p.1 p.2 nch e n, ne, nf, d⟩
/-- .. where the frame's own object is kept too -/
theorem Inv.un {t' : Nat} (I : Inv X pins σ H s) (u : Un X.fs [] H H' s.heap h') (hok : HOk X.prog X.w H' h') : Inv X pins σ H' { s with heap := h', toks := t' } := by
  obtain ⟨m, ⟨o, es, ep, ho, r⟩, _⟩ := id I.loc
  obtain ⟨sl, hL⟩ := u.any ho I.free (by simp)
  exact I.step (g' := s.gens) (d' := s.drawn) (ch := []) (fun _ z => nomatch z) (fun b o _ hb _ e n => u.keep b o e n hb (by simp)) (fun b o _ hb _ e n => u.slot b o e n hb (by simp)) (fun b o _ e n => u.free b o e n (by simp)) (fun b o _ e => u.there b o e (by simp)) u.tups u.frzs u.tbls (fun m' hm => by
    obtain ⟨o', es', ep', ho', r'⟩ := hm
    rw [ho] at ho'; cases ho'
    exact ⟨_, es', ep', hL, r'⟩) hok I.bare
/-- behind a call (or a comprehension's block): the slots of this frame may have changed too, the records at ch may have turned -/
theorem Inv.call {g' : Array GenState} {t' : Nat} {d' : Drawn} {ch : List Addr} (I : Inv X pins σ H s) (u : Un (frs X.stack) ch H H' s.heap h') (hok : HOk X.prog X.w H' h') (hg : AllBare g')
    (hch : ∀ b ∈ ch, (b ∈ X.ex ∨ X.s₀.heap.objs.size ≤ b) ∧ b ≠ X.env.locals ∧ (∀ x c, X.env.cells.lookup x = some c → c ≠ b) ∧ ∀ p ∈ X.pn ++ pins, p.1 ≠ b) :
    Inv X pins σ H' { s with heap := h', gens := g', drawn := d', toks := t' } := by
  obtain ⟨m, ⟨o, es, ep, ho, r⟩, _⟩ := id I.loc
  obtain ⟨sl, hL⟩ := u.any ho I.free fun z => (hch _ z).2.1 rfl
  exact I.step (ch := ch) hch (fun b o hL hb hc e n => u.keep b o e n (fun z => (List.mem_cons.mp (I.stkSub b z)).elim hL hb) hc) (fun b o _ _ hc e n => u.any e n hc) (fun b o hc e n => u.free b o e n hc) (fun b o hc e => u.there b o e hc) u.tups u.frzs u.tbls (fun m' hm => by
    obtain ⟨o', es', ep', ho', r'⟩ := hm
    rw [ho] at ho'; cases ho'
    exact ⟨_, es', ep', hL, r'⟩) hok hg
/-- an untracked record of ours (an iterator) has turned -/
theorem Inv.turned {t' : Nat} {it : Addr} (I : Inv X pins σ H s) (k : ∀ b o, b ≠ it → s.heap.get? b = some o → h'.get? b = some o) (hn : H it = none) (hL : it ≠ X.env.locals)
    (h1 : it ∈ X.ex ∨ X.s₀.heap.objs.size ≤ it) (h2 : ∀ x c, X.env.cells.lookup x = some c → c ≠ it) (h3 : ∀ p ∈ X.pn ++ pins, p.1 ≠ it) : Inv X pins σ H { s with heap := h', toks := t' } := by
  have nit : ∀ b u, H b = some u → b ≠ it := fun b u e z => by rw [z, hn] at e; cases e
  refine I.step (g' := s.gens) (d' := s.drawn) (ch := [it]) (fun b hb => ?_) (fun b o _ _ hc e _ => k b o (fun z => hc (by simp [z])) e) (fun b o _ _ hc e _ => ⟨o.slots, k b o (fun z => hc (by simp [z])) e⟩) (fun _ _ _ _ n => n)
    (fun b o hc e => ⟨o, k b o (fun z => hc (by simp [z])) e⟩) (fun _ _ e => e) (fun _ _ _ e => e) (fun b ps e => ⟨#[], by rw [e]; simp⟩) (fun m hm => ?_) (fun b u e => ?_) I.bare
  · have e : b = it := by simpa using hb
    subst e
    exact ⟨h1, hL, h2, h3⟩
  · obtain ⟨o, es, ep, ho, r⟩ := hm
    exact ⟨o, es, ep, k _ o (Ne.symm hL) ho, r⟩
  · refine (I.hok b u e).stay (fun c v hc q => k c v ?_ q) (fun _ q => q) fun _ _ q => q
    rcases hc with z | z
    · rw [z]; exact nit b u e
    · exact nit c _ z
theorem Inv.tok (I : Inv X pins σ H s) (t : Nat) : Inv X pins σ H { s with toks := t } := I.un (h' := s.heap) (t' := t) Un.refl I.hok
/-- all objects kept -/
theorem Inv.kept {t' : Nat} (I : Inv X pins σ H s) (k : ∀ b u, s.heap.get? b = some u → h'.get? b = some u) : Inv X pins σ H { s with heap := h', toks := t' } := I.un (Un.kept k) (I.hok.kept k)
/-- a new object laid and tracked -/
theorem Inv.laid {a : Addr} {o : HO} {t' : Nat} (I : Inv X pins σ H s) (k : ∀ b u, s.heap.get? b = some u → h'.get? b = some u) (hp : s.heap.objs.size ≤ a) (new : ObjOk X.prog X.w (upd H a o) h' a o) :
    Inv X pins σ (upd H a o) { s with heap := h', toks := t' } := I.un (Un.laid k hp (I.hok.fresh hp)) (I.hok.laid k hp new)
/-- an object written -/
theorem Inv.write {x e : Addr} {o : HO} {t' : Nat} (I : Inv X pins σ H s) (mu : Mut (H x)) (he : e = x ∨ H e = some (.own x)) (k : ∀ b u, b ≠ e → s.heap.get? b = some u → h'.get? b = some u) (heo : ∃ u, h'.get? e = some u)
    (new : ObjOk X.prog X.w (upd H x o) h' x o) : Inv X pins σ (upd H x o) { s with heap := h', toks := t' } := I.un (Un.write mu he k heo) (I.hok.write mu he k heo new)
theorem Inv.pins_of {pins' : List (Addr × Obj)} (I : Inv X pins σ H s) (h : ∀ p ∈ pins', s.heap.get? p.1 = some p.2 ∧ H p.1 = none ∧ p.1 ≠ X.env.locals ∧ p.1 ∉ X.fs ∧ ∀ v, p.2.data ≠ .cell v) : Inv X pins' σ H s :=
  ⟨I.ok, I.os, I.bare, I.base, I.loc, I.cell, I.free, I.freeC, fun p hp => (List.mem_append.mp hp).elim (fun z => I.pin p (List.mem_append_left _ z)) (h p), I.hok, I.len⟩

theorem nodup_ix {N : List Str} (hN : N.Nodup) {i j : Nat} {x : Str} (a : N[i]? = some x) (b : N[j]? = some x) : i = j := by
  obtain ⟨h1, e1⟩ := List.getElem?_eq_some_iff.mp a
  obtain ⟨h2, e2⟩ := List.getElem?_eq_some_iff.mp b
  exact (List.getElem_inj hN).mp (e1.trans e2.symm)

/-- a name is stored; what changed -/
theorem store_ok2 {M : Model} {A : Around} {E : Value → Shared → Prop} {i : Nat} {x : Str} {v : V} {u : Value} {Q : Unit → Shared → Prop} (I : Inv X pins σ H s) (hN : X.N.Nodup) (hi : X.N[i]? = some x) (hx : Loc X.env.scope x) (r : RelV v u)
    (h : ∀ s', Inv X pins (σ.set i (some v)) H s' → (∃ a, Heap.SameBut a s.heap s'.heap ∧ (a = X.env.locals ∨ X.env.cells.lookup x = some a)) → Q () s') (hf : X.fn x = true ∨ X.env.scope.names.lookup x = some .local := by first | exact .inl rfl | exact .inr rfl | assumption) : wpAny M A (storeName X.env x u) Q E s := by
  obtain ⟨m, hn, hl⟩ := id I.loc
  have hcls : (X.env.scope.kind == .class || (X.env.scope.kind == .module && X.env.locals != X.env.globals)) = false := by rw [I.ok.kind]; rfl
  have hiσ : i < σ.length := by rw [I.len]; exact (List.getElem?_eq_some_iff.mp hi).1
  have cne := I.cne
  have tracked : ∀ {a : Addr} {h' : Heap}, (∃ o, s.heap.get? a = some o ∧ H a = none) → Heap.SameBut a s.heap h' → HOk X.prog X.w H h' := fun {a h'} ha hs b ob e => by
    obtain ⟨_, _, hfree⟩ := ha
    refine (I.hok b ob e).stay (fun c w' hc q => (hs.2 c ?_).trans q) (fun _ q => q) fun _ _ q => q
    rintro rfl
    rcases hc with rfl | hc
    · rw [hfree] at e; cases e
    · rw [hfree] at hc; cases hc
  rcases hx with hk | hk
  · refine wpAny_storeName_local hk hn (fun h' hn' hs => ?_) hcls
    obtain ⟨oL, _, _, hoL, _⟩ := id hn
    refine h _ ⟨I.ok, I.os, I.bare, ⟨fun b o e n hb hx => ?_, fun b o e n hb hx => ?_, I.base.free, fun b o e hx => ?_, I.base.tups, I.base.frzs, I.base.tbls⟩, ⟨_, hn', fun j y v' e1 e2 e3 => ?_⟩, fun y c e => ?_, I.free, I.freeC, fun p hp => ?_, tracked ⟨oL, hoL, I.free⟩ hs, by simpa using I.len⟩ ⟨_, hs, .inl rfl⟩
    · exact (hs.2 b (Nat.ne_of_lt (Nat.lt_of_lt_of_le (Heap.lt_size e) I.ok.above))).trans (I.base.keep b o e n hb hx)
    · obtain ⟨sl, e1⟩ := I.base.slot b o e n hb hx
      exact ⟨sl, (hs.2 b (Nat.ne_of_lt (Nat.lt_of_lt_of_le (Heap.lt_size e) I.ok.above))).trans e1⟩
    · obtain ⟨o', e1⟩ := I.base.there b o e hx
      exact ⟨o', (hs.2 b (Nat.ne_of_lt (Nat.lt_of_lt_of_le (Heap.lt_size e) I.ok.above))).trans e1⟩
    · by_cases hj : j = i
      · subst hj
        rw [hi] at e1; cases e1
        rw [List.getElem?_set_self hiσ] at e2
        cases e2
        exact ⟨u, r, .inl ⟨hk, by simp⟩⟩
      · rw [List.getElem?_set_ne (Ne.symm hj)] at e2
        obtain ⟨u', r', q⟩ := hl j y v' e1 e2 e3
        refine ⟨u', r', ?_⟩
        rcases q with ⟨k, e⟩ | ⟨k, c, e, z⟩
        · refine .inl ⟨k, ?_⟩
          have : y ≠ x := fun e => hj (nodup_ix hN e1 (e ▸ hi))
          simp [this, e]
        · exact .inr ⟨k, c, e, z.sameBut hs (cne y c e)⟩
    · obtain ⟨w', z⟩ := I.cell y c e
      exact ⟨w', z.sameBut hs (cne y c e)⟩
    · obtain ⟨e, n, ne, nf, d⟩ := I.pin p hp
      exact ⟨(hs.2 p.1 ne).trans e, n, ne, nf, d⟩
  · have hfn : X.fn x = true := by
      rcases hf with z | z
      · exact z
      · rw [z] at hk; cases hk
    obtain ⟨c, hc⟩ := I.ok.has x (.inl hk)
    obtain ⟨w', z⟩ := I.cell x c hc
    refine wpAny_storeName_cell I.ok.kind hk hc z (fun h' hc' hs => ?_)
    obtain ⟨oc, hoc, hocd⟩ := id z
    refine h { s with heap := h' } ⟨I.ok, I.os, I.bare, ⟨fun b o e n hb hx => ?_, fun b o e n hb hx => ?_, I.base.free, fun b o e hx => ?_, I.base.tups, I.base.frzs, I.base.tbls⟩, ⟨m, hn.sameBut hs (Ne.symm (cne x c hc)), fun j y v' e1 e2 e3 => ?_⟩, fun y c' e => ?_, I.free, I.freeC, fun p hp => ?_, tracked ⟨oc, hoc, I.freeC x c hc⟩ hs, by simpa using I.len⟩ ⟨c, hs, .inr hc⟩
    · exact (hs.2 b (Nat.ne_of_lt (Nat.lt_of_lt_of_le (Heap.lt_size e) (I.ok.cab x c hfn hc)))).trans (I.base.keep b o e n hb hx)
    · obtain ⟨sl, e1⟩ := I.base.slot b o e n hb hx
      exact ⟨sl, (hs.2 b (Nat.ne_of_lt (Nat.lt_of_lt_of_le (Heap.lt_size e) (I.ok.cab x c hfn hc)))).trans e1⟩
    · obtain ⟨o', e1⟩ := I.base.there b o e hx
      exact ⟨o', (hs.2 b (Nat.ne_of_lt (Nat.lt_of_lt_of_le (Heap.lt_size e) (I.ok.cab x c hfn hc)))).trans e1⟩
    · by_cases hj : j = i
      · subst hj
        rw [hi] at e1; cases e1
        rw [List.getElem?_set_self hiσ] at e2
        cases e2
        exact ⟨u, r, .inr ⟨.inl hk, c, hc, hc'⟩⟩
      · rw [List.getElem?_set_ne (Ne.symm hj)] at e2
        obtain ⟨u', r', q⟩ := hl j y v' e1 e2 e3
        refine ⟨u', r', ?_⟩
        rcases q with q | ⟨k, c', e, z'⟩
        · exact .inl q
        · refine .inr ⟨k, c', e, z'.sameBut hs ?_⟩
          rintro rfl
          exact hj (nodup_ix hN e1 (I.ok.inj _ _ _ e hc ▸ hi))
    · by_cases hcc : c' = c
      · subst hcc; exact ⟨_, hc'⟩
      · obtain ⟨w2, z2⟩ := I.cell y c' e
        exact ⟨w2, z2.sameBut hs hcc⟩
    · obtain ⟨e, n, ne, nf, d⟩ := I.pin p hp
      refine ⟨(hs.2 p.1 ?_).trans e, n, ne, nf, d⟩
      intro q
      rw [q, hoc] at e
      have q' : oc = p.2 := Option.some.inj e
      exact d w' (by rw [← q']; exact hocd)
theorem store_ok {M : Model} {A : Around} {E : Value → Shared → Prop} {i : Nat} {x : Str} {v : V} {u : Value} {Q : Unit → Shared → Prop} (I : Inv X pins σ H s) (hN : X.N.Nodup) (hi : X.N[i]? = some x) (hx : Loc X.env.scope x) (r : RelV v u)
    (h : ∀ s', Inv X pins (σ.set i (some v)) H s' → Q () s') (hf : X.fn x = true ∨ X.env.scope.names.lookup x = some .local := by first | exact .inl rfl | exact .inr rfl | assumption) : wpAny M A (storeName X.env x u) Q E s :=
  store_ok2 I hN hi hx r (fun s' I' _ => h s' I') hf
/-- behind a call or a block, the state as it is -/
theorem Inv.call' {s' : Shared} {ch : List Addr} (I : Inv X pins σ H s) (ho : s'.os = s.os) (u : Un (frs X.stack) ch H H' s.heap s'.heap) (hok : HOk X.prog X.w H' s'.heap) (hg : AllBare s'.gens)
    (hch : ∀ b ∈ ch, (b ∈ X.ex ∨ X.s₀.heap.objs.size ≤ b) ∧ b ≠ X.env.locals ∧ (∀ x c, X.env.cells.lookup x = some c → c ≠ b) ∧ ∀ p ∈ X.pn ++ pins, p.1 ≠ b) : Inv X pins σ H' s' := by
  obtain ⟨h', g', d', t', o'⟩ := s'
  have e : o' = s.os := ho
  subst e
  exact I.call (g' := g') (t' := t') (d' := d') u hok hg hch
end

/-! ### the judgements -/
/-- an exception: its class, its own dict's address (where it has one), the abstract heap behind it -/
abbrev XK := Value → Option Addr → Hp → Prop
abbrev St := List (Option V)
abbrev VK := V → Hp → Prop
/-- an expression's reading; a test's; an argument list's -/
abbrev TE := St → Hp → VK → Prop
abbrev TT := St → Hp → (Bool → Hp → Prop) → Prop
abbrev TA := St → Hp → (List V → Hp → Prop) → Prop
/-- what is wanted behind a statement -/
structure Ends where
  nx : St → Hp → Prop
  rt : VK
  bk : St → Hp → Prop := fun _ _ => False
  ct : St → Hp → Prop := fun _ _ => False
abbrev TS := Ends → St → Hp → Prop

def EP (X : Cx) (pins : List (Addr × Obj)) (σ : St) (Q : VK) (u : Value) (s' : Shared) : Prop := ∃ v H', Inv X pins σ H' s' ∧ RelV v u ∧ Q v H'
def TP (X : Cx) (pins : List (Addr × Obj)) (σ : St) (Q : Bool → Hp → Prop) (b : Bool) (s' : Shared) : Prop := ∃ H', Inv X pins σ H' s' ∧ Q b H'
def AP (X : Cx) (pins : List (Addr × Obj)) (σ : St) (Q : List V → Hp → Prop) (us : List Value) (s' : Shared) : Prop := ∃ vs H', Inv X pins σ H' s' ∧ Vals vs us ∧ Q vs H'
def SP (X : Cx) (pins : List (Addr × Obj)) (D : Ends) (f : Flow) (s' : Shared) : Prop :=
  match f with
  | .next => ∃ σ' H', Inv X pins σ' H' s' ∧ D.nx σ' H'
  | .brk => ∃ σ' H', Inv X pins σ' H' s' ∧ D.bk σ' H'
  | .cont => ∃ σ' H', Inv X pins σ' H' s' ∧ D.ct σ' H'
  | .ret u => ∃ v σ' H', Inv X pins σ' H' s' ∧ RelV v u ∧ D.rt v H'

def PE (X : Cx) (e : Expr) (t : TE) : Prop :=
  ∀ (pins : List (Addr × Obj)) (s : Shared) (σ : St) (H : Hp) (Q : VK), Inv X pins σ H s → t σ H Q → wpAny (model X.prog X.w) X.A (eval e X.env) (EP X pins σ Q) X.xe s
def PT (X : Cx) (e : Expr) (t : TT) : Prop :=
  ∀ (pins : List (Addr × Obj)) (s : Shared) (σ : St) (H : Hp) (Q : Bool → Hp → Prop), Inv X pins σ H s → t σ H Q → wpAny (model X.prog X.w) X.A (isTrue e X.env (eval e X.env)) (TP X pins σ Q) X.xe s
/-- a test whatever its 'whole' is (and, or) -/
def PW (X : Cx) (e : Expr) (t : TT) : Prop :=
  ∀ (whole : Sem Value) (pins : List (Addr × Obj)) (s : Shared) (σ : St) (H : Hp) (Q : Bool → Hp → Prop), Inv X pins σ H s → t σ H Q → wpAny (model X.prog X.w) X.A (isTrue e X.env whole) (TP X pins σ Q) X.xe s
theorem PW.pt {X : Cx} {e : Expr} {t : TT} (h : PW X e t) : PT X e t := h _
/-- an argument list (no star), from the left -/
def PA (X : Cx) (es : List Expr) (t : TA) : Prop :=
  ∀ (pos : Pos) (pins : List (Addr × Obj)) (s : Shared) (σ : St) (H : Hp) (Q : List V → Hp → Prop), Inv X pins σ H s → t σ H Q → wpAny (model X.prog X.w) X.A (spliced (backTo pos (starEach es X.env))) (AP X pins σ Q) X.xe s
def PS (X : Cx) (st : Stmt) (t : TS) : Prop :=
  ∀ (pins : List (Addr × Obj)) (s : Shared) (σ : St) (H : Hp) (D : Ends), Inv X pins σ H s → t D σ H → wpAny (model X.prog X.w) X.A (exec st X.env) (SP X pins D) X.xe s
def PSs (X : Cx) (st : List Stmt) (t : TS) : Prop :=
  ∀ (pins : List (Addr × Obj)) (s : Shared) (σ : St) (H : Hp) (D : Ends), Inv X pins σ H s → t D σ H → wpAny (model X.prog X.w) X.A (execs st X.env) (SP X pins D) X.xe s
/-- weaken the end -/
theorem thn {α : Type} {t : Sem α} {Q Q' : α → Shared → Prop} {M : Model} {A : Around} {E : Value → Shared → Prop} {s : Shared} (h : wpAny M A t Q E s) (hQ : ∀ a s, Q a s → Q' a s) : wpAny M A t Q' E s := wpAny_mono h hQ fun _ _ x => x
end L2

namespace L2
open PySem PySem.Spec PyProof.Rows
section
variable {X : Cx}

/-! ### names and constants -/
def tVar (i : Nat) : TE := fun σ H Q => ∃ v, σ[i]? = some (some v) ∧ Q v H
def tC (v : V) : TE := fun _ H Q => Q v H
theorem pe_var {i : Nat} {x : Str} {pos : Pos} (hN : X.N[i]? = some x) (hv : Vis X.env.scope x) (hd : (x == ("__debug__" : Str)) = false := by decide) (hcd : (x == ("__classdict__" : Str)) = false := by decide) : PE X (.Name x pos) (tVar i) := by
  intro pins s σ H Q I h
  obtain ⟨v, e, h⟩ := h
  obtain ⟨m, hn, hl⟩ := I.loc
  obtain ⟨u, r, l⟩ := hl i x v hN e hv
  have fin : EP X pins σ Q u s := ⟨v, H, I, r, h⟩
  rcases l with ⟨hk, hm⟩ | ⟨hk, c, hc, hcell⟩
  · exact wpAny_Name (wpAny_loadName_local I.ok.kind hk hn hm fin) hd
  · rcases hk with hk | hk
    · exact wpAny_Name (wpAny_loadName_cell I.ok.kind hk hc hcell fin) hd
    · exact wpAny_Name (wpAny_loadName_free I.ok.kind hk hc hcell fin hcd) hd
theorem pe_int {i j pos} : PE X (.Constant (.int i) j pos) (tC (.int i)) := fun _ _ _ H _ I h => wpAny_Constant_int ⟨.int i, H, I.tok _, ⟨_, rfl⟩, h⟩
theorem pe_bl {b j pos} : PE X (.Constant (.bool b) j pos) (tC (.bl b)) := fun _ _ _ H _ I h => Constant_bool ⟨.bl b, H, I, rfl, h⟩
theorem pe_str {x j pos} : PE X (.Constant (.str x) j pos) (tC (.str x)) := fun _ _ _ H _ I h => Calls.Constant_str ⟨.str x, H, I.tok _, ⟨_, rfl⟩, h⟩

/-- a global name of the def -/
def Gl (X : Cx) (x : Str) : Prop := X.env.kindOf x = some .globalImplicit
theorem ld_glob {E : Value → Shared → Prop} {pins : List (Addr × Obj)} {s : Shared} {σ : St} {H : Hp} {x : Str} {u : Value} {pos : Pos} {Q : Value → Shared → Prop} (I : Inv X pins σ H s) (hg : Gl X x) (hm : X.mg x = some u) (h : Q u s)
    (hd : (x == ("__debug__" : Str)) = false := by decide) : wpAny (model X.prog X.w) X.A (eval (.Name x pos) X.env) Q E s :=
  Calls.Name_function_global I.ok.kind hg (Calls.loadGlobal_global (by rw [I.ok.glob]; exact I.mod.glob.keeps I.bk) hm h) hd
theorem ld_blt {E : Value → Shared → Prop} {pins : List (Addr × Obj)} {s : Shared} {σ : St} {H : Hp} {x : Str} {u : Value} {pos : Pos} {Q : Value → Shared → Prop} (I : Inv X pins σ H s) (hg : Gl X x) (hm : X.mg x = none) (hv : bootBuiltins x = some u) (h : Q u s)
    (hn : x ≠ "__name__" := by decide) (hd : (x == ("__debug__" : Str)) = false := by decide) : wpAny (model X.prog X.w) X.A (eval (.Name x pos) X.env) Q E s := by
  obtain ⟨mb, h1, h2⟩ := I.mod.blt
  exact Calls.Name_function_global I.ok.kind hg (Calls.loadGlobal_builtin (by rw [I.ok.glob]; exact I.mod.glob.keeps I.bk) hm (by rw [I.ok.blt]; exact h1.keeps I.bk) ((h2 x hn).trans hv) h) hd
/-- a module's constant, a class, a function, as a value -/
theorem pe_glob {x : Str} {v : V} {u : Value} {pos : Pos} (hg : Gl X x) (hm : X.mg x = some u) (r : RelV v u) (hd : (x == ("__debug__" : Str)) = false := by decide) : PE X (.Name x pos) (tC v) :=
  fun _ _ _ H _ I h => ld_glob I hg hm ⟨v, H, I, r, h⟩ hd
theorem pe_bltn {x : Str} {v : V} {u : Value} {pos : Pos} (hg : Gl X x) (hm : X.mg x = none) (hv : bootBuiltins x = some u) (r : RelV v u) (hn : x ≠ "__name__" := by decide) (hd : (x == ("__debug__" : Str)) = false := by decide) : PE X (.Name x pos) (tC v) :=
  fun _ _ _ H _ I h => ld_blt I hg hm hv ⟨v, H, I, r, h⟩ hn hd

/-! ### arithmetic -/
/-- two ints -/
def t2I (ta tb : TE) (k : Int → Int → Hp → Prop) : St → Hp → Prop := fun σ H => ta σ H fun x H1 => tb σ H1 fun y H2 => ∃ i j, x = .int i ∧ y = .int j ∧ k i j H2
def tAdd (ta tb : TE) : TE := fun σ H Q => t2I ta tb (fun i j H2 => Q (.int (i + j)) H2) σ H
def tSub (ta tb : TE) : TE := fun σ H Q => t2I ta tb (fun i j H2 => Q (.int (i - j)) H2) σ H
/-- the left factor below 2^64 -/
def tMul (ta tb : TE) : TE := fun σ H Q => t2I ta tb (fun i j H2 => (-(2 ^ 64) < i ∧ i < 2 ^ 64) ∧ Q (.int (i * j)) H2) σ H
variable {a b : Expr} {ta tb : TE} {pos : Pos}
/-! ### comparisons -/
def PC (X : Cx) (op : CmpOp) (a b : Expr) (t : TE) : Prop :=
  ∀ (pins : List (Addr × Obj)) (s : Shared) (σ : St) (H : Hp) (Q : VK), Inv X pins σ H s → t σ H Q →
    wpAny (model X.prog X.w) X.A (eval a X.env) (fun v s₁ => wpAny (model X.prog X.w) X.A (eval b X.env) (fun u s₂ => wpAny (model X.prog X.w) X.A (compareOp op v u) (EP X pins σ Q) X.xe s₂) X.xe s₁) X.xe s
def tCmp (p : Int → Int → Bool) (ta tb : TE) : TE := fun σ H Q => t2I ta tb (fun i j H2 => Q (.bl (p i j)) H2) σ H
abbrev tLt : TE → TE → TE := tCmp fun i j => decide (i < j)
abbrev tLe : TE → TE → TE := tCmp fun i j => decide (i ≤ j)
abbrev tGt : TE → TE → TE := tCmp fun i j => decide (j < i)
abbrev tGe : TE → TE → TE := tCmp fun i j => decide (j ≤ i)
abbrev tEqI : TE → TE → TE := tCmp fun i j => decide (i = j)
abbrev tNeI : TE → TE → TE := tCmp fun i j => !decide (i = j)
/-- is None -/
def tIsN (ta : TE) : TE := fun σ H Q => ta σ H fun x H1 => Q (.bl (decide (x = .non))) H1
def tNotN (ta : TE) : TE := fun σ H Q => ta σ H fun x H1 => Q (.bl (!decide (x = .non))) H1
/-- a comparison as a value, as a test -/
def tB (t : TE) : TT := fun σ H Q => t σ H fun x H1 => ∃ c, x = .bl c ∧ Q c H1
theorem pt_cmp {op : CmpOp} {t : TE} (h : PC X op a b t) (h1 : behindInMarks op b = false := by first | exact nobehind _ (by decide) (by decide) | rfl) : PT X (.Compare a [op] [b] pos) (tB t) := by
  intro pins s σ H Q I hw
  refine wpAny_isTrue_Compare1 (thn (h pins s σ H _ I hw) fun v s1 h1 => thn h1 fun u s2 h2 => thn h2 fun c s3 ⟨x, H1, I1, r1, q1⟩ => ?_) h1
  obtain ⟨d, rfl, q⟩ := q1
  cases r1
  exact wpAny_truthy_bool ⟨H1, I1, q⟩
/-- an expression whose value is a bool, as a test -/
theorem pt_val {e : Expr} {t : TE} (h : PE X e t) (he : ∀ whole, isTrue e X.env whole = (do let v ← whole; standAt e.pos; holding [v] (truthy v)) := by intro _; rfl) : PT X e (tB t) := by
  intro pins s σ H Q I hw
  refine isTrue_plain (thn (h pins s σ H _ I hw) fun v s1 ⟨x, H1, I1, r1, q1⟩ => ?_) (he _)
  obtain ⟨d, rfl, q⟩ := q1
  cases r1
  exact wpAny_truthy_bool ⟨H1, I1, q⟩

/-! ### and, or, not -/
variable {tA tB' : TT} {rest : List Expr}
def tAnd (t u : TT) : TT := fun σ H Q => t σ H fun c H1 => if c = true then u σ H1 Q else Q false H1
def tOr (t u : TT) : TT := fun σ H Q => t σ H fun c H1 => if c = true then Q true H1 else u σ H1 Q
def tNot (t : TT) : TT := fun σ H Q => t σ H fun c H1 => Q (!c) H1
theorem pw_and1 (ha : PT X a tA) : PW X (.BoolOp .And [a] pos) tA := by
  intro wh pins s σ H Q I h
  refine isTrue_and (thn (ha pins s σ H Q I h) fun c s1 e => ?_)
  cases c with
  | true => exact isTrue_and_nil e
  | false => exact e
theorem pw_or1 (ha : PT X a tA) : PW X (.BoolOp .Or [a] pos) tA := by
  intro wh pins s σ H Q I h
  refine isTrue_or (thn (ha pins s σ H Q I h) fun c s1 e => ?_)
  cases c with
  | false => exact isTrue_or_nil e
  | true => exact e
theorem pw_and (ha : PT X a tA) (hb : PW X (.BoolOp .And (b :: rest) pos) tB') : PW X (.BoolOp .And (a :: b :: rest) pos) (tAnd tA tB') := by
  intro wh pins s σ H Q I h
  refine isTrue_and (thn (ha pins s σ H _ I h) fun c s1 ⟨H1, I1, q1⟩ => ?_)
  cases c with
  | true => exact hb wh pins s1 σ H1 Q I1 q1
  | false => exact ⟨H1, I1, q1⟩
theorem pw_or (ha : PT X a tA) (hb : PW X (.BoolOp .Or (b :: rest) pos) tB') : PW X (.BoolOp .Or (a :: b :: rest) pos) (tOr tA tB') := by
  intro wh pins s σ H Q I h
  refine isTrue_or (thn (ha pins s σ H _ I h) fun c s1 ⟨H1, I1, q1⟩ => ?_)
  cases c with
  | true => exact ⟨H1, I1, q1⟩
  | false => exact hb wh pins s1 σ H1 Q I1 q1
theorem pt_not (ha : PT X a tA) : PT X (.UnaryOp .Not a pos) (tNot tA) := by
  intro pins s σ H Q I h
  exact isTrue_not (ha pins s σ H (fun c H1 => Q (!c) H1) I h)
/-- .. as values (bools) -/
def tAndV (ta tb : TE) : TE := fun σ H Q => ta σ H fun x H1 => ∃ c, x = .bl c ∧ if c = true then tb σ H1 Q else Q (.bl false) H1
def tOrV (ta tb : TE) : TE := fun σ H Q => ta σ H fun x H1 => ∃ c, x = .bl c ∧ if c = true then Q (.bl true) H1 else tb σ H1 Q
def tNotV (ta : TE) : TE := fun σ H Q => ta σ H fun x H1 => ∃ c, x = .bl c ∧ Q (.bl (!c)) H1
theorem pe_one {op} {t : TE} (h : PE X a t) : PE X (.BoolOp op [a] pos) t := fun pins s σ H Q I hw => BoolOp_one (h pins s σ H Q I hw)
theorem pe_and (ha : PE X a ta) (hb : PE X (.BoolOp .And (b :: rest) pos) tb) : PE X (.BoolOp .And (a :: b :: rest) pos) (tAndV ta tb) := by
  intro pins s σ H Q I h
  refine BoolOp_and (thn (ha pins s σ H _ I h) fun v s1 ⟨x, H1, I1, r1, q1⟩ => ?_)
  obtain ⟨c, rfl, q1⟩ := q1
  cases r1
  refine wpAny_truthy_bool ?_
  cases c with
  | true => exact hb pins s1 σ H1 Q I1 q1
  | false => exact ⟨.bl false, H1, I1, rfl, q1⟩
theorem pe_or (ha : PE X a ta) (hb : PE X (.BoolOp .Or (b :: rest) pos) tb) : PE X (.BoolOp .Or (a :: b :: rest) pos) (tOrV ta tb) := by
  intro pins s σ H Q I h
  refine BoolOp_or (thn (ha pins s σ H _ I h) fun v s1 ⟨x, H1, I1, r1, q1⟩ => ?_)
  obtain ⟨c, rfl, q1⟩ := q1
  cases r1
  refine wpAny_truthy_bool ?_
  cases c with
  | false => exact hb pins s1 σ H1 Q I1 q1
  | true => exact ⟨.bl true, H1, I1, rfl, q1⟩
/-- a if t else b -/
def tIf (t : TT) (ta tb : TE) : TE := fun σ H Q => t σ H fun c H1 => if c = true then ta σ H1 Q else tb σ H1 Q
theorem pe_ifExp {c : Expr} (hc : PT X c tA) (ha : PE X a ta) (hb : PE X b tb) : PE X (.IfExp c a b pos) (tIf tA ta tb) := by
  intro pins s σ H Q I h
  refine wpAny_IfExp (thn (hc pins s σ H _ I h) fun d s1 ⟨H1, I1, q1⟩ => ?_)
  cases d with
  | true => exact ha pins s1 σ H1 Q I1 q1
  | false => exact hb pins s1 σ H1 Q I1 q1
end
end L2

namespace L2
open PySem PySem.Spec PyProof.Rows

/-! ### a list, a tuple that is read: tracked, frozen, or an object of the module -/
def SqL (K : PySem.W.Frag) (H : Hp) (a : Addr) (xs : List V) : Prop :=
  Rd H a (.lst xs) ∨
    ∃ (o : Obj) (its : Array Value) (n : Nat), K.lookup a = some o ∧ o.cls = .type "list" ∧ o.dict = none ∧ o.data = .seq its n ∧ its.size ≤ sizeLine ∧ Vals xs its.toList
def SqT (K : PySem.W.Frag) (H : Hp) (a : Addr) (xs : List V) : Prop :=
  Rd H a (.tup xs) ∨
    ∃ (o : Obj) (its : Array Value) (n : Nat), K.lookup a = some o ∧ o.cls = .type "tuple" ∧ o.data = .seq its n ∧ its.size ≤ sizeLine ∧ Vals xs its.toList
def absV : Value → Option V
  | .none => some .non
  | .bool b => some (.bl b)
  | .int i _ => some (.int i)
  | .str x _ => some (.str x)
  | .bytes b _ => some (.byt b)
  | .float b _ => some (.flt b)
  | .ref a => some (.ref a)
  | .type n => some (.ty n)
  | _ => none
theorem RelV.abs {x : V} {u : Value} (r : RelV x u) : absV u = some x := by
  cases x with
  | non => cases r; rfl
  | bl _ => cases r; rfl
  | int _ => obtain ⟨t, rfl⟩ := r; rfl
  | str _ => obtain ⟨t, rfl⟩ := r; rfl
  | byt _ => obtain ⟨t, rfl⟩ := r; rfl
  | flt _ => obtain ⟨t, rfl⟩ := r; rfl
  | ref _ => cases r; rfl
  | ty _ => cases r; rfl
theorem RelV.inj {x y : V} {u : Value} (r : RelV x u) (q : RelV y u) : x = y := Option.some.inj (r.abs.symm.trans q.abs)
theorem Vals.inj : ∀ {xs ys : List V} {us : List Value}, Vals xs us → Vals ys us → xs = ys
  | _, _, _, .nil, .nil => rfl
  | _, _, _, .cons r t, .cons r' t' => by rw [r.inj r', Vals.inj t t']
section
variable {X : Cx} {pins : List (Addr × Obj)} {σ : St} {H : Hp} {s : Shared} {a : Addr} {xs ys : List V}
theorem SqL.of {K : PySem.W.Frag} (h : H a = some (.lst xs)) : SqL K H a xs := .inl (.inl h)
theorem SqT.of {K : PySem.W.Frag} (h : H a = some (.tup xs)) : SqT K H a xs := .inl (.inl h)
theorem Inv.list (I : Inv X pins σ H s) (h : SqL X.K H a xs) : ∃ its : List Value, Vals xs its ∧ PlainL s.heap a its.toArray ∧ xs.length ≤ sizeLine := by
  rcases h with h | ⟨o, its, n, hk, hc, hd, hs, hz, r⟩
  · obtain ⟨z, its, n, r, e⟩ := h.ok I.hok
    exact ⟨its, r, ⟨_, n, e, rfl, rfl, rfl⟩, z⟩
  · refine ⟨its.toList, r, ⟨o, n, I.kIn a o hk, hc, hd, by simpa using hs⟩, ?_⟩
    have e := r.length
    simp only [Array.length_toList] at e
    omega
theorem Inv.tuple (I : Inv X pins σ H s) (h : SqT X.K H a xs) : ∃ its : List Value, Vals xs its ∧ IsTup s.heap a its.toArray ∧ xs.length ≤ sizeLine := by
  rcases h with h | ⟨o, its, n, hk, hc, hs, hz, r⟩
  · obtain ⟨z, its, r, p⟩ := h.ok I.hok
    exact ⟨its, r, p, z⟩
  · refine ⟨its.toList, r, ⟨o, I.kIn a o hk, hc, n, by simpa using hs⟩, ?_⟩
    have e := r.length
    simp only [Array.length_toList] at e
    omega
theorem Inv.list_inj (I : Inv X pins σ H s) (h : SqL X.K H a xs) (h' : SqL X.K H a ys) : xs = ys := by
  obtain ⟨its, r, ⟨o, n, e, _, _, d⟩, _⟩ := I.list h
  obtain ⟨its', r', ⟨o', n', e', _, _, d'⟩, _⟩ := I.list h'
  rw [e] at e'; cases e'
  rw [d] at d'
  injection d' with d1 _
  have : its = its' := by simpa using congrArg Array.toList d1
  subst this
  exact r.inj r'
theorem Inv.tuple_inj (I : Inv X pins σ H s) (h : SqT X.K H a xs) (h' : SqT X.K H a ys) : xs = ys := by
  obtain ⟨its, r, ⟨o, e, _, n, d⟩, _⟩ := I.tuple h
  obtain ⟨its', r', ⟨o', e', _, n', d'⟩, _⟩ := I.tuple h'
  rw [e] at e'; cases e'
  rw [d] at d'
  injection d' with d1 _
  have : its = its' := by simpa using congrArg Array.toList d1
  subst this
  exact r.inj r'
end

/-! ### another wish about exceptions -/
abbrev Cx.wish (X : Cx) (E : Value → Shared → Prop) : Cx := { X with xe := E }
/-- no exception leaves -/
abbrev Cx.nox (X : Cx) : Cx := X.wish fun _ _ => False
theorem Cx.Ok.wish {X : Cx} (ok : X.Ok) (E : Value → Shared → Prop) : (X.wish E).Ok :=
  ⟨ok.mod, ok.kind, ok.glob, ok.blt, ok.above, ok.inj, ok.has, ok.cab, ok.hd, ok.frames, ok.stk, ok.exf, ok.bs, ok.bsz, ok.noex, ok.exfs, ok.funs, ok.frf⟩
theorem Cx.Ok.unwish {X : Cx} {E : Value → Shared → Prop} (ok : (X.wish E).Ok) : X.Ok :=
  ⟨ok.mod, ok.kind, ok.glob, ok.blt, ok.above, ok.inj, ok.has, ok.cab, ok.hd, ok.frames, ok.stk, ok.exf, ok.bs, ok.bsz, ok.noex, ok.exfs, ok.funs, ok.frf⟩
section
variable {X : Cx} {pins : List (Addr × Obj)} {σ : St} {H : Hp} {s : Shared} {E : Value → Shared → Prop}
theorem Inv.wish (I : Inv X pins σ H s) (E : Value → Shared → Prop) : Inv (X.wish E) pins σ H s := ⟨I.ok.wish E, I.os, I.bare, I.base, I.loc, I.cell, I.free, I.freeC, I.pin, I.hok, I.len⟩
theorem Inv.unwish (I : Inv (X.wish E) pins σ H s) : Inv X pins σ H s := ⟨I.ok.unwish, I.os, I.bare, I.base, I.loc, I.cell, I.free, I.freeC, I.pin, I.hok, I.len⟩
theorem SP.unwish {D : Ends} {f : Flow} {s' : Shared} (h : SP (X.wish E) pins D f s') : SP X pins D f s' := by
  cases f with
  | next => obtain ⟨σ', H', I, q⟩ := h; exact ⟨σ', H', I.unwish, q⟩
  | brk => obtain ⟨σ', H', I, q⟩ := h; exact ⟨σ', H', I.unwish, q⟩
  | cont => obtain ⟨σ', H', I, q⟩ := h; exact ⟨σ', H', I.unwish, q⟩
  | ret u => obtain ⟨v, σ', H', I, r, q⟩ := h; exact ⟨v, σ', H', I.unwish, r, q⟩
theorem PSs.nox {st : List Stmt} {t : TS} (h : PSs X.nox st t) : PSs X st t := fun pins s σ H D I hw =>
  wpAny_mono (h pins s σ H D (I.wish _) hw) (fun _ _ q => q.unwish) fun _ _ z => False.elim z
end

/-! ### blocks and small statements -/
section
variable {X : Cx} {st : Stmt} {rest : List Stmt} {t u : TS} {e : Expr} {te : TE} {pos : Pos}
def tNext : TS := fun D σ H => D.nx σ H
def tSeq (t u : TS) : TS := fun D σ H => t { D with nx := u D } σ H
theorem pss_nil : PSs X [] tNext := fun _ _ σ H _ I h => wpAny_execs_nil ⟨σ, H, I, h⟩
theorem pss_cons (h1 : PS X st t) (h2 : PSs X rest u) : PSs X (st :: rest) (tSeq t u) := by
  intro pins s σ H D I h
  refine wpAny_execs_cons (thn (h1 pins s σ H { D with nx := u D } I h) fun f s1 q => ?_)
  cases f with
  | next =>
    obtain ⟨σ', H', I', q⟩ := q
    exact h2 pins s1 σ' H' D I' q
  | ret v => exact q
  | brk => exact q
  | cont => exact q
theorem pss_one (h1 : PS X st t) : PSs X [st] t := by
  intro pins s σ H D I h
  refine wpAny_execs_cons (thn (h1 pins s σ H D I h) fun f s1 q => ?_)
  cases f with
  | next => exact wpAny_execs_nil q
  | ret v => exact q
  | brk => exact q
  | cont => exact q
def tBreak : TS := fun D σ H => D.bk σ H
def tCont : TS := fun D σ H => D.ct σ H
/-- in a def's body nothing is shown -/
theorem Inv.quiet {pins : List (Addr × Obj)} {σ : St} {H : Hp} {s : Shared} (I : Inv X pins σ H s) : interactive X.env = false := by simp [interactive, I.ok.kind]
/-- an expression whose value is dropped -/
def tDrop (te : TE) : TS := fun D σ H => te σ H fun _ H1 => D.nx σ H1
theorem ps_expr (he : PE X e te) (hs : swapsWith e none pos.line X.env = pure false := by rfl) : PS X (.Expr e pos) (tDrop te) := by
  intro pins s σ H D I h
  exact wpAny_Expr_any (thn (he pins s σ H _ I h) fun v s1 ⟨x, H1, I1, r1, q1⟩ => ⟨σ, H1, I1, q1⟩) I.quiet hs
def tRet (te : TE) : TS := fun D σ H => te σ H D.rt
theorem ps_ret (he : PE X e te) : PS X (.Return (some e) pos) (tRet te) := by
  intro pins s σ H D I h
  exact wpAny_Return_some (thn (he pins s σ H _ I h) fun v s1 ⟨x, H1, I1, r1, q1⟩ => ⟨x, σ, H1, I1, r1, q1⟩)
def tRetN : TS := fun D _ H => D.rt .non H
def tIfS (c : TT) (t u : TS) : TS := fun D σ H => c σ H fun b H1 => if b = true then t D σ H1 else u D σ H1
theorem ps_if {c : Expr} {a b : List Stmt} {tc : TT} (hc : PT X c tc) (ha : PSs X a t) (hb : PSs X b u) : PS X (.If c a b pos) (tIfS tc t u) := by
  intro pins s σ H D I h
  refine wpAny_If (thn (hc pins s σ H _ I h) fun d s1 ⟨H1, I1, q1⟩ => ?_)
  cases d with
  | true => exact ha pins s1 σ H1 D I1 q1
  | false => exact hb pins s1 σ H1 D I1 q1
/-- code that the proof never comes to -/
def tNever : TS := fun _ _ _ => False
end

/-! ### targets -/
abbrev TG := V → St → Hp → (St → Hp → Prop) → Prop
abbrev TGs := List V → St → Hp → (St → Hp → Prop) → Prop
def PG (X : Cx) (target : Expr) (t : TG) : Prop :=
  ∀ (pins : List (Addr × Obj)) (s : Shared) (σ : St) (H : Hp) (v : V) (u : Value) (Q : St → Hp → Prop), Inv X pins σ H s → RelV v u → t v σ H Q →
    wpAny (model X.prog X.w) X.A (assign target X.env u) (fun _ s' => ∃ σ' H', Inv X pins σ' H' s' ∧ Q σ' H') X.xe s
/-- several targets, one after another -/
def PGs (X : Cx) (ts : List Expr) (t : TGs) : Prop :=
  ∀ (pins : List (Addr × Obj)) (s : Shared) (σ : St) (H : Hp) (vs : List V) (us : List Value) (Q : St → Hp → Prop), Inv X pins σ H s → Vals vs us → t vs σ H Q →
    wpAny (model X.prog X.w) X.A (assignInOrder ((assignEach ts X.env).map (·.2)) us) (fun _ s' => ∃ σ' H', Inv X pins σ' H' s' ∧ Q σ' H') X.xe s
/-- o[i] = v, by values -/
abbrev TSet := V → V → V → Hp → (Hp → Prop) → Prop
def PSet (X : Cx) (t : TSet) : Prop :=
  ∀ (pins : List (Addr × Obj)) (s : Shared) (σ : St) (H : Hp) (o i v : V) (ov iv u : Value) (Q : Hp → Prop), Inv X pins σ H s → RelV o ov → RelV i iv → RelV v u → t o i v H Q →
    wpAny (model X.prog X.w) X.A (setItem ov iv u) (fun _ s' => ∃ H', Inv X pins σ H' s' ∧ Q H') X.xe s
/-- a op= b, by values -/
abbrev TIp := V → V → Hp → VK → Prop
def PIp (X : Cx) (op : Operator) (t : TIp) : Prop :=
  ∀ (pins : List (Addr × Obj)) (s : Shared) (σ : St) (H : Hp) (x y : V) (v u : Value) (Q : VK), Inv X pins σ H s → RelV x v → RelV y u → t x y H Q →
    wpAny (model X.prog X.w) X.A (inplaceOp op v u) (EP X pins σ Q) X.xe s
section
variable {X : Cx} {pos : Pos}
def gName (i : Nat) : TG := fun v σ H Q => Q (σ.set i (some v)) H
theorem pg_name {i : Nat} {x : Str} (hN : X.N.Nodup) (hi : X.N[i]? = some x) (hx : Loc X.env.scope x) (hf : X.fn x = true ∨ X.env.scope.names.lookup x = some .local := by first | exact .inl rfl | exact .inr rfl | assumption) : PG X (.Name x pos) (gName i) := by
  intro pins s σ H v u Q I r h
  exact wpAny_assign_Name (store_ok I hN hi hx r (fun s' I' => ⟨_, H, I', h⟩) hf)
def gNil : TGs := fun vs σ H Q => vs = [] ∧ Q σ H
def gCons (t : TG) (u : TGs) : TGs := fun vs σ H Q => ∃ v r, vs = v :: r ∧ t v σ H fun σ' H' => u r σ' H' Q
theorem pgs_nil : PGs X [] gNil := by
  intro pins s σ H vs us Q I r h
  obtain ⟨e, h⟩ := h
  subst e
  cases r
  exact assignInOrder_nil ⟨σ, H, I, h⟩
theorem pgs_cons {e : Expr} {es : List Expr} {t : TG} {u : TGs} (h1 : PG X e t) (h2 : PGs X es u)
    (hs : (assignEach (e :: es) X.env).map (·.2) = assign e X.env :: (assignEach es X.env).map (·.2) := by rfl) : PGs X (e :: es) (gCons t u) := by
  intro pins s σ H vs us Q I r h
  obtain ⟨v, vr, e1, h⟩ := h
  subst e1
  cases r with
  | cons r rr =>
    rw [hs]
    refine assignInOrder_cons (thn (h1 pins s σ H _ _ _ I r h) fun _ s1 ⟨σ1, H1, I1, q1⟩ => ?_)
    exact h2 pins s1 σ1 H1 _ _ Q I1 rr q1
/-- (a, b, ..) = a tuple of that length -/
def gTup (K : PySem.W.Frag) (n : Nat) (t : TGs) : TG := fun v σ H Q => ∃ a xs, v = .ref a ∧ SqT K H a xs ∧ xs.length = n ∧ t xs σ H Q
theorem pg_tup {es : List Expr} {k : Nat} {t : TGs} {n : Nat} (hc : X.calm = true) (h : PGs X es t)
    (hn : (assignEach es X.env).length = n := by rfl) (hst : (assignEach es X.env).findIdx? (·.1) = none := by rfl) : PG X (.Tuple es k pos) (gTup X.K n t) := by
  intro pins s σ H v u Q I r hw
  obtain ⟨a, xs, e1, hq, hl, hw⟩ := hw
  subst e1
  cases r
  obtain ⟨its, rv, ht, hz⟩ := I.tuple hq
  refine assign_Tuple_tuple (I.ok.hd hc) ht (by simp [hn, ← hl, rv.length]) hst fun h' hx => ?_
  have I1 : Inv X pins σ H { s with heap := h' } := I.kept (t' := s.toks) fun b o e => hx b o (Nat.ne_of_lt (Heap.lt_size e)) e
  exact h pins _ σ H xs _ Q I1 (by simpa using rv) hw
/-- o[i] = .. -/
def gSub (to ti : TE) (t : TSet) : TG := fun v σ H Q => to σ H fun o H1 => ti σ H1 fun i H2 => t o i v H2 fun H3 => Q σ H3
theorem pg_sub {o i : Expr} {to ti : TE} {t : TSet} (ho : PE X o to) (hi : PE X i ti) (hs : PSet X t)
    (ha : ∀ v, assign (.Subscript o i pos) X.env v = (do
      let ov ← holding [v] (eval o X.env)
      let iv ← holding [v, ov] (eval i X.env)
      standAt pos
      holding [v, ov, iv] (setItem ov iv v)
      release [v, ov, iv] []) := by intro _; rfl) : PG X (.Subscript o i pos) (gSub to ti t) := by
  intro pins s σ H v u Q I r h
  rw [ha]
  refine wpAny_bind (wpAny_holding (thn (ho pins s σ H _ I h) fun ov s1 ⟨x, H1, I1, r1, q1⟩ => ?_))
  refine wpAny_bind (wpAny_holding (thn (hi pins s1 σ H1 _ I1 q1) fun iv s2 ⟨y, H2, I2, r2, q2⟩ => ?_))
  refine wpAny_bind (wpAny_standAt (wpAny_bind (wpAny_holding (thn (hs pins s2 σ H2 x y v ov iv u _ I2 r1 r2 r q2) fun _ s3 ⟨H3, I3, q3⟩ => ?_))))
  exact wpAny_release ⟨σ, H3, I3, q3⟩
/-- target = value -/
def tAsg (te : TE) (g : TG) : TS := fun D σ H => te σ H fun x H1 => g x σ H1 D.nx
theorem ps_asg {tg e : Expr} {te : TE} {g : TG} (he : PE X e te) (hg : PG X tg g) (hs : swapsWithSole [tg] e pos.line X.env = pure false := by rfl) (hw : swappedStores [tg] e X.env = pure none := by rfl)
    (h1 : (assignEach [tg] X.env).map (·.2) = [assign tg X.env] := by rfl) : PS X (.Assign [tg] e pos) (tAsg te g) := by
  intro pins s σ H D I h
  refine wpAny_Assign_stores (thn (he pins s σ H _ I h) fun v s1 ⟨x, H1, I1, r1, q1⟩ => ?_) hs hw
  rw [h1]
  exact thn (hg pins s1 σ H1 x v _ I1 r1 q1) fun _ s2 q => q
/-- name = value -/
theorem ps_set {i : Nat} {x : Str} {e : Expr} {te : TE} {pos' : Pos} (hN : X.N.Nodup) (hi : X.N[i]? = some x) (hx : Loc X.env.scope x) (he : PE X e te) (hs : swapsWith e (some (.Name x pos')) pos.line X.env = pure false := by rfl) (hf : X.fn x = true ∨ X.env.scope.names.lookup x = some .local := by first | exact .inl rfl | exact .inr rfl | assumption) :
    PS X (.Assign [.Name x pos'] e pos) (tAsg te (gName i)) := by
  intro pins s σ H D I h
  refine wpAny_Assign_Name (thn (he pins s σ H _ I h) fun v s1 ⟨y, H1, I1, r1, q1⟩ => ?_) hs
  exact store_ok I1 hN hi hx r1 (fun s2 I2 => ⟨_, H1, I2, q1⟩) hf
/-- a, b = x, y with plain local names: stored from the right; the pair itself is not tracked (the opening rows as in PyProof/Rows/TupAssign.lean:23) -/
def tPar (i j : Nat) (ta : TA) : TS := fun D σ H => ta σ H fun vs H1 => ∃ v w, vs = [v, w] ∧ D.nx ((σ.set i (some v)).set j (some w)) H1
/-- name op= e -/
def tAug (i : Nat) (te : TE) (ti : TIp) : TS := fun D σ H => ∃ x, σ[i]? = some (some x) ∧ te σ H fun y H1 => ti x y H1 fun z H2 => D.nx (σ.set i (some z)) H2
/-- o[i] op= e -/
def tAugS (to ti te : TE) (tget : V → V → Hp → VK → Prop) (tip : TIp) (tset : TSet) : TS := fun D σ H => to σ H fun o H1 => ti σ H1 fun i H2 => tget o i H2 fun x H3 => te σ H3 fun y H4 => tip x y H4 fun z H5 => tset o i z H5 fun H6 => D.nx σ H6
/-- o[i], by values -/
def PGet (X : Cx) (t : V → V → Hp → VK → Prop) : Prop :=
  ∀ (pins : List (Addr × Obj)) (s : Shared) (σ : St) (H : Hp) (o i : V) (ov iv : Value) (Q : VK), Inv X pins σ H s → RelV o ov → RelV i iv → t o i H Q →
    wpAny (model X.prog X.w) X.A (getItem ov iv) (EP X pins σ Q) X.xe s
/-- ints -/
def ipI (f : Int → Int → Int) : TIp := fun x y H Q => ∃ i j, x = .int i ∧ y = .int j ∧ Q (.int (f i j)) H
end

/-! ### while -/
section
variable {X : Cx} {pos : Pos}
/-- the invariant W with its measure -/
def tWhile (c : TT) (tb : TS) : TS := fun D σ H => ∃ W : Nat → St → Hp → Prop, (∃ m, W m σ H) ∧ ∀ m σ H, W m σ H →
  c σ H fun b H1 => if b = true then ∃ N : St → Hp → Prop, (∀ σ' H', N σ' H' → ∃ m', m' < m ∧ W m' σ' H') ∧ tb { D with nx := N, ct := N, bk := D.nx } σ H1 else D.nx σ H1
end

/-! ### what a loop or a comprehension walks -/
/-- at turn i: it yields x (the heap may grow), or it stops -/
structure It where
  go : Nat → Hp → Prop
  yld : Nat → Hp → V → Hp → Prop
  stop : Nat → Hp → Prop
/-- the iterator's own objects may turn: they are not the frame's, not pinned, younger than the entry (or a comprehension's own) -/
def FpOk (X : Cx) (pins : List (Addr × Obj)) (H : Hp) (b : Addr) : Prop :=
  H b = none ∧ b ≠ X.env.locals ∧ b ∉ X.fs ∧ (b ∈ X.ex ∨ X.s₀.heap.objs.size ≤ b) ∧ (∀ x c, X.env.cells.lookup x = some c → c ≠ b) ∧ ∀ p ∈ X.pn ++ pins, p.1 ≠ b
theorem Inv.fpOk {X : Cx} {pins : List (Addr × Obj)} {σ : St} {H H' : Hp} {s : Shared} {b : Addr} (I : Inv X pins σ H s) (hb : s.heap.objs.size ≤ b) (hn : H' b = none) : FpOk X pins H' b := by
  refine ⟨hn, Nat.ne_of_gt (Nat.lt_of_lt_of_le I.lt hb), I.nofs hb, .inr (Nat.le_trans I.sz hb), fun x c e z => ?_, fun p hp z => ?_⟩
  · obtain ⟨v, q⟩ := I.cell x c e
    exact absurd (Nat.lt_of_lt_of_le q.lt (by rw [z]; exact hb)) (Nat.lt_irrefl _)
  · exact absurd (Nat.lt_of_lt_of_le (Heap.lt_size (I.pin p hp).1) (by rw [z]; exact hb)) (Nat.lt_irrefl _)
structure Turn (P : Program) (w : World) (K : PySem.W.Frag) (tg : Expr) (J : It) (fp : List Addr) (it : Addr) (tn : Nat → Heap → Prop) : Prop where
  mem : it ∈ fp
  obj : ∀ i h, tn i h → ∀ b ∈ fp, ∃ o, h.get? b = some o ∧ ∀ v, o.data ≠ .cell v
  keep : ∀ i h h', tn i h → (∀ b ∈ fp, ∀ o, h.get? b = some o → h'.get? b = some o) → tn i h'
  item : ∀ (X : Cx), X.prog = P → X.w = w → X.K = K → X.calm = true → ∀ (i : Nat) (pins : List (Addr × Obj)) (s : Shared) (σ : St) (H : Hp) (E : Value → Shared → Prop), Inv X pins σ H s → (∀ b ∈ fp, FpOk X pins H b) → tn i s.heap → J.go i H →
    wpAny (model P w) X.A (pyNext (.ref it)) (fun r s1 => ∃ u, r = some u ∧
      wpAny (model P w) X.A (letOwnedTupleGo tg (.ref it) u) (fun _ s2 => ∃ x H', Inv X pins σ H' s2 ∧ RelV x u ∧ J.yld i H x H' ∧ tn (i + 1) s2.heap ∧ ∀ b ∈ fp, H' b = none) E s1) E s
  done : ∀ (X : Cx), X.prog = P → X.w = w → X.K = K → X.calm = true → ∀ (i : Nat) (pins : List (Addr × Obj)) (s : Shared) (σ : St) (H : Hp) (E : Value → Shared → Prop), Inv X pins σ H s → (∀ b ∈ fp, FpOk X pins H b) → tn i s.heap → J.stop i H →
    wpAny (model P w) X.A (pyNext (.ref it)) (fun r s1 => r = none ∧ Inv X pins σ H s1) E s
  self : ∀ (A : Around) (i : Nat) (s : Shared) (Q : Value → Shared → Prop) (E : Value → Shared → Prop), tn i s.heap → Q (.ref it) s → wpAny (model P w) A (pyIter (.ref it)) Q E s
abbrev TI := St → Hp → (It → Hp → Prop) → Prop
/-- an iterator has come -/
def PIE (X : Cx) (pins : List (Addr × Obj)) (σ : St) (tg : Expr) (R : It → Hp → Prop) (itv : Value) (s2 : Shared) : Prop :=
  ∃ (it : Addr) (fp : List Addr) (tn : Nat → Heap → Prop) (J : It) (H' : Hp), itv = .ref it ∧ Inv X pins σ H' s2 ∧ Turn X.prog X.w X.K tg J fp it tn ∧ tn 0 s2.heap ∧ (∀ b ∈ fp, FpOk X pins H' b) ∧ R J H'
def PI (X : Cx) (tg iter : Expr) (wi : TI) : Prop :=
  ∀ (pins : List (Addr × Obj)) (s : Shared) (σ : St) (H : Hp) (R : It → Hp → Prop), Inv X pins σ H s → wi σ H R →
    wpAny (model X.prog X.w) X.A (eval iter X.env) (fun v s1 => wpAny (model X.prog X.w) X.A (pyIter v) (PIE X pins σ tg R) X.xe s1) X.xe s

/-- the step ahead of the store is nothing for an iterator that keeps no tuple -/
theorem go_of {M : Model} {A : Around} {E : Value → Shared → Prop} {s : Shared} {tg : Expr} {it : Addr} {u : Value} {o : Obj} {n : String} {vs : Array Value} {Q : Unit → Shared → Prop} (ho : s.heap.get? it = some o) (hc : o.cls = .type n) (hd : o.data = .fields vs)
    (hn : ["enumerate", "zip", "dict_itemiterator", "dict_reverseitemiterator", "odict_iterator", "itertools.zip_longest", "itertools.pairwise"].contains n = false) (hQ : Q () s) : wpAny M A (letOwnedTupleGo tg (.ref it) u) Q E s := by
  unfold letOwnedTupleGo
  cases tg <;> first
    | exact wpAny_pure hQ
    | (cases u <;> first
        | exact wpAny_pure hQ
        | (refine wpAny_bind (wpAny_load ho ?_)
           rw [hc, hd]
           show wpAny M A (if (["enumerate", "zip", "dict_itemiterator", "dict_reverseitemiterator", "odict_iterator", "itertools.zip_longest", "itertools.pairwise"].contains n && vs[0]? == some (rawInt _)) = true then _ else _) Q E s
           rw [if_neg (by intro h; rw [hn, Bool.false_and] at h; cases h)]
           exact wpAny_pure hQ))

/-- the list at a, as it stands at each turn (a loop may append to it) -/
def Itl (K : PySem.W.Frag) (a : Addr) : It :=
  ⟨fun i H => ∃ xs x, SqL K H a xs ∧ xs[i]? = some x, fun i H x H' => H' = H ∧ ∀ xs, SqL K H a xs → xs[i]? = some x, fun i H => ∃ xs, SqL K H a xs ∧ xs.length ≤ i⟩
def Itt (K : PySem.W.Frag) (a : Addr) : It :=
  ⟨fun i H => ∃ xs x, SqT K H a xs ∧ xs[i]? = some x, fun i H x H' => H' = H ∧ ∀ xs, SqT K H a xs → xs[i]? = some x, fun i H => ∃ xs, SqT K H a xs ∧ xs.length ≤ i⟩
/-- lo, lo + 1, .. (n of them) -/
def Itr (lo : Int) (n : Nat) : It := ⟨fun i _ => i < n, fun i H x H' => H' = H ∧ x = .int (lo + i), fun i _ => n ≤ i⟩
theorem turn_list {P : Program} {w : World} {K : PySem.W.Frag} {tg : Expr} (a it : Addr) : Turn P w K tg (Itl K a) [it] it (fun i h => h.IsListIter it a i) where
  mem := by simp
  obj := fun i h st b hb => by
    have e : b = it := by simpa using hb
    subst e
    obtain ⟨o, e, c, d⟩ := st
    exact ⟨o, e, fun v z => by rw [d] at z; cases z⟩
  keep := fun i h h' st k => st.at fun o e => k it (by simp) o e
  item := by
    intro X hP hw hK hc i pins s σ H E I hf st hg
    subst hP hw hK
    obtain ⟨xs, x, hq, hx⟩ := hg
    obtain ⟨its, rv, p, hz⟩ := I.list hq
    obtain ⟨u, hu, ru⟩ := rv.get hx
    obtain ⟨f0, f1, f2, f3, f4, f5⟩ := hf it (by simp)
    refine wpAny_pyNext_list_item st p.isList (x := u) (by simpa using hu) fun h' st' sb => ?_
    have I1 : Inv X pins σ H { s with heap := h' } := I.turned (t' := s.toks) (fun b o hb e => (sb.2 b hb).trans e) f0 f1 f3 f4 f5
    obtain ⟨o, e, c, d⟩ := id st'
    exact ⟨u, rfl, go_of (s := { s with heap := h' }) e c d (by decide) ⟨x, H, I1, ru, ⟨rfl, fun ys hy => by rw [I.list_inj hy hq]; exact hx⟩, st', fun b hb => (hf b hb).1⟩⟩
  done := by
    intro X hP hw hK hc i pins s σ H E I hf st hg
    subst hP hw hK
    obtain ⟨xs, hq, hx⟩ := hg
    obtain ⟨its, rv, p, hz⟩ := I.list hq
    obtain ⟨f0, f1, f2, f3, f4, f5⟩ := hf it (by simp)
    have hl := rv.length
    exact wpAny_pyNext_list_end (I.ok.hd hc) st p.isList (by simp; omega) fun h' eb => ⟨rfl, I.turned (t' := s.toks) (fun b o hb e => eb b o hb e) f0 f1 f3 f4 f5⟩
  self := fun _ _ _ _ _ st h => wpAny_pyIter_listiter st h
theorem turn_tuple {P : Program} {w : World} {K : PySem.W.Frag} {tg : Expr} (a it : Addr) : Turn P w K tg (Itt K a) [it] it (fun i h => h.IsTupleIter it a i) where
  mem := by simp
  obj := fun i h st b hb => by
    have e : b = it := by simpa using hb
    subst e
    obtain ⟨o, e, c, d⟩ := st
    exact ⟨o, e, fun v z => by rw [d] at z; cases z⟩
  keep := fun i h h' st k => st.at fun o e => k it (by simp) o e
  item := by
    intro X hP hw hK hc i pins s σ H E I hf st hg
    subst hP hw hK
    obtain ⟨xs, x, hq, hx⟩ := hg
    obtain ⟨its, rv, p, hz⟩ := I.tuple hq
    obtain ⟨u, hu, ru⟩ := rv.get hx
    obtain ⟨f0, f1, f2, f3, f4, f5⟩ := hf it (by simp)
    refine wpAny_pyNext_tuple_item st (show s.heap.IsTuple a its.toArray from p) (x := u) (by simpa using hu) fun h' st' sb => ?_
    have I1 : Inv X pins σ H { s with heap := h' } := I.turned (t' := s.toks) (fun b o hb e => (sb.2 b hb).trans e) f0 f1 f3 f4 f5
    obtain ⟨o, e, c, d⟩ := id st'
    exact ⟨u, rfl, go_of (s := { s with heap := h' }) e c d (by decide) ⟨x, H, I1, ru, ⟨rfl, fun ys hy => by rw [I.tuple_inj hy hq]; exact hx⟩, st', fun b hb => (hf b hb).1⟩⟩
  done := by
    intro X hP hw hK hc i pins s σ H E I hf st hg
    subst hP hw hK
    obtain ⟨xs, hq, hx⟩ := hg
    obtain ⟨its, rv, p, hz⟩ := I.tuple hq
    obtain ⟨f0, f1, f2, f3, f4, f5⟩ := hf it (by simp)
    have hl := rv.length
    exact wpAny_pyNext_tuple_end (I.ok.hd hc) st (show s.heap.IsTuple a its.toArray from p) (by simp; omega) fun h' eb => ⟨rfl, I.turned (t' := s.toks) (fun b o hb e => eb b o hb e) f0 f1 f3 f4 f5⟩
  self := fun _ _ _ _ _ st h => wpAny_pyIter_tupleiter st h
theorem turn_range {P : Program} {w : World} {K : PySem.W.Frag} {tg : Expr} (it : Addr) (lo : Int) (n : Nat) : Turn P w K tg (Itr lo n) [it] it (fun i h => IsRangeIter h it (lo + (i : Nat) * 1) ((n : Int) - (i : Nat)) 1) where
  mem := by simp
  obj := fun i h st b hb => by
    have e : b = it := by simpa using hb
    subst e
    exact ⟨_, st, fun v z => by
      have z' : Data.fields _ = Data.cell v := z
      cases z'⟩
  keep := fun i h h' st k => k it (by simp) _ st
  item := by
    intro X hP hw hK hc i pins s σ H E I hf st hg
    subst hP hw hK
    obtain ⟨f0, f1, f2, f3, f4, f5⟩ := hf it (by simp)
    have W := Walks.range (prog := X.prog) (w := X.w) (I.ok.hd hc) it lo 1 n
    refine W.item i s _ _ hg st fun v h' tk hv st' kk => ?_
    obtain ⟨t, rfl⟩ := hv
    have I1 : Inv X pins σ H { s with heap := h', toks := tk } := I.turned (fun b o hb e => kk b o (by simpa using hb) e) f0 f1 f3 f4 f5
    refine ⟨_, rfl, go_of (s := { s with heap := h', toks := tk }) (n := "range_iterator") st' rfl rfl (by decide) ⟨.int (lo + i), H, I1, ⟨t, ?_⟩, ⟨rfl, rfl⟩, st', fun b hb => (hf b hb).1⟩⟩
    rw [Int.mul_one]
  done := by
    intro X hP hw hK hc i pins s σ H E I hf st hg
    subst hP hw hK
    obtain ⟨f0, f1, f2, f3, f4, f5⟩ := hf it (by simp)
    exact wpAny_pyNext_range_end (I.ok.hd hc) st (by have : n ≤ i := hg; omega) fun h' eb => ⟨rfl, I.turned (t' := s.toks) (fun b o hb e => eb b o hb e) f0 f1 f3 f4 f5⟩
  self := fun _ _ _ _ _ st h => wpAny_pyIter_rangeiter st h
end L2

namespace L2
open PySem PySem.Spec PyProof.Rows
section
variable {X : Cx} {tg : Expr}
def iList (K : PySem.W.Frag) (tl : TE) : TI := fun σ H R => tl σ H fun x H1 => ∃ a, x = .ref a ∧ (∃ xs, SqL K H1 a xs) ∧ R (Itl K a) H1
def iTup (K : PySem.W.Frag) (tl : TE) : TI := fun σ H R => tl σ H fun x H1 => ∃ a, x = .ref a ∧ (∃ xs, SqT K H1 a xs) ∧ R (Itt K a) H1
theorem pi_list {l : Expr} {tl : TE} (hl : PE X l tl) : PI X tg l (iList X.K tl) := by
  intro pins s σ H R I h
  refine thn (hl pins s σ H _ I h) fun v s1 ⟨x, H1, I1, r1, q1⟩ => ?_
  obtain ⟨a, e, ⟨xs, hq⟩, q⟩ := q1
  subst e
  cases r1
  obtain ⟨its, rv, p, hz⟩ := I1.list hq
  refine wpAny_pyIter_list p.isList ?_
  refine ⟨s1.heap.objs.size, [s1.heap.objs.size], _, _, H1, rfl, I1.kept (t' := s1.toks) fun b o e => Heap.get?_push_of_some _ e, turn_list a _, ⟨_, Heap.get?_push_size _ rfl, rfl, rfl⟩, fun b hb => ?_, q⟩
  have e : b = s1.heap.objs.size := by simpa using hb
  subst e
  exact I1.fpOk (Nat.le_refl _) (I1.hok.fresh (Nat.le_refl _))
theorem pi_tup {l : Expr} {tl : TE} (hl : PE X l tl) : PI X tg l (iTup X.K tl) := by
  intro pins s σ H R I h
  refine thn (hl pins s σ H _ I h) fun v s1 ⟨x, H1, I1, r1, q1⟩ => ?_
  obtain ⟨a, e, ⟨xs, hq⟩, q⟩ := q1
  subst e
  cases r1
  obtain ⟨its, rv, p, hz⟩ := I1.tuple hq
  refine wpAny_pyIter_tuple (show s1.heap.IsTuple a its.toArray from p) ?_
  refine ⟨s1.heap.objs.size, [s1.heap.objs.size], _, _, H1, rfl, I1.kept (t' := s1.toks) fun b o e => Heap.get?_push_of_some _ e, turn_tuple a _, ⟨_, Heap.get?_push_size _ rfl, rfl, rfl⟩, fun b hb => ?_, q⟩
  have e : b = s1.heap.objs.size := by simpa using hb
  subst e
  exact I1.fpOk (Nat.le_refl _) (I1.hok.fresh (Nat.le_refl _))
/-- a range object just made, walked -/
theorem range_it {pins : List (Addr × Obj)} {σ : St} {H : Hp} {s : Shared} {R : It → Hp → Prop} {E : Value → Shared → Prop} {lo hi : Int} {t u v : Tok} {tk : Nat} (I : Inv X pins σ H s) (h1 : -(2 ^ 62) ≤ lo) (h2 : lo < 2 ^ 62) (h3 : -(2 ^ 62) ≤ hi) (h4 : hi < 2 ^ 62)
    (q : R (Itr lo (hi - lo).toNat) H) : wpAny (model X.prog X.w) X.A (pyIter (.ref s.heap.objs.size)) (PIE X pins σ tg R) E { s with heap := s.heap.push { cls := .type "range", data := .fields #[.int lo t, .int hi u, .int 1 v] }, toks := tk } := by
  refine wpAny_pyIter_range (IsRange.new ..) (small_one h1 h2 h3 h4) ?_
  have I1 : Inv X pins σ H { s with heap := s.heap.push { cls := .type "range", data := .fields #[.int lo t, .int hi u, .int 1 v] }, toks := tk } := I.kept fun b o e => Heap.get?_push_of_some _ e
  refine ⟨(s.heap.push { cls := .type "range", data := .fields #[.int lo t, .int hi u, .int 1 v] }).objs.size, [(s.heap.push { cls := .type "range", data := .fields #[.int lo t, .int hi u, .int 1 v] }).objs.size], _, _, H, rfl,
    I1.kept (t' := tk) fun b o e => Heap.get?_push_of_some _ e, turn_range _ lo (hi - lo).toNat, ?_, fun b hb => ?_, q⟩
  · have e1 : lo + ((0 : Nat) : Int) * 1 = lo := by simp
    have e2 : (((hi - lo).toNat : Nat) : Int) - ((0 : Nat) : Int) = Builtin.Range.rangeSize lo hi 1 := by rw [rangeSize_one]; split <;> omega
    show IsRangeIter _ _ (lo + ((0 : Nat) : Int) * 1) ((((hi - lo).toNat : Nat) : Int) - ((0 : Nat) : Int)) 1
    rw [e1, e2]
    exact Heap.get?_push_size _ rfl
  · have e : b = (s.heap.push { cls := .type "range", data := .fields #[.int lo t, .int hi u, .int 1 v] }).objs.size := by simpa using hb
    subst e
    exact I1.fpOk (Nat.le_refl _) (I1.hok.fresh (Nat.le_refl _))
def iRng1 (ta : TA) : TI := fun σ H R => ta σ H fun vs H1 => ∃ j : Int, vs = [.int j] ∧ -(2 ^ 62) ≤ j ∧ j < 2 ^ 62 ∧ R (Itr 0 j.toNat) H1
def iRng2 (ta : TA) : TI := fun σ H R => ta σ H fun vs H1 => ∃ i j : Int, vs = [.int i, .int j] ∧ (-(2 ^ 62) ≤ i ∧ i < 2 ^ 62 ∧ -(2 ^ 62) ≤ j ∧ j < 2 ^ 62) ∧ R (Itr i (j - i).toNat) H1
theorem pi_range1 {a : Expr} {ta : TA} {p pos : Pos} (hg : Gl X "range") (hm : X.mg "range" = none) (ha : PA X [a] ta) (hs : starEach [a] X.env = [(false, eval a X.env)] := by rfl) : PI X tg (.Call (.Name "range" p) [a] [] pos) (iRng1 ta) := by
  intro pins s σ H R I h
  refine Call_ (ld_blt I hg hm boot_range (PyProof.Rows.callWith_type1 (thn (ha pos pins s σ H _ I h) fun us s1 ⟨vs, H1, I1, r1, q1⟩ => ?_) hs rfl))
  obtain ⟨j, e, q1, q2, q⟩ := q1
  subst e
  cases r1 with
  | cons r rr =>
    cases rr
    obtain ⟨t, rfl⟩ := r
    exact call_range_1 (range_it I1 (by omega) (by omega) q1 q2 (by simpa using q))
/-! ### for -/
/-- W: the invariant by the turn and a measure; N: what the body is to reach -/
def tFor (wi : TI) (g : TG) (tb : TS) : TS := fun D σ H => wi σ H fun J H1 => ∃ W : Nat → Nat → St → Hp → Prop, (∃ m, W 0 m σ H1) ∧ ∀ i m σ H, W i m σ H →
  (J.stop i H ∧ D.nx σ H) ∨ (J.go i H ∧ ∃ N : St → Hp → Prop, (∀ σ' H', N σ' H' → ∃ m', m' < m ∧ W (i + 1) m' σ' H') ∧ ∀ x H', J.yld i H x H' → g x σ H' fun σ2 H2 => tb { D with nx := N, ct := N, bk := D.nx } σ2 H2)
/-- the records at fp as they stand -/
def pinsAt (fp : List Addr) (h : Heap) : List (Addr × Obj) := fp.filterMap fun b => (h.get? b).map fun o => (b, o)
theorem mem_pinsAt {fp : List Addr} {h : Heap} {b : Addr} {o : Obj} (hb : b ∈ fp) (e : h.get? b = some o) : (b, o) ∈ pinsAt fp h := List.mem_filterMap.mpr ⟨b, hb, by rw [e]; rfl⟩
theorem of_pinsAt {fp : List Addr} {h : Heap} {p : Addr × Obj} (hp : p ∈ pinsAt fp h) : p.1 ∈ fp ∧ h.get? p.1 = some p.2 := by
  obtain ⟨b, hb, e⟩ := List.mem_filterMap.mp hp
  cases q : h.get? b with
  | none => rw [q] at e; cases e
  | some o =>
    rw [q] at e
    have e' : (b, o) = p := Option.some.inj e
    subst e'
    exact ⟨hb, q⟩
theorem Inv.pinned {pins : List (Addr × Obj)} {σ : St} {H : Hp} {s : Shared} {fp : List Addr} (I : Inv X pins σ H s) (hf : ∀ b ∈ fp, FpOk X pins H b) (ho : ∀ b ∈ fp, ∃ o, s.heap.get? b = some o ∧ ∀ v, o.data ≠ .cell v) : Inv X (pins ++ pinsAt fp s.heap) σ H s :=
  I.pins_of fun p hp => (List.mem_append.mp hp).elim (fun z => I.pin p (List.mem_append_right _ z)) fun z => by
    obtain ⟨hb, e⟩ := of_pinsAt z
    obtain ⟨f0, f1, f2, _⟩ := hf p.1 hb
    obtain ⟨o, e', d⟩ := ho p.1 hb
    rw [e] at e'; cases e'
    exact ⟨e, f0, f1, f2, d⟩
theorem Inv.unpinned {pins pl : List (Addr × Obj)} {σ : St} {H : Hp} {s : Shared} (I : Inv X (pins ++ pl) σ H s) : Inv X pins σ H s := I.pins_of fun p hp => I.pin p (List.mem_append_right _ (List.mem_append_left _ hp))
theorem ps_for {iter : Expr} {body : List Stmt} {wi : TI} {g : TG} {tb : TS} {pos : Pos} (hp : PassesOwn (model X.prog X.w) X.A X.env X.xe) (hc : X.calm = true) (hi : PI X tg iter wi) (hg : PG X tg g) (hb : PSs X body tb)
    (hs : ∀ x, foldedSetIterable iter X.env x = pure x := by intro _; rfl) : PS X (.For tg iter body [] pos) (tFor wi g tb) := by
  intro pins s σ H D I h
  refine wpAny_For (thn (hi pins s σ H _ I h) fun v s1 h1 => thn h1 fun itv s2 h2 => ?_) hs
  obtain ⟨it, fp, tn, J, H2, e, I2, T, st2, f2, W, ⟨m0, w0⟩, turn⟩ := h2
  subst e
  -- what stays true of the iterator's objects through the loop
  have stat : ∀ {H' : Hp}, (∀ b ∈ fp, H' b = none) → ∀ b ∈ fp, FpOk X pins H' b := fun hn b hb => ⟨hn b hb, (f2 b hb).2⟩
  refine codeAny_forLoop_any (fun n s' => ∃ i σ' H', Inv X pins σ' H' s' ∧ tn i s'.heap ∧ (∀ b ∈ fp, H' b = none) ∧ W i n σ' H') ?_ m0 ⟨0, σ, H2, I2, st2, fun b hb => (f2 b hb).1, w0⟩
  rintro n s3 ⟨i, σ3, H3, I3, st3, fr3, w3⟩
  rcases turn i n σ3 H3 w3 with ⟨stop, qn⟩ | ⟨go, N, hN, step⟩
  · refine wpAny_passesOwn hp (thn (T.done X rfl rfl rfl hc i pins s3 σ3 H3 X.xe I3 (stat fr3) st3 stop) fun r s4 ⟨hr, I4⟩ => ?_)
    subst hr
    exact wpAny_execs_nil ⟨σ3, H3, I4, qn⟩
  · refine wpAny_passesOwn hp (thn (T.item X rfl rfl rfl hc i pins s3 σ3 H3 X.xe I3 (stat fr3) st3 go) fun r s4 ⟨u, hr, h4⟩ => ?_)
    subst hr
    refine wpAny_passesOwn hp (thn h4 fun _ s5 ⟨x, H5, I5, r5, y5, st5, fr5⟩ => ?_)
    have I5' := I5.pinned (stat fr5) (T.obj _ _ st5)
    refine wpAny_passesOwn hp (thn (hg _ s5 σ3 H5 x u _ I5' r5 (step x H5 y5)) fun _ s6 ⟨σ6, H6, I6, q6⟩ => ?_)
    refine wpAny_passesOwn hp (thn (hb _ s6 σ6 H6 _ I6 q6) fun f s7 q7 => ?_)
    have again : ∀ {σ7 : St} {H7 : Hp}, Inv X (pins ++ pinsAt fp s5.heap) σ7 H7 s7 → N σ7 H7 → ∃ m, m < n ∧ ∃ i σ' H', Inv X pins σ' H' s7 ∧ tn i s7.heap ∧ (∀ b ∈ fp, H' b = none) ∧ W i m σ' H' := fun {σ7 H7} I7 n7 => by
      obtain ⟨m', hm, w7⟩ := hN σ7 H7 n7
      refine ⟨m', hm, i + 1, σ7, H7, I7.unpinned, T.keep _ _ _ st5 fun b hb o e => (I7.pin (b, o) (List.mem_append_right _ (List.mem_append_right _ (mem_pinsAt hb e)))).1, fun b hb => ?_, w7⟩
      obtain ⟨o, e, d⟩ := T.obj _ _ st5 b hb
      exact (I7.pin (b, o) (List.mem_append_right _ (List.mem_append_right _ (mem_pinsAt hb e)))).2.1
    cases f with
    | next => obtain ⟨σ7, H7, I7, n7⟩ := q7; exact again I7 n7
    | cont => obtain ⟨σ7, H7, I7, n7⟩ := q7; exact again I7 n7
    | brk => obtain ⟨σ7, H7, I7, q7⟩ := q7; exact ⟨σ7, H7, I7.unpinned, q7⟩
    | ret v => obtain ⟨x7, σ7, H7, I7, r7, q7⟩ := q7; exact ⟨x7, σ7, H7, I7.unpinned, r7, q7⟩
end

/-! ### the forms one uses -/
/-- over a list that the body leaves as it is -/
theorem for_list {K : PySem.W.Frag} {a : Addr} {xs : List V} {g : TG} {tb : TS} {D : Ends} {σ : St} {H : Hp} (Pv : Nat → St → Hp → Prop) (h0 : Pv 0 σ H) (hl : ∀ i σ H, i ≤ xs.length → Pv i σ H → SqL K H a xs)
    (hs : ∀ i x σ H, xs[i]? = some x → Pv i σ H → g x σ H fun σ2 H2 => tb { D with nx := Pv (i + 1), ct := Pv (i + 1), bk := D.nx } σ2 H2) (hd : ∀ σ H, Pv xs.length σ H → D.nx σ H) :
    ∃ W : Nat → Nat → St → Hp → Prop, (∃ m, W 0 m σ H) ∧ ∀ i m σ H, W i m σ H →
      ((Itl K a).stop i H ∧ D.nx σ H) ∨ ((Itl K a).go i H ∧ ∃ N : St → Hp → Prop, (∀ σ' H', N σ' H' → ∃ m', m' < m ∧ W (i + 1) m' σ' H') ∧ ∀ x H', (Itl K a).yld i H x H' → g x σ H' fun σ2 H2 => tb { D with nx := N, ct := N, bk := D.nx } σ2 H2) := by
  refine ⟨fun i m σ H => m = xs.length - i ∧ i ≤ xs.length ∧ Pv i σ H, ⟨xs.length, by simp, Nat.zero_le _, h0⟩, ?_⟩
  rintro i m σ H ⟨rfl, hi, p⟩
  have q := hl i σ H hi p
  by_cases hlt : i < xs.length
  · refine .inr ⟨⟨xs, xs[i], q, by simp [hlt]⟩, Pv (i + 1), fun σ' H' p' => ⟨xs.length - (i + 1), by omega, rfl, hlt, p'⟩, fun x H' y => ?_⟩
    obtain ⟨e, y⟩ := y
    subst e
    exact hs i x σ _ (y xs q) p
  · have e : i = xs.length := by omega
    subst e
    exact .inl ⟨⟨xs, q, Nat.le_refl _⟩, hd σ H p⟩
theorem for_tup {K : PySem.W.Frag} {a : Addr} {xs : List V} {g : TG} {tb : TS} {D : Ends} {σ : St} {H : Hp} (Pv : Nat → St → Hp → Prop) (h0 : Pv 0 σ H) (hl : ∀ i σ H, i ≤ xs.length → Pv i σ H → SqT K H a xs)
    (hs : ∀ i x σ H, xs[i]? = some x → Pv i σ H → g x σ H fun σ2 H2 => tb { D with nx := Pv (i + 1), ct := Pv (i + 1), bk := D.nx } σ2 H2) (hd : ∀ σ H, Pv xs.length σ H → D.nx σ H) :
    ∃ W : Nat → Nat → St → Hp → Prop, (∃ m, W 0 m σ H) ∧ ∀ i m σ H, W i m σ H →
      ((Itt K a).stop i H ∧ D.nx σ H) ∨ ((Itt K a).go i H ∧ ∃ N : St → Hp → Prop, (∀ σ' H', N σ' H' → ∃ m', m' < m ∧ W (i + 1) m' σ' H') ∧ ∀ x H', (Itt K a).yld i H x H' → g x σ H' fun σ2 H2 => tb { D with nx := N, ct := N, bk := D.nx } σ2 H2) := by
  refine ⟨fun i m σ H => m = xs.length - i ∧ i ≤ xs.length ∧ Pv i σ H, ⟨xs.length, by simp, Nat.zero_le _, h0⟩, ?_⟩
  rintro i m σ H ⟨rfl, hi, p⟩
  have q := hl i σ H hi p
  by_cases hlt : i < xs.length
  · refine .inr ⟨⟨xs, xs[i], q, by simp [hlt]⟩, Pv (i + 1), fun σ' H' p' => ⟨xs.length - (i + 1), by omega, rfl, hlt, p'⟩, fun x H' y => ?_⟩
    obtain ⟨e, y⟩ := y
    subst e
    exact hs i x σ _ (y xs q) p
  · have e : i = xs.length := by omega
    subst e
    exact .inl ⟨⟨xs, q, Nat.le_refl _⟩, hd σ H p⟩
theorem for_range {lo : Int} {n : Nat} {g : TG} {tb : TS} {D : Ends} {σ : St} {H : Hp} (Pv : Nat → St → Hp → Prop) (h0 : Pv 0 σ H)
    (hs : ∀ i σ H, i < n → Pv i σ H → g (.int (lo + i)) σ H fun σ2 H2 => tb { D with nx := Pv (i + 1), ct := Pv (i + 1), bk := D.nx } σ2 H2) (hd : ∀ σ H, Pv n σ H → D.nx σ H) :
    ∃ W : Nat → Nat → St → Hp → Prop, (∃ m, W 0 m σ H) ∧ ∀ i m σ H, W i m σ H →
      ((Itr lo n).stop i H ∧ D.nx σ H) ∨ ((Itr lo n).go i H ∧ ∃ N : St → Hp → Prop, (∀ σ' H', N σ' H' → ∃ m', m' < m ∧ W (i + 1) m' σ' H') ∧ ∀ x H', (Itr lo n).yld i H x H' → g x σ H' fun σ2 H2 => tb { D with nx := N, ct := N, bk := D.nx } σ2 H2) := by
  refine ⟨fun i m σ H => m = n - i ∧ i ≤ n ∧ Pv i σ H, ⟨n, by simp, Nat.zero_le _, h0⟩, ?_⟩
  rintro i m σ H ⟨rfl, hi, p⟩
  by_cases hlt : i < n
  · refine .inr ⟨hlt, Pv (i + 1), fun σ' H' p' => ⟨n - (i + 1), by omega, rfl, hlt, p'⟩, fun x H' y => ?_⟩
    obtain ⟨e, y⟩ := y
    subst e y
    exact hs i σ _ hlt p
  · have e : i = n := by omega
    subst e
    exact .inl ⟨Nat.le_refl _, hd σ H p⟩
end L2

namespace L2
open PySem PySem.Spec PyProof.Rows

abbrev R2 := V → V → Hp → VK → Prop
/-- a two-place operation on values: f is binaryOp op, inplaceOp op or compareOp op -/
def OpR (X : Cx) (f : Value → Value → Sem Value) (r : R2) : Prop :=
  ∀ (pins : List (Addr × Obj)) (s : Shared) (σ : St) (H : Hp) (x y : V) (v u : Value) (Q : VK), Inv X pins σ H s → RelV x v → RelV y u → r x y H Q →
    wpAny (model X.prog X.w) X.A (f v u) (EP X pins σ Q) X.xe s
/-- a one-place operation -/
def UnR (X : Cx) (f : Value → Sem Value) (r : V → Hp → VK → Prop) : Prop :=
  ∀ (pins : List (Addr × Obj)) (s : Shared) (σ : St) (H : Hp) (x : V) (v : Value) (Q : VK), Inv X pins σ H s → RelV x v → r x H Q →
    wpAny (model X.prog X.w) X.A (f v) (EP X pins σ Q) X.xe s
/-- a call of a value that is known (a builtin, a type) with values -/
def CallR (X : Cx) (f : Value) (r : List V → Hp → VK → Prop) : Prop :=
  ∀ (pins : List (Addr × Obj)) (s : Shared) (σ : St) (H : Hp) (xs : List V) (us : List Value) (Q : VK), Inv X pins σ H s → Vals xs us → r xs H Q →
    wpAny (model X.prog X.w) X.A (call f us) (EP X pins σ Q) X.xe s
/-- a value's truth -/
def TruR (X : Cx) (r : V → Hp → (Bool → Hp → Prop) → Prop) : Prop :=
  ∀ (pins : List (Addr × Obj)) (s : Shared) (σ : St) (H : Hp) (x : V) (v : Value) (Q : Bool → Hp → Prop), Inv X pins σ H s → RelV x v → r x H Q →
    wpAny (model X.prog X.w) X.A (truthy v) (TP X pins σ Q) X.xe s

def tOp (r : R2) (ta tb : TE) : TE := fun σ H Q => ta σ H fun x H1 => tb σ H1 fun y H2 => r x y H2 Q
def tUn (r : V → Hp → VK → Prop) (ta : TE) : TE := fun σ H Q => ta σ H fun x H1 => r x H1 Q
/-- ints in, under C, and a value out -/
def rI (C : Int → Int → Prop) (g : Int → Int → V) : R2 := fun x y H Q => ∃ i j, x = .int i ∧ y = .int j ∧ C i j ∧ Q (g i j) H
def rI0 (g : Int → Int → V) : R2 := fun x y H Q => ∃ i j, x = .int i ∧ y = .int j ∧ Q (g i j) H
def rU (g : Int → V) : V → Hp → VK → Prop := fun x H Q => ∃ i, x = .int i ∧ Q (g i) H

section
variable {X : Cx} {a b c : Expr} {ta tb tc : TE} {pos : Pos}

theorem binT (ha : PE X a ta) (hb : PE X b tb) {pins : List (Addr × Obj)} {s : Shared} {σ : St} {H : Hp} {R : V → V → Hp → Prop} (I : Inv X pins σ H s)
    (h : ta σ H fun x H1 => tb σ H1 fun y H2 => R x y H2) {Q : Value → Shared → Prop} {f : Value → Value → Sem Value}
    (hf : ∀ v u s2 x y H2, Inv X pins σ H2 s2 → RelV x v → RelV y u → R x y H2 → wpAny (model X.prog X.w) X.A (f v u) Q X.xe s2) :
    wpAny (model X.prog X.w) X.A (eval a X.env) (fun v s₁ => wpAny (model X.prog X.w) X.A (eval b X.env) (fun u s₂ => wpAny (model X.prog X.w) X.A (f v u) Q X.xe s₂) X.xe s₁) X.xe s := by
  refine thn (ha pins s σ H _ I h) fun v s1 ⟨x, H1, I1, r1, q1⟩ => ?_
  refine thn (hb pins s1 σ H1 _ I1 q1) fun u s2 ⟨y, H2, I2, r2, q2⟩ => ?_
  exact hf v u s2 x y H2 I2 r1 r2 q2

theorem pe_op {op : Operator} {r : R2} (ho : OpR X (binaryOp op) r) (ha : PE X a ta) (hb : PE X b tb) : PE X (.BinOp a op b pos) (tOp r ta tb) := by
  intro pins s σ H Q I h
  exact wpAny_BinOp (binT ha hb I h fun v u s2 x y H2 I2 rx ry q => ho pins s2 σ H2 x y v u Q I2 rx ry q)
theorem pe_un {op : UnaryOp} {r : V → Hp → VK → Prop} (ho : UnR X (unaryOp op) r) (ha : PE X a ta) : PE X (.UnaryOp op a pos) (tUn r ta) := by
  intro pins s σ H Q I h
  exact UnaryOp_ (thn (ha pins s σ H _ I h) fun v s1 ⟨x, H1, I1, r1, q1⟩ => ho pins s1 σ H1 x v Q I1 r1 q1)
/-! ### ints -/
theorem opI {f : Value → Value → Sem Value} {C : Int → Int → Prop} {g : Int → Int → Int}
    (rule : ∀ (i j : Int) (t u : Tok) (s : Shared) (Q : Value → Shared → Prop) (E : Value → Shared → Prop), C i j → Q (.int (g i j) s.toks) { s with toks := s.toks + 1 } → wpAny (model X.prog X.w) X.A (f (.int i t) (.int j u)) Q E s) :
    OpR X f (rI C fun i j => .int (g i j)) := by
  intro pins s σ H x y v u Q I rx ry h
  obtain ⟨i, j, rfl, rfl, hc, q⟩ := h
  obtain ⟨t, rfl⟩ := rx
  obtain ⟨t', rfl⟩ := ry
  exact rule i j t t' s _ _ hc ⟨.int (g i j), H, I.tok _, ⟨_, rfl⟩, q⟩
theorem opI0 {f : Value → Value → Sem Value} {g : Int → Int → Int}
    (rule : ∀ (i j : Int) (t u : Tok) (s : Shared) (Q : Value → Shared → Prop) (E : Value → Shared → Prop), Q (.int (g i j) s.toks) { s with toks := s.toks + 1 } → wpAny (model X.prog X.w) X.A (f (.int i t) (.int j u)) Q E s) :
    OpR X f (rI0 fun i j => .int (g i j)) := by
  intro pins s σ H x y v u Q I rx ry h
  obtain ⟨i, j, rfl, rfl, q⟩ := h
  obtain ⟨t, rfl⟩ := rx
  obtain ⟨t', rfl⟩ := ry
  exact rule i j t t' s _ _ ⟨.int (g i j), H, I.tok _, ⟨_, rfl⟩, q⟩
theorem opB0 {f : Value → Value → Sem Value} {g : Int → Int → Bool}
    (rule : ∀ (i j : Int) (t u : Tok) (s : Shared) (Q : Value → Shared → Prop) (E : Value → Shared → Prop), Q (.bool (g i j)) s → wpAny (model X.prog X.w) X.A (f (.int i t) (.int j u)) Q E s) :
    OpR X f (rI0 fun i j => .bl (g i j)) := by
  intro pins s σ H x y v u Q I rx ry h
  obtain ⟨i, j, rfl, rfl, q⟩ := h
  obtain ⟨t, rfl⟩ := rx
  obtain ⟨t', rfl⟩ := ry
  exact rule i j t t' s _ _ ⟨.bl (g i j), H, I, rfl, q⟩

def CDiv (i j : Int) : Prop := 0 < j ∧ j < 1073741824
def CDivN (i j : Int) : Prop := j ≠ 0 ∧ j.natAbs < 1073741824
def CPow (i j : Int) : Prop := 0 ≤ j ∧ j ≤ 1000000 ∧ i.natAbs < 2 ^ 64
def CMul (i j : Int) : Prop := (-(2 ^ 64) < i ∧ i < 2 ^ 64) ∨ (-(2 ^ 64) < j ∧ j < 2 ^ 64)
theorem CMul.ok {i j : Int} (h : CMul i j) : IntMulOk i j := by
  rcases h with ⟨h1, h2⟩ | ⟨h1, h2⟩
  · exact .of_left (intBits_le_64 h1 h2)
  · exact .of_right (intBits_le_64 h1 h2)
theorem op_add : OpR X (binaryOp .Add) (rI0 fun i j => .int (i + j)) := opI0 fun _ _ _ _ _ _ _ q => add_int q
theorem op_sub : OpR X (binaryOp .Sub) (rI0 fun i j => .int (i - j)) := opI0 fun _ _ _ _ _ _ _ q => sub_int q
theorem op_mul : OpR X (binaryOp .Mult) (rI CMul fun i j => .int (i * j)) := opI fun _ _ _ _ _ _ _ hc q => mul_int q hc.ok
/-- // by a positive divisor -/
theorem op_fdiv : OpR X (binaryOp .FloorDiv) (rI CDiv fun i j => .int (i / j)) := opI fun i j _ _ _ _ _ hc q => by
  have h1 : (0 : Int) < j := hc.1
  have h2 : j < 1073741824 := hc.2
  exact floordiv_int (by omega) (by rw [Int.fdiv_eq_ediv_of_nonneg i (by omega)]; exact q) (.inl (PyProof.noPylong_small (by omega)))
/-- % by a positive divisor of any size -/
theorem op_mod : OpR X (binaryOp .Mod) (rI (fun _ j => 0 < j) fun i j => .int (i % j)) := opI fun i j _ _ _ _ _ hc q => by
  have h1 : (0 : Int) < j := hc
  exact mod_int' (by omega) (by rw [Int.fmod_eq_emod_of_nonneg i (by omega)]; exact q)
theorem unI {f : Value → Sem Value} {g : Int → Int}
    (rule : ∀ (i : Int) (t : Tok) (s : Shared) (Q : Value → Shared → Prop) (E : Value → Shared → Prop), Q (.int (g i) s.toks) { s with toks := s.toks + 1 } → wpAny (model X.prog X.w) X.A (f (.int i t)) Q E s) :
    UnR X f (rU fun i => .int (g i)) := by
  intro pins s σ H x v Q I rx h
  obtain ⟨i, rfl, q⟩ := h
  obtain ⟨t, rfl⟩ := rx
  exact rule i t s _ _ ⟨.int (g i), H, I.tok _, ⟨_, rfl⟩, q⟩
theorem un_neg : UnR X (unaryOp .USub) (rU fun i => .int (-i)) := unI fun _ _ _ _ _ q => neg_int q
/-! ### bools among ints: n += (a < b) -/
end

/-! ### comparisons -/
/-- the scalars that == tells apart as data does -/
def scal : V → V → Bool
  | .non, .non => true | .non, .int _ => true | .int _, .non => true | .non, .bl _ => true | .bl _, .non => true | .non, .str _ => true | .str _, .non => true
  | .int _, .int _ => true | .bl _, .bl _ => true | .str _, .str _ => true | .byt _, .byt _ => true
  | .int _, .str _ => true | .str _, .int _ => true | .bl _, .str _ => true | .str _, .bl _ => true
  | _, _ => false
def rEq : R2 := fun x y H Q => scal x y = true ∧ Q (.bl (decide (x = y))) H
def rNe : R2 := fun x y H Q => scal x y = true ∧ Q (.bl (!decide (x = y))) H

theorem dec_int {i j : Int} : decide (V.int i = V.int j) = (i == j) := by
  rw [Bool.eq_iff_iff]
  simp
theorem dec_bl {i j : Bool} : decide (V.bl i = V.bl j) = (i == j) := by
  rw [Bool.eq_iff_iff]
  simp
theorem dec_str {i j : Str} : decide (V.str i = V.str j) = (i == j) := by
  rw [Bool.eq_iff_iff]
  simp
theorem dec_byt {i j : Array UInt8} : decide (V.byt i = V.byt j) = (i.toList == j.toList) := by
  rw [Bool.eq_iff_iff]
  cases i
  cases j
  simp

section
variable {X : Cx} {a b c : Expr} {ta tb tc : TE} {pos : Pos}
theorem fin_bl {pins : List (Addr × Obj)} {σ : St} {H : Hp} {s : Shared} {Q : VK} {k k' : Bool} (I : Inv X pins σ H s) (q : Q (.bl k) H) (e : k = k') : EP X pins σ Q (.bool k') s := by
  subst e
  exact ⟨.bl k, H, I, rfl, q⟩
theorem op_eq : OpR X (compareOp .Eq) rEq := by
  intro pins s σ H x y v u Q I rx ry h
  obtain ⟨hs, q⟩ := h
  cases x with
  | non =>
    cases rx
    cases y with
    | non => cases ry; exact PySem.EqNone.eq_none_none (fin_bl I q (by simp))
    | bl j => cases ry; exact PySem.EqNone.eq_none_bool (fin_bl I q (by simp))
    | int j => obtain ⟨t', rfl⟩ := ry; exact PySem.EqNone.eq_none_int (fin_bl I q (by simp))
    | str j => obtain ⟨t', rfl⟩ := ry; exact PySem.EqNone.eq_none_str (fin_bl I q (by simp))
    | _ => exact absurd (show false = true from hs) Bool.false_ne_true
  | bl i =>
    cases rx
    cases y with
    | non => cases ry; exact PySem.EqNone.eq_bool_none (fin_bl I q (by simp))
    | bl j => cases ry; exact eq_bool (fin_bl I q dec_bl)
    | str j => obtain ⟨t', rfl⟩ := ry; exact PySem.EqMixed.eq_bool_str (fin_bl I q (by simp))
    | _ => exact absurd (show false = true from hs) Bool.false_ne_true
  | int i =>
    obtain ⟨t, rfl⟩ := rx
    cases y with
    | non => cases ry; exact PySem.EqNone.eq_int_none (fin_bl I q (by simp))
    | int j => obtain ⟨t', rfl⟩ := ry; exact eq_int (fin_bl I q dec_int)
    | str j => obtain ⟨t', rfl⟩ := ry; exact PySem.EqMixed.eq_int_str (fin_bl I q (by simp))
    | _ => exact absurd (show false = true from hs) Bool.false_ne_true
  | str i =>
    obtain ⟨t, rfl⟩ := rx
    cases y with
    | non => cases ry; exact PySem.EqNone.eq_str_none (fin_bl I q (by simp))
    | bl j => cases ry; exact PySem.EqMixed.eq_str_bool (fin_bl I q (by simp))
    | int j => obtain ⟨t', rfl⟩ := ry; exact PySem.EqMixed.eq_str_int (fin_bl I q (by simp))
    | str j => obtain ⟨t', rfl⟩ := ry; exact eq_str (fin_bl I q dec_str)
    | _ => exact absurd (show false = true from hs) Bool.false_ne_true
  | byt i =>
    obtain ⟨t, rfl⟩ := rx
    cases y with
    | byt j => obtain ⟨t', rfl⟩ := ry; exact PySem.W.eq_bytes (fin_bl I q dec_byt)
    | _ => exact absurd (show false = true from hs) Bool.false_ne_true
  | _ => cases y <;> exact absurd (show false = true from hs) Bool.false_ne_true
theorem op_ne : OpR X (compareOp .NotEq) rNe := by
  intro pins s σ H x y v u Q I rx ry h
  obtain ⟨hs, q⟩ := h
  cases x with
  | non =>
    cases rx
    cases y with
    | non => cases ry; exact PySem.EqNone.ne_none_none (fin_bl I q (by simp))
    | bl j => cases ry; exact PySem.EqNone.ne_none_bool (fin_bl I q (by simp))
    | int j => obtain ⟨t', rfl⟩ := ry; exact PySem.EqNone.ne_none_int (fin_bl I q (by simp))
    | str j => obtain ⟨t', rfl⟩ := ry; exact PySem.EqNone.ne_none_str (fin_bl I q (by simp))
    | _ => exact absurd (show false = true from hs) Bool.false_ne_true
  | bl i =>
    cases rx
    cases y with
    | non => cases ry; exact PySem.EqNone.ne_bool_none (fin_bl I q (by simp))
    | bl j => cases ry; exact ne_bool (fin_bl I q (congrArg not dec_bl))
    | str j => obtain ⟨t', rfl⟩ := ry; exact PySem.EqMixed.ne_bool_str (fin_bl I q (by simp))
    | _ => exact absurd (show false = true from hs) Bool.false_ne_true
  | int i =>
    obtain ⟨t, rfl⟩ := rx
    cases y with
    | non => cases ry; exact PySem.EqNone.ne_int_none (fin_bl I q (by simp))
    | int j => obtain ⟨t', rfl⟩ := ry; exact ne_int (fin_bl I q (congrArg not dec_int))
    | str j => obtain ⟨t', rfl⟩ := ry; exact PySem.EqMixed.ne_int_str (fin_bl I q (by simp))
    | _ => exact absurd (show false = true from hs) Bool.false_ne_true
  | str i =>
    obtain ⟨t, rfl⟩ := rx
    cases y with
    | non => cases ry; exact PySem.EqNone.ne_str_none (fin_bl I q (by simp))
    | bl j => cases ry; exact PySem.EqMixed.ne_str_bool (fin_bl I q (by simp))
    | int j => obtain ⟨t', rfl⟩ := ry; exact PySem.EqMixed.ne_str_int (fin_bl I q (by simp))
    | str j => obtain ⟨t', rfl⟩ := ry; exact ne_str (fin_bl I q (congrArg not dec_str))
    | _ => exact absurd (show false = true from hs) Bool.false_ne_true
  | byt i =>
    obtain ⟨t, rfl⟩ := rx
    cases y with
    | byt j => obtain ⟨t', rfl⟩ := ry; exact PySem.W.ne_bytes (fin_bl I q (congrArg not dec_byt))
    | _ => exact absurd (show false = true from hs) Bool.false_ne_true
  | _ => cases y <;> exact absurd (show false = true from hs) Bool.false_ne_true

theorem op_lt : OpR X (compareOp .Lt) (rI0 fun i j => .bl (decide (i < j))) := opB0 fun _ _ _ _ _ _ _ q => lt_int q
theorem op_le : OpR X (compareOp .LtE) (rI0 fun i j => .bl (decide (i ≤ j))) := opB0 fun _ _ _ _ _ _ _ q => le_int q
theorem op_gt : OpR X (compareOp .Gt) (rI0 fun i j => .bl (decide (j < i))) := opB0 fun _ _ _ _ _ _ _ q => gt_int q
/-- the one string within the other -/
theorem op_in_str : OpR X (compareOp .In) (fun x y H Q => ∃ i j, x = .str i ∧ y = .str j ∧ Q (.bl (!(Builtin.Str.occurrences j i 0 j.length 1).isEmpty)) H) := by
  intro pins s σ H x y v u Q I rx ry h
  obtain ⟨i, j, rfl, rfl, q⟩ := h
  obtain ⟨t, rfl⟩ := rx
  obtain ⟨t', rfl⟩ := ry
  exact in_str (fin_bl I q rfl)

/-- is, is not of two objects that are tracked lists or instances -/
def isObj : HO → Bool
  | .lst _ => true
  | .ins _ _ _ => true
  | _ => false
theorem nomark (b : Expr) {op : CmpOp} (h : op ≠ .In := by decide) (h2 : op ≠ .NotIn := by decide) : behindInMarks op b = false := by
  have e1 : (op == CmpOp.In) = false := by cases op <;> first | rfl | exact absurd rfl h
  have e2 : (op == CmpOp.NotIn) = false := by cases op <;> first | rfl | exact absurd rfl h2
  cases b <;> simp [behindInMarks, e1, e2]
/-- a comparison as a value; hm: nomark b, or (for in, not in) by with_unfolding_all rfl -/
theorem pe_cmpR {op : CmpOp} {r : R2} (ho : OpR X (compareOp op) r) (ha : PE X a ta) (hb : PE X b tb) (hm : behindInMarks op b = false) : PE X (.Compare a [op] [b] pos) (tOp r ta tb) := by
  intro pins s σ H Q I h
  exact wpAny_Compare1 (binT ha hb I h fun v u s2 x y H2 I2 rx ry q => ho pins s2 σ H2 x y v u Q I2 rx ry q) hm
/-- a reading of a value as a test -/
def tTest (t : TE) : TT := fun σ H Q => t σ H fun x H' => ∃ k, x = .bl k ∧ Q k H'
theorem pt_cmpR {op : CmpOp} {r : R2} (ho : OpR X (compareOp op) r) (ha : PE X a ta) (hb : PE X b tb) (hm : behindInMarks op b = false) : PT X (.Compare a [op] [b] pos) (tTest (tOp r ta tb)) := by
  intro pins s σ H Q I h
  refine wpAny_isTrue_Compare1 (thn (ha pins s σ H _ I h) fun v s1 ⟨x, H1, I1, r1, q1⟩ => thn (hb pins s1 σ H1 _ I1 q1) fun u s2 ⟨y, H2, I2, r2, q2⟩ =>
    thn (ho pins s2 σ H2 x y v u _ I2 r1 r2 q2) fun c s3 ⟨z, H3, I3, r3, k, e, q3⟩ => ?_) hm
  subst e
  cases r3
  exact wpAny_truthy_bool ⟨H3, I3, q3⟩
/-- a op1 b op2 c -/
def tChain (r r' : R2) (ta tb tc : TE) : TE := fun σ H Q => ta σ H fun x H1 => tb σ H1 fun y H2 => r x y H2 fun z H3 => ∃ k, z = .bl k ∧
  (if k = true then tc σ H3 fun w' H4 => r' y w' H4 Q else Q (.bl false) H3)
/-! ### truth -/
/-- a value's truth by the abstract heap -/
def TruV (K : PySem.W.Frag) (x : V) (H : Hp) (k : Bool) : Prop :=
  match x with
  | .non => k = false
  | .bl b => k = b
  | .int i => k = (i != 0)
  | .str y => y.length ≤ sizeLine ∧ k = ((y.length : Int) != 0)
  | .byt y => y.size ≤ sizeLine ∧ k = ((y.size : Int) != 0)
  | .ref p => (∃ xs, SqL K H p xs ∧ k = !xs.isEmpty) ∨ (∃ xs, SqT K H p xs ∧ k = !xs.isEmpty) ∨ ∃ kvs, H p = some (.dK kvs) ∧ k = !kvs.isEmpty
  | _ => False
theorem line63 : (sizeLine : Nat) < 2 ^ 63 := by rw [sizeLine_eq]; decide
/-! ### strs and bytes -/
theorem op_add_str : OpR X (binaryOp .Add) (fun x y H Q => ∃ i j, x = .str i ∧ y = .str j ∧ i.length + j.length ≤ sizeLine ∧ Q (.str (i ++ j)) H) := by
  intro pins s σ H x y v u Q I rx ry h
  obtain ⟨i, j, rfl, rfl, hz, q⟩ := h
  obtain ⟨t, rfl⟩ := rx
  obtain ⟨t', rfl⟩ := ry
  exact add_str (fun t' tk => ⟨.str (i ++ j), H, I.tok _, ⟨_, rfl⟩, q⟩) hz
def PlainIxT (b : Expr) : Prop := ∀ o i, subscripted b false o i = operate [o, i] (getItem o i)
/-! ### scalar builtins, by CallR -/
theorem vals1 {x : V} {us : List Value} (r : Vals [x] us) : ∃ u, us = [u] ∧ RelV x u := by
  cases r with
  | cons r1 r2 => cases r2; exact ⟨_, rfl, r1⟩
theorem call_str_int : CallR X (.type "str") (fun xs H Q => ∃ i, xs = [.int i] ∧ i.natAbs.log2 < 1920 ∧ Q (.str (toString i)) H) := by
  intro pins s σ H xs us Q I r h
  obtain ⟨i, rfl, hz, q⟩ := h
  obtain ⟨u, rfl, t, rfl⟩ := vals1 r
  exact PySem.P.str_of_int hz ⟨.str _, H, I.tok _, ⟨_, rfl⟩, q⟩
/-- len of a str, a bytes, a list, a tuple -/
def LenV (K : PySem.W.Frag) (x : V) (H : Hp) (n : Nat) : Prop :=
  match x with
  | .str y => y.length ≤ sizeLine ∧ n = y.length
  | .byt y => y.size ≤ sizeLine ∧ n = y.size
  | .ref p => (∃ xs, SqL K H p xs ∧ n = xs.length) ∨ ∃ xs, SqT K H p xs ∧ n = xs.length
  | _ => False
end
end L2

namespace L2
open PySem PySem.Spec PyProof.Rows

/-! ### an instance, its attributes a map -/
structure ObjM (h : Heap) (x dx C : Addr) (mA : Str → Option Value) : Prop where
  obj : h.get? x = some (PySem.W.instObj C dx)
  ns : h.Ns1 dx mA
  ne : dx ≠ x

section
variable {prog : Program} {w : World} {A : Around} {E : Value → Shared → Prop} {s : Shared} {K : PySem.W.Frag} {x dx C f : Addr} {mA : Str → Option Value} {name : Str} {v : Value}

end

/-! ### the attributes as a list of pairs -/
def putF (f : Str) (v : V) : List (Str × V) → List (Str × V)
  | [] => [(f, v)]
  | (g, x) :: r => if g = f then (g, v) :: r else (g, x) :: putF f v r
theorem RelO.some_of {v : V} {o : Option Value} (r : RelO (some v) o) : ∃ u, o = some u ∧ RelV v u := by
  cases o with
  | none => exact (show False from r).elim
  | some u => exact ⟨u, rfl, r⟩
section
variable {P : Program} {w : World} {H H' : Hp} {h h' : Heap} {a C dx : Addr} {fs fs' : List (Str × V)}
end

/-! ### what of the text a class must have -/
structure Cls (K : PySem.W.Frag) (C : Addr) : Prop where
  pg : PySem.W.plainGet K C Str.empty = true
  hd : PySem.W.hasDictIn K C = true
  po : PySem.W.plainOver K C = true
  sa : PySem.W.findIn K (.ref C) "__setattr__" = some (some (.builtin "object.__setattr__"))
/-- no class of it has the name -/
def NoAttr (K : PySem.W.Frag) (C : Addr) (f : Str) : Prop := PySem.W.findIn K (.ref C) f = some none
/-- a constant of the class -/
structure Con (K : PySem.W.Frag) (C : Addr) (f : Str) (v : V) (u : Value) : Prop where
  at_ : PySem.W.findIn K (.ref C) f = some (some u)
  rel : RelV v u
  get : PySem.W.specialIn K u "__get__" = some none
  cp : PySem.W.copiedNames.contains f = false
/-- a method: a plain def of the class or of one above it -/
structure Meth (K : PySem.W.Frag) (C : Addr) (m : Str) (f : Addr) : Prop where
  at_ : PySem.W.findIn K (.ref C) m = some (some (.ref f))
  fn : PySem.W.isFn K (.ref f) = true
  kp : PySem.W.keepIn K (.ref f) = true

section
variable {X : Cx} {pins : List (Addr × Obj)} {σ : St} {H : Hp} {s : Shared} {a C dx : Addr} {fs : List (Str × V)} {f : Str} {v : V} {A : Around} {E : Value → Shared → Prop}

end

/-! ### readings and rules -/
/-- e.f, an attribute of the instance -/
def tFld (K : PySem.W.Frag) (ta : TE) (f : Str) : TE := fun σ H Q => ta σ H fun x H1 => ∃ a C dx fs v, x = .ref a ∧ H1 a = some (.ins C dx fs) ∧ Cls K C ∧ NoAttr K C f ∧ fs.lookup f = some v ∧ Q v H1
/-- e.f, a constant of the class -/
def tCon (K : PySem.W.Frag) (ta : TE) (f : Str) : TE := fun σ H Q => ta σ H fun x H1 => ∃ a C dx fs v u, x = .ref a ∧ H1 a = some (.ins C dx fs) ∧ Cls K C ∧ Con K C f v u ∧ fs.lookup f = none ∧ Q v H1
/-- e.f = value -/
def sFld (K : PySem.W.Frag) (ta tv : TE) (f : Str) : TS := fun D σ H => tv σ H fun y H1 => ta σ H1 fun x H2 => ∃ a C dx fs, x = .ref a ∧ H2 a = some (.ins C dx fs) ∧ Cls K C ∧ NoAttr K C f ∧ fs.length < 1000 ∧
  D.nx σ (upd H2 a (.ins C dx (putF f y fs)))
/-- an augmented operator on two values -/
def InOp (X : Cx) (op : Operator) (rd : V → V → Hp → VK → Prop) : Prop :=
  ∀ (pins : List (Addr × Obj)) (s : Shared) (σ : St) (H : Hp) (x y : V) (u v : Value) (Q : VK), Inv X pins σ H s → RelV x u → RelV y v → rd x y H Q → wpAny (model X.prog X.w) X.A (inplaceOp op u v) (EP X pins σ Q) X.xe s
/-- e.f op= value -/
def sFldAug (K : PySem.W.Frag) (ta tv : TE) (rd : V → V → Hp → VK → Prop) (f : Str) : TS := fun D σ H => ta σ H fun x H1 => ∃ a C dx fs v, x = .ref a ∧ H1 a = some (.ins C dx fs) ∧ Cls K C ∧ NoAttr K C f ∧ fs.lookup f = some v ∧
  tv σ H1 fun y H2 => rd v y H2 fun z H3 => ∃ dx' fs', H3 a = some (.ins C dx' fs') ∧ fs'.length < 1000 ∧ D.nx σ (upd H3 a (.ins C dx' (putF f z fs')))

section
variable {X : Cx} {o e value : Expr} {f : Str} {pos pos' tpos : Pos} {ta tv : TE}
def rAdd : V → V → Hp → VK → Prop := fun x y H Q => ∃ i j, x = .int i ∧ y = .int j ∧ Q (.int (i + j)) H
def rSub : V → V → Hp → VK → Prop := fun x y H Q => ∃ i j, x = .int i ∧ y = .int j ∧ Q (.int (i - j)) H
end

/-! ### isinstance -/
section
variable {X : Cx} {pins : List (Addr × Obj)} {σ : St} {H : Hp} {s : Shared} {A : Around} {E : Value → Shared → Prop} {Q : Value → Shared → Prop} {c : Value} {b : Bool}
/-- the type of a value, as the fragment's deciders take it; for an instance its class -/
inductive TyOf (K : PySem.W.Frag) (H : Hp) : V → Value → Prop where
  | non : TyOf K H .non (.type "NoneType")
  | bl (x : Bool) : TyOf K H (.bl x) (.type "bool")
  | int (i : Int) : TyOf K H (.int i) (.type "int")
  | str (x : Str) : TyOf K H (.str x) (.type "str")
  | flt (x : UInt64) : TyOf K H (.flt x) (.type "float")
  | lst {a : Addr} {xs : List V} (e : H a = some (.lst xs)) : TyOf K H (.ref a) (.type "list")
  | frz {a : Addr} {o : Obj} {xs : List V} (e : H a = some (.frz o (.lst xs))) : TyOf K H (.ref a) (.type "list")
  | tup {a : Addr} {xs : List V} (e : H a = some (.tup xs)) : TyOf K H (.ref a) (.type "tuple")
  | dK {a : Addr} {kvs : List (Key × V)} (e : H a = some (.dK kvs)) : TyOf K H (.ref a) (.type "dict")
  | dT {a : Addr} {kvs : List (List Key × V)} (e : H a = some (.dT kvs)) : TyOf K H (.ref a) (.type "dict")
  | ins {a C dx : Addr} {fs : List (Str × V)} (e : H a = some (.ins C dx fs)) (cl : Cls K C) (ha : PySem.W.findIn K (.ref C) "__class__" = some (some (.builtin "object.__class__")))
      (hn : PySem.W.specialIn K (.builtin "object.__class__") "__get__" = some (some (.builtin "getset_descriptor.__get__"))) (htk : PySem.W.takesIn K (.builtin "object.__class__") = some true)
      (hm : PySem.W.mroIn K C (.type "object") = some true) : TyOf K H (.ref a) (.ref C)
end
end L2

namespace L2
open PySem PySem.Spec PyProof.Rows

/-! ### room -/
structure Room (k : Nat) (A : Around) : Prop where
  hd : A.handled = none
  dp : A.depth + 3 * k + 5 < recursionLimit
  un : A.units + 16 * k + 200 < cLine
theorem Room.mono {j k : Nat} {A : Around} (r : Room k A) (h : j ≤ k) : Room j A := ⟨r.hd, by have := r.dp; omega, by have := r.un; omega⟩
theorem Room.deeper {k : Nat} {A : Around} (r : Room (k + 1) A) (env : Env) : Room k (A.deeper env) :=
  ⟨r.hd, by have := r.dp; show A.depth + 1 + 3 * k + 5 < _; omega, by have := r.un; show A.units + 3 + 16 * k + 200 < _; omega⟩
theorem Room.depth {k : Nat} {A : Around} (r : Room k A) : A.depth < recursionLimit := by have := r.dp; omega
theorem Room.units {k : Nat} {A : Around} (r : Room k A) : A.units + 64 < cLine := by have := r.un; omega
/-! ### argument lists and displays -/
def tNil : TA := fun _ H Q => Q [] H
def tCons (ta : TE) (tr : TA) : TA := fun σ H Q => ta σ H fun x H1 => tr σ H1 fun xs H2 => Q (x :: xs) H2
section
variable {X : Cx} {e : Expr} {es : List Expr} {te : TE} {t : TA} {pos : Pos}
theorem pa_nil : PA X [] tNil := fun _ _ _ _ H Q I h => Calls.spliced_nil ⟨[], H, I, .nil, h⟩
theorem pa_cons (ha : PE X e te) (hr : PA X es t) (hs : starEach (e :: es) X.env = (false, eval e X.env) :: starEach es X.env := by rfl) : PA X (e :: es) (tCons te t) := by
  intro pos pins s σ H Q I h
  rw [hs]
  show wpAny _ _ (spliced ((false, eval e X.env) :: backTo pos (starEach es X.env))) _ _ s
  refine Calls.spliced_cons (thn (ha pins s σ H _ I h) fun u s1 ⟨x, H1, I1, r1, q1⟩ => ?_)
  exact thn (hr pos pins s1 σ H1 _ I1 q1) fun us s2 ⟨xs, H2, I2, r2, q2⟩ => ⟨x :: xs, H2, I2, .cons r1 r2, q2⟩

/-- a tuple, a list of written items -/
def tTup (t : TA) : TE := fun σ H Q => t σ H fun xs H1 => xs.length ≤ sizeLine ∧ ∀ p, H1 p = none → Q (.ref p) (upd H1 p (.tup xs))
def tLst (t : TA) : TE := fun σ H Q => t σ H fun xs H1 => xs.length ≤ sizeLine ∧ ∀ p, H1 p = none → Q (.ref p) (upd H1 p (.lst xs))
theorem pe_tup {x1} (h : PA X es t) : PE X (.Tuple es x1 pos) (tTup t) := by
  intro pins s σ H Q I hq
  refine wpAny_Tuple_spliced (thn (h pos pins s σ H _ I hq) fun us s1 ⟨xs, H1, I1, r, z, q⟩ => ⟨by rw [← r.length]; exact z, ?_⟩)
  have hf : H1 s1.heap.objs.size = none := I1.hok.fresh (Nat.le_refl _)
  refine ⟨.ref s1.heap.objs.size, upd H1 s1.heap.objs.size (.tup xs), I1.laid (t' := s1.toks) (fun b u e => Heap.get?_push_of_some _ e) (Nat.le_refl _) ?_, rfl, q _ hf⟩
  exact ⟨z, us, r, ⟨_, Heap.get?_push_size _ rfl, rfl, _, rfl⟩⟩
theorem pe_lst (h : PA X es t) : PE X (.List es pos) (tLst t) := by
  intro pins s σ H Q I hq
  refine wpAny_List_spliced (thn (h pos pins s σ H _ I hq) fun us s1 ⟨xs, H1, I1, r, z, q⟩ => ⟨by rw [← r.length]; exact z, ?_⟩)
  have hf : H1 s1.heap.objs.size = none := I1.hok.fresh (Nat.le_refl _)
  refine ⟨.ref s1.heap.objs.size, upd H1 s1.heap.objs.size (.lst xs), I1.laid (t' := s1.toks) (fun b u e => Heap.get?_push_of_some _ e) (Nat.le_refl _) ?_, rfl, q _ hf⟩
  exact ⟨z, us, 0, r, Heap.get?_push_size _ rfl⟩
end

/-! ### what a def promises -/
/-- a def's promise: the bound arguments in the parameters' order, the heap, the wanted end, the wanted exception -/
abbrev Sp := List V → Hp → VK → XK → Prop
/-- how an exception lies behind a call (file 08 gives it): the callers' frames, abstract heap and state ahead of the call, the wish, the exception, the state -/
abbrev CXT := List Env → Hp → Shared → XK → Value → Shared → Prop

/-- the state at a call -/
structure Env0 (P : Program) (w : World) (K : PySem.W.Frag) (mg : Str → Option Value) (base : Heap) (A : Around) (outer : List Env) (s : Shared) (H : Hp) : Prop where
  frames : A.frames = some outer
  mod : Mod K mg base
  bs : ∀ b o, base.get? b = some o → s.heap.get? b = some o ∧ H b = none
  bsz : base.objs.size ≤ s.heap.objs.size
  funs : s.heap.FunFrames base outer
  frf : ∀ b ∈ frs outer, H b = none
  hok : HOk P w H s.heap
  bare : AllBare s.gens
/-- a call's end -/
def CE (outer : List Env) (P : Program) (w : World) (H : Hp) (s : Shared) (Q : VK) (u : Value) (s' : Shared) : Prop :=
  ∃ v H', s'.os = s.os ∧ AllBare s'.gens ∧ Un (frs outer) [] H H' s.heap s'.heap ∧ HOk P w H' s'.heap ∧ RelV v u ∧ Q v H'
def CR (CX : CXT) (outer : List Env) (P : Program) (w : World) (H : Hp) (s : Shared) (Q : VK) (E : XK) (r : Result) (s' : Shared) : Prop :=
  match r with
  | .ok (.ret u) => CE outer P w H s Q u s'
  | .ok _ => False
  | .error e => CX outer H s E e s'
structure FnOk (P : Program) (w : World) (K : PySem.W.Frag) (mg : Str → Option Value) (base : Heap) (CX : CXT) (k : Nat) (f : Addr) (fd : FuncData) (ps : List Str) (sp : Sp) : Prop where
  len : ∀ vs H Q E, sp vs H Q E → vs.length = ps.length
  run : ∀ (A : Around) (outer : List Env) (s : Shared) (H : Hp) (args : Args) (us : List Value) (vs : List V) (Q : VK) (E : XK), Room k A → Env0 P w K mg base A outer s H → BindsTo s fd args (ps.zip us) → Vals vs us → sp vs H Q E →
    codeAny (model P w) A (.call (.ref f) args) (CR CX outer P w H s Q E) s
section
variable {X : Cx} {pins : List (Addr × Obj)} {σ : St} {H : Hp} {s s' : Shared}
/-- from a body: what a callee wants -/
theorem Inv.env0 (I : Inv X pins σ H s) : Env0 X.prog X.w X.K X.mg X.base X.A X.stack s H :=
  ⟨I.ok.frames, I.ok.mod, I.bs, Nat.le_trans I.ok.bsz I.sz, I.stack, I.stkFree, I.hok, I.bare⟩
/-- behind a call -/
theorem Inv.after {Q : VK} {u : Value} (I : Inv X pins σ H s) (h : CE X.stack X.prog X.w H s Q u s') : EP X pins σ Q u s' := by
  obtain ⟨v, H', os, bare, un, hok, r, q⟩ := h
  obtain ⟨hh, g, d, t, os'⟩ := s'
  obtain rfl : os' = s.os := os
  exact ⟨v, H', I.call (h' := hh) (g' := g) (d' := d) (t' := t) (ch := []) un hok bare (fun b z => absurd z (by simp)), r, q⟩
end

/-! ### calls -/
/-- f(..): the written arguments, then the defaults dvs; E: what is wanted of an exception -/
def tCall (sp : Sp) (dvs : List V) (E : XK) (t : TA) : TE := fun σ H Q => t σ H fun vs H1 => sp (vs ++ dvs) H1 Q E
/-- o.m(..) of an instance of the class at C -/
def tMeth (C : Addr) (m : Str) (sp : Sp) (dvs : List V) (E : XK) (ta : TE) (t : TA) : TE := fun σ H Q => ta σ H fun x H1 => ∃ a dx fs, x = .ref a ∧ H1 a = some (.ins C dx fs) ∧ fs.lookup m = none ∧
  t σ H1 fun vs H2 => sp (x :: (vs ++ dvs)) H2 Q E
/-- C(..): a new instance and its dict, then __init__ -/
def tMake (C : Addr) (sp : Sp) (dvs : List V) (E : XK) (t : TA) : TE := fun σ H Q => t σ H fun vs H1 => ∀ x dx, H1 x = none → H1 dx = none → dx ≠ x →
  sp (.ref x :: (vs ++ dvs)) (upd (upd H1 dx (.own x)) x (.ins C dx [])) (fun v H2 => v = .non ∧ Q (.ref x) H2) E

/-- how the parameters are bound: us the positional arguments, kw the keywords' values by name, ds the defaults that fill up -/
def Binds (K : PySem.W.Frag) (fd : FuncData) (ps : List Str) (ds : List Value) : Prop :=
  ∀ (s : Shared) (us : List Value), K.In s.heap → (us ++ ds).length = ps.length → BindsTo s fd ⟨us, []⟩ (ps.zip (us ++ ds))
/-- every parameter is given -/
theorem Binds.all {K : PySem.W.Frag} {fd : FuncData} {ps : List Str} (h : ∀ us : List Value, us.length = ps.length → bindArgs fd ⟨us, []⟩ = pure (ps.zip us)) : Binds K fd ps [] := fun s us _ hl => by
  rw [List.append_nil] at hl ⊢
  exact .of_eq (h us hl)

/-- an exception of a callee reaches what this body wants of exceptions -/
def Passes (CX : CXT) (X : Cx) (E : XK) : Prop := ∀ (pins : List (Addr × Obj)) (σ : St) (H : Hp) (s : Shared) (e : Value) (s' : Shared), Inv X pins σ H s → CX X.stack H s E e s' → X.xe e s'

section
variable {X : Cx} {CX : CXT} {k : Nat} {f C : Addr} {fd : FuncData} {ps : List Str} {sp : Sp} {dvs : List V} {ds : List Value} {E : XK} {x m : Str} {p pos apos : Pos} {e o : Expr} {es : List Expr} {ta : TE} {t : TA}

/-- the callee runs -/
theorem run_fn {pins : List (Addr × Obj)} {σ : St} {H : Hp} {s : Shared} {Q : VK} {us : List Value} {vs : List V} (F : FnOk X.prog X.w X.K X.mg X.base CX k f fd ps sp) (hr : Room k X.A) (hb : Binds X.K fd ps ds) (hd : Vals dvs ds) (hx : Passes CX X E)
    (I : Inv X pins σ H s) (r : Vals vs us) (h : sp (vs ++ dvs) H Q E) : wpAny (model X.prog X.w) X.A (call (.ref f) us) (EP X pins σ Q) X.xe s := by
  have r2 : Vals (vs ++ dvs) (us ++ ds) := r.append hd
  have hl : (us ++ ds).length = ps.length := by rw [← r2.length]; exact F.len _ _ _ _ h
  refine wpAny_call (codeAny_mono (F.run X.A X.stack s H ⟨us, []⟩ (us ++ ds) (vs ++ dvs) Q E hr I.env0 (hb s us I.kIn hl) r2 h) fun r s' hq => ?_)
  cases r with
  | error e => exact hx pins σ H s e s' I hq
  | ok fl =>
    cases fl with
    | ret u => exact I.after hq
    | next => exact False.elim hq
    | brk => exact False.elim hq
    | cont => exact False.elim hq

theorem pe_call (F : FnOk X.prog X.w X.K X.mg X.base CX k f fd ps sp) (hr : Room k X.A) (hg : Gl X x) (hm : X.mg x = some (.ref f)) (hk : PySem.W.keepIn X.K (.ref f) = true) (hb : Binds X.K fd ps ds) (hd : Vals dvs ds) (hx : Passes CX X E)
    (ha : PA X (e :: es) t) (hdb : (x == ("__debug__" : Str)) = false := by decide) (he : starEach (e :: es) X.env = (false, eval e X.env) :: starEach es X.env := by rfl) (hpl : (backTo pos (starEach es X.env)).any (·.1) = false := by rfl) :
    PE X (.Call (.Name x p) (e :: es) [] pos) (tCall sp dvs E t) := by
  intro pins s σ H Q I h
  refine wpAny_Call_Name_kw (ld_glob I hg hm ?_ hdb)
  refine PySem.W.callWith_K (h₀ := X.base) I.ok.mod.kin hk (thn (ha pos pins s σ H _ I h) fun us s1 ⟨vs, H1, I1, r, q⟩ => ⟨I1.kIn, ?_⟩) he hpl
  exact run_fn F hr hb hd hx I1 r q
/-- what a class must have to be made -/
structure Mk (K : PySem.W.Frag) (C f : Addr) : Prop where
  makes : PySem.W.makesIn K C = true
  init : PySem.W.findIn K (.ref C) "__init__" = some (some (.ref f))
  fn : PySem.W.isFn K (.ref f) = true
  kp : PySem.W.keepIn K (.ref C) = true

end

/-! ### keywords -/
/-- the values of the keywords, from the left -/
def PK (X : Cx) (kws : List Keyword) (t : TA) : Prop :=
  ∀ (pos : Pos) (pins : List (Addr × Obj)) (s : Shared) (σ : St) (H : Hp) (Q : List V → Hp → Prop), Inv X pins σ H s → t σ H Q → wpAny (model X.prog X.w) X.A (evalAll ((backToKw pos (keywordEach kws X.env)).map (·.2))) (AP X pins σ Q) X.xe s
section
variable {X : Cx} {CX : CXT} {k : Nat} {f C : Addr} {fd : FuncData} {ps ks : List Str} {sp : Sp} {E : XK} {x m : Str} {p pos apos kpos : Pos} {e o : Expr} {es : List Expr} {kws : List Keyword} {te ta : TE} {t tk : TA} {nm : Option Str}
/-- how a call with keywords binds: g puts the positional values us and the keywords' values ws (names ks) in the parameters' order, defaults among them -/
structure KBinds (K : PySem.W.Frag) (fd : FuncData) (ps ks : List Str) (g : List Value → List Value → List Value) (gV : List V → List V → List V) : Prop where
  to : ∀ (s : Shared) (us ws : List Value), K.In s.heap → (g us ws).length = ps.length → BindsTo s fd ⟨us, ks.zip ws⟩ (ps.zip (g us ws))
  rel : ∀ {vs : List V} {us : List Value} {zs : List V} {ws : List Value}, Vals vs us → Vals zs ws → Vals (gV vs zs) (g us ws)
def tCallK (sp : Sp) (gV : List V → List V → List V) (E : XK) (t tk : TA) : TE := fun σ H Q => t σ H fun vs H1 => tk σ H1 fun zs H2 => sp (gV vs zs) H2 Q E
variable {g : List Value → List Value → List Value} {gV : List V → List V → List V}
end

/-! ### a def's body keeps its promise -/
/-- names: the parameters first -/
structure FnScope (N P : List Str) (sc : Scope) : Prop where
  kind : sc.kind = .function
  co : sc.isCoroutine = false
  gen : sc.isGenerator = false
  nd : N.Nodup
  pre : N.take P.length = P
  par : ∀ x ∈ P, sc.names.lookup x = some .local ∨ sc.names.lookup x = some .cell
  nofree : ∀ y ∈ sc.names, y.2 ≠ .free

theorem bindL_out {kindOf : Str → Option NameKind} {x : Str} : ∀ {binds : List (Str × Value)} {m : Str → Option Value}, (∀ v, (x, v) ∉ binds) → bindL kindOf binds m x = m x
  | [], _, _ => rfl
  | (n, v) :: r, m, h => by
    unfold bindL
    rw [bindL_out fun w hw => h w (List.mem_cons_of_mem _ hw)]
    split
    · have : x ≠ n := by rintro rfl; exact h v List.mem_cons_self
      simp [this]
    · rfl
theorem bindC_out {kindOf : Str → Option NameKind} {x : Str} : ∀ {binds : List (Str × Value)} {m : Str → Option Value}, (∀ v, (x, v) ∉ binds) → bindC kindOf binds m x = m x
  | [], _, _ => rfl
  | (n, v) :: r, m, h => by
    unfold bindC
    rw [bindC_out fun w hw => h w (List.mem_cons_of_mem _ hw)]
    split
    · rfl
    · have : x ≠ n := by rintro rfl; exact h v List.mem_cons_self
      simp [this]
theorem bindL_get {kindOf : Str → Option NameKind} {x : Str} {v : Value} : ∀ {P : List Str} {vs : List Value} {i : Nat} {m : Str → Option Value}, P.Nodup → P[i]? = some x → vs[i]? = some v → kindOf x = some .local →
    bindL kindOf (P.zip vs) m x = some v
  | [], _, _, _, _, h, _, _ => by simp at h
  | _ :: _, [], _, _, _, _, h, _ => by simp at h
  | p :: P, w :: vs, 0, m, nd, h1, h2, hk => by
    simp at h1 h2; subst h1; subst h2
    show bindL kindOf ((p, w) :: P.zip vs) m p = _
    unfold bindL
    rw [bindL_out fun v hv => (List.nodup_cons.mp nd).1 (List.of_mem_zip hv).1, if_pos hk]
    simp
  | p :: P, w :: vs, i + 1, m, nd, h1, h2, hk => by
    show bindL kindOf ((p, w) :: P.zip vs) m x = _
    unfold bindL
    exact bindL_get (i := i) (List.nodup_cons.mp nd).2 (by simpa using h1) (by simpa using h2) hk
theorem bindC_get {kindOf : Str → Option NameKind} {x : Str} {v : Value} : ∀ {P : List Str} {vs : List Value} {i : Nat} {m : Str → Option Value}, P.Nodup → P[i]? = some x → vs[i]? = some v → kindOf x ≠ some .local →
    bindC kindOf (P.zip vs) m x = some v
  | [], _, _, _, _, h, _, _ => by simp at h
  | _ :: _, [], _, _, _, _, h, _ => by simp at h
  | p :: P, w :: vs, 0, m, nd, h1, h2, hk => by
    simp at h1 h2; subst h1; subst h2
    show bindC kindOf ((p, w) :: P.zip vs) m p = _
    unfold bindC
    rw [bindC_out fun v hv => (List.nodup_cons.mp nd).1 (List.of_mem_zip hv).1, if_neg hk]
    simp
  | p :: P, w :: vs, i + 1, m, nd, h1, h2, hk => by
    show bindC kindOf ((p, w) :: P.zip vs) m x = _
    unfold bindC
    exact bindC_get (i := i) (List.nodup_cons.mp nd).2 (by simpa using h1) (by simpa using h2) hk

/-- the names' values at the entry -/
def start (N : List Str) (vs : List V) : St := vs.map some ++ List.replicate (N.length - vs.length) none

/-- the context of a def's body, at its entry; an exception leaves the frame, then lies as CX says -/
def cxOf (CX : CXT) (P : Program) (w : World) (K : PySem.W.Frag) (mg : Str → Option Value) (base : Heap) (N : List Str) (qual : Str) (scope : Scope) (f : Addr) (cd : Value) (A : Around) (outer : List Env) (s : Shared) (H : Hp) (E : XK) : Cx where
  prog := P
  w := w
  K := K
  mg := mg
  base := base
  A := A.deeper (envOfC qual scope s.heap.objs.size f cd)
  N := N
  s₀ := s
  H₀ := H
  env := envOfC qual scope s.heap.objs.size f cd
  outer := outer
  stack := envOfC qual scope s.heap.objs.size f cd :: outer
  ex := []
  calm := true
  fn := fun _ => true
  pn := []
  xe := fun e s' => wpAny (model P w) (A.deeper (envOfC qual scope s.heap.objs.size f cd)) (leaving (envOfC qual scope s.heap.objs.size f cd) e) (fun _ s'' => CX outer H s E e s'') (fun e' s'' => CX outer H s E e' s'') s'

theorem cell_has {sc : Scope} {n : Nat} {x : Str} (h : sc.names.lookup x = some .cell) : ∃ c, (cellsFrom n sc.names []).lookup x = some c := by
  have q := PySem.W.cellsFrom_some sc.names n [] (.inl h)
  exact Option.isSome_iff_exists.mp q

theorem inv_start {CX : CXT} {P : Program} {w : World} {K : PySem.W.Frag} {mg : Str → Option Value} {base : Heap} {N ps : List Str} {qual : Str} {scope : Scope} {f : Addr} {cd : Value} {A : Around} {outer : List Env} {s s1 : Shared} {H : Hp} {E : XK} {us : List Value} {vs : List V}
    (S : FnScope N ps scope) (hd : A.handled = none) (e0 : Env0 P w K mg base A outer s H) (hl : vs.length = ps.length) (r : Vals vs us)
    (x : InCallC s s.heap.objs.size (bindL (envOfC qual scope s.heap.objs.size f cd).kindOf (ps.zip us) fun _ => none) (cellsFrom (s.heap.objs.size + 1) scope.names []) (bindC (envOfC qual scope s.heap.objs.size f cd).kindOf (ps.zip us) fun _ => none) s1) :
    Inv (cxOf CX P w K mg base N qual scope f cd A outer s H E) [] (start N vs) H s1 := by
  have hpl : ps.length ≤ N.length := by have := congrArg List.length S.pre; rw [List.length_take] at this; omega
  obtain ⟨h1, tk, rfl, hk⟩ := x.done
  have noA : ∀ b : Addr, b ∉ (cxOf CX P w K mg base N qual scope f cd A outer s H E).ex := fun b z => absurd (show b ∈ ([] : List Addr) from z) (by simp)
  refine ⟨⟨e0.mod, S.kind, rfl, rfl, Nat.le_refl _, fun y z c h1 h2 => ?_, fun y hy => ?_, fun y c _ h => ?_, fun _ => hd, Around.frames_deeper e0.frames, .inr ⟨rfl, rfl⟩, fun b z => absurd z (noA b), e0.bs, e0.bsz, fun b _ _ => noA b, fun b z => absurd z (noA b), e0.funs, e0.frf⟩,
    rfl, e0.bare, Un.kept hk, ⟨_, x.toInCall.ns, fun i y v h1 h2 h3 => ?_⟩, fun y c h => ⟨_, x.cell y c h⟩, e0.hok.fresh (Nat.le_refl _), fun y c h => ?_, fun p hp => absurd (show p ∈ ([] : List (Addr × Obj)) from hp) (by simp), e0.hok.kept hk, ?_⟩
  · exact name_of_addr x.apart (PySem.mem_of_lookup h1) (PySem.mem_of_lookup h2)
  · have hy : scope.names.lookup y = some .cell ∨ scope.names.lookup y = some .free := hy
    rcases hy with hy | hy
    · exact cell_has hy
    · exact absurd rfl (S.nofree _ (PySem.mem_of_lookup hy))
  · exact Nat.le_of_lt (x.above y c (PySem.mem_of_lookup h))
  · have hi : i < vs.length := by
      unfold start at h2
      by_cases hi : i < vs.length
      · exact hi
      · rw [List.getElem?_append_right (by simpa using hi)] at h2
        rw [List.getElem?_replicate] at h2
        split at h2 <;> cases h2
    have ha : vs[i]? = some v := by
      unfold start at h2
      rw [List.getElem?_append_left (by simpa using hi), List.getElem?_map] at h2
      cases e : vs[i]? with
      | none => rw [e] at h2; cases h2
      | some a => rw [e] at h2; cases h2; rfl
    obtain ⟨u, hu, rv⟩ := r.get ha
    have hp : ps[i]? = some y := by
      rw [← S.pre, List.getElem?_take_of_lt (by omega)]; exact h1
    have ndP : ps.Nodup := by rw [← S.pre]; exact S.nd.sublist (List.take_sublist _ _)
    refine ⟨u, rv, ?_⟩
    rcases S.par y (List.mem_of_getElem? hp) with k | k
    · exact .inl ⟨k, bindL_get ndP hp hu k⟩
    · obtain ⟨c, e⟩ := cell_has (n := s.heap.objs.size + 1) k
      refine .inr ⟨.inl k, c, e, ?_⟩
      have q := x.cell y c e
      rw [bindC_get ndP hp hu (by show scope.names.lookup y ≠ _; rw [k]; decide)] at q
      exact q
  · exact e0.hok.fresh (Nat.le_of_lt (x.above y c (PySem.mem_of_lookup h)))
  · unfold start
    show _ = N.length
    rw [List.length_append, List.length_map, List.length_replicate]
    omega

/-- THE RULE: a def (or a method) of the text, by its body. The body's reading t is chosen for each entry; it is run at the parameters' values -/
theorem fn_of {CX : CXT} {P : Program} {w : World} {K : PySem.W.Frag} {mg : Str → Option Value} {base : Heap} {k : Nat} {f : Addr} {name qual : Str} {params : Arguments} {body : List Stmt} {scope : Scope} {dV kV doc pm cdv ct oc : Value} {an od : Option Addr}
    {osl : Array (Option Value)} {N ps : List Str} {sp : Sp} (lk : K.lookup f = some ⟨oc, od, .func (PySem.W.fnOf name qual params body scope dV kV doc pm an cdv ct), osl⟩) (hcd : PySem.W.codeIn K cdv qual = true) (S : FnScope N ps scope)
    (len : ∀ vs H Q E, sp vs H Q E → vs.length = ps.length)
    (hbody : ∀ (A : Around) (outer : List Env) (s : Shared) (H : Hp) (vs : List V) (Q : VK) (E : XK), Room k (A.deeper (envOfC qual scope s.heap.objs.size f cdv)) → sp vs H Q E →
      ∃ t, PSs (cxOf CX P w K mg base N qual scope f cdv A outer s H E) body t ∧ t { nx := fun _ H' => Q .non H', rt := Q } (start N vs) H) :
    FnOk P w K mg base CX (k + 1) f (PySem.W.fnOf name qual params body scope dV kV doc pm an cdv ct) ps sp := by
  refine ⟨len, fun A outer s H args us vs Q E hr e0 hb r hsp => ?_⟩
  have hl := len _ _ _ _ hsp
  have KX : K.In s.heap := e0.mod.kin.keeps fun b o e => (e0.bs b o e).1
  have lim : s.heap.NoLimit := e0.mod.nolimit.keeps fun b o e => (e0.bs b o e).1
  have hkind : ∀ y ∈ ps.zip us, scope.names.lookup y.1 = some .local ∨ (scope.names.lookup y.1 = some .cell ∧ ((cellsFrom (s.heap.objs.size + 1) scope.names []).lookup y.1).isSome = true) := fun ⟨n, v⟩ hy => by
    rcases S.par n (List.of_mem_zip hy).1 with q | q
    · exact .inl q
    · exact .inr ⟨q, PySem.W.cellsFrom_some _ _ _ (.inl q)⟩
  refine codeAny_call_function hr.depth (KX _ _ lk) rfl S.co S.gen rfl (PySem.W.codeRec_of KX hcd) (hb _ _ _ _ ?_)
  refine wpAny_newFunctionEnv_cells S.kind hkind fun env he s1 x => ?_
  subst he
  refine ⟨lim.keeps x.toInCall.keep, codeAny_func ?_⟩
  obtain ⟨t, ht, hq⟩ := hbody A outer s H vs Q E (hr.deeper _) hsp
  have I : Inv (cxOf CX P w K mg base N qual scope f cdv A outer s H E) [] (start N vs) H s1 := inv_start S hr.hd e0 hl r x
  refine wpAny_mono (ht [] s1 (start N vs) H _ I hq) (fun fl s' hs => ?_) fun e s' hs => hs
  have fin : ∀ {σ' : St} {H' : Hp} {v : V} {u : Value}, Inv (cxOf CX P w K mg base N qual scope f cdv A outer s H E) [] σ' H' s' → RelV v u → Q v H' → CE outer P w H s Q u s' :=
    fun {σ' H' v u} J rv q => ⟨v, H', J.os, J.bare, J.base, J.hok, rv, q⟩
  cases fl with
  | ret u =>
    obtain ⟨v, σ', H', J, rv, q⟩ := hs
    exact fin J rv q
  | next =>
    obtain ⟨σ', H', J, q⟩ := hs
    exact fin (v := V.non) (u := Value.none) J rfl q
  | brk =>
    obtain ⟨_, _, _, q⟩ := hs
    exact False.elim q
  | cont =>
    obtain ⟨_, _, _, q⟩ := hs
    exact False.elim q
end L2

namespace L2
open PySem PySem.Spec PyProof.Rows
section
variable {X : Cx} {x : Str} {p pos : Pos} {e : Expr} {es : List Expr} {t : TA} {id T : String} {r : List V → Hp → VK → Prop}

def tCB (r : List V → Hp → VK → Prop) (t : TA) : TE := fun σ H Q => t σ H fun vs H1 => r vs H1 Q
/-- f(e, ..), f a built-in function -/
theorem pe_callB (hc : CallR X (.builtin id) r) (hg : Gl X x) (hm : X.mg x = none) (hv : bootBuiltins x = some (.builtin id)) (ha : PA X (e :: es) t) (hn : x ≠ "__name__" := by decide) (hdb : (x == ("__debug__" : Str)) = false := by decide)
    (he : starEach (e :: es) X.env = (false, eval e X.env) :: starEach es X.env := by rfl) (hpl : (backTo pos (starEach es X.env)).any (·.1) = false := by rfl) : PE X (.Call (.Name x p) (e :: es) [] pos) (tCB r t) := by
  intro pins s σ H Q I h
  refine wpAny_Call_Name_kw (ld_blt I hg hm hv ?_ hn hdb)
  exact PyProof.Rows.callWith_builtin1 (thn (ha pos pins s σ H _ I h) fun us s1 ⟨vs, H1, I1, r1, q1⟩ => hc pins s1 σ H1 vs us Q I1 r1 q1) he hpl
/-- T(e, ..), T a built-in type -/
theorem pe_callTy (hc : CallR X (.type T) r) (hg : Gl X x) (hm : X.mg x = none) (hv : bootBuiltins x = some (.type T)) (ha : PA X (e :: es) t) (hn : x ≠ "__name__" := by decide) (hdb : (x == ("__debug__" : Str)) = false := by decide)
    (he : starEach (e :: es) X.env = (false, eval e X.env) :: starEach es X.env := by rfl) (hpl : (backTo pos (starEach es X.env)).any (·.1) = false := by rfl) : PE X (.Call (.Name x p) (e :: es) [] pos) (tCB r t) := by
  intro pins s σ H Q I h
  refine wpAny_Call_Name_kw (ld_blt I hg hm hv ?_ hn hdb)
  exact PyProof.Rows.callWith_type1 (thn (ha pos pins s σ H _ I h) fun us s1 ⟨vs, H1, I1, r1, q1⟩ => hc pins s1 σ H1 vs us Q I1 r1 q1) he hpl
end
end L2

namespace HT
open PySem PyProof.Rows

/-- t < u of tuples of ints -/
def lexLt : List Int → List Int → Bool
  | [], [] => false
  | [], _ :: _ => true
  | _ :: _, [] => false
  | x :: xs, y :: ys => if x = y then lexLt xs ys else decide (x < y)
section
open PySem.SeqAt
open PySem.AutoSeq1 (wpAny_loadPart')
open PySem.MeetsSeq PySem.MeetsSeq2 PySem.MeetsSeq3

end

section
variable {prog : Program} {w : World} {A : Around} {E : Value → Shared → Prop} {s : Shared}

/-- t + u, t not empty -/
theorem cat_tup {t b : Addr} {vs ws : List Value} {Q : Value → Shared → Prop} (ht : IsTup s.heap t vs.toArray) (hb : IsTup s.heap b ws.toArray) (hv : vs ≠ [])
    (h1 : ws = [] → Q (.ref t) s) (h2 : ws ≠ [] → Q (.ref s.heap.objs.size) { s with heap := s.heap.push { cls := .type "tuple", data := .seq (vs ++ ws).toArray } })
    (hsz : vs.length + ws.length ≤ sizeLine) : wpAny (model prog w) A (binaryOp .Add (.ref t) (.ref b)) Q E s := by
  obtain ⟨⟨cls, dd, data, sl⟩, ho, hc, n, hd⟩ := id ht
  obtain ⟨⟨cls2, dd2, data2, sl2⟩, ho2, hc2, n2, hd2⟩ := id hb
  simp only at hc hd hc2 hd2
  subst hc hd hc2 hd2
  have e : vs.toArray ++ ws.toArray = (vs ++ ws).toArray := by simp
  by_cases hw : ws = []
  · exact concat_meets ⟨_, ho, rfl⟩ ⟨_, ho2, rfl⟩ noFill_tuple_add seq_tuple_add PySem.F.slot_tuple_add PySem.F.entry_tuple_add (PySem.F.args_tuple_add_2 _ _)
      (tuple_addW1 t b vs.toArray ws.toArray n n2 dd dd2 sl sl2 (by simpa using hv) (by simp [hw])) ⟨ho, ho2, h1 hw⟩
  · refine concat_meets ⟨_, ho, rfl⟩ ⟨_, ho2, rfl⟩ noFill_tuple_add seq_tuple_add PySem.F.slot_tuple_add PySem.F.entry_tuple_add (PySem.F.args_tuple_add_2 _ _)
      (tuple_addW2 t b vs.toArray ws.toArray n n2 dd dd2 sl sl2 (by simpa using hv) (by simpa using hw) (by rw [List.size_toArray, List.size_toArray]; exact hsz)) ⟨ho, ho2, ?_⟩
    rw [e]
    exact h2 hw

/-! ### t[a:b], not the whole -/
/-- a slice's bound as a place among n (d where it is left out) -/
def sIx (n d : Nat) : Option Int → Nat
  | none => d
  | some v => if v < 0 then (v + (n : Int)).toNat else min v.toNat n
theorem sIx_none (n d : Nat) : sIx n d none = d := rfl
theorem sIx_nat (n d k : Nat) : sIx n d (some (k : Int)) = min k n := by
  show (if (k : Int) < 0 then ((k : Int) + (n : Int)).toNat else min (k : Int).toNat n) = min k n
  rw [if_neg (by omega), Int.toNat_natCast]
theorem sIx_le (n d : Nat) (hd : d ≤ n) (o : Option Int) : sIx n d o ≤ n := by
  cases o with
  | none => exact hd
  | some v =>
    show (if v < 0 then (v + (n : Int)).toNat else min v.toNat n) ≤ n
    by_cases hv : v < 0
    · rw [if_pos hv]; omega
    · rw [if_neg hv]; exact Nat.min_le_right _ _
theorem clip_eq (v : Int) (n d : Nat) : (if v < 0 then max (v + (n : Int)) 0 else min v (n : Int)) = ((sIx n d (some v) : Nat) : Int) := by
  show (if v < 0 then max (v + (n : Int)) 0 else min v (n : Int)) = (((if v < 0 then (v + (n : Int)).toNat else min v.toNat n) : Nat) : Int)
  by_cases hv : v < 0
  · simp only [if_pos hv]; omega
  · simp only [if_neg hv]; omega
theorem adjust_gen (lo hi : Option Int) (n : Nat) : Builtin.Slice.sliceAdjust lo hi 1 (n : Int) = (((sIx n 0 lo : Nat) : Int), ((sIx n n hi : Nat) : Int)) := by
  have h1 : ¬ ((1 : Int) < 0) := by omega
  unfold Builtin.Slice.sliceAdjust
  simp only [h1, if_false]
  refine Prod.ext ?_ ?_
  · cases lo with
    | none => rfl
    | some v => exact clip_eq v n 0
  · cases hi with
    | none => rfl
    | some v => exact clip_eq v n n
theorem places_gen (i j : Nat) : Builtin.Slice.slicePlaces (i : Int) (j : Int) 1 = j - i := by
  unfold Builtin.Slice.slicePlaces
  have h1 : (1 : Int) > 0 := by omega
  simp only [h1, if_true, Int.ediv_one]
  split <;> omega
theorem slicePart_ {v : Value} {o : Option Int} {Q : Option Int → Shared → Prop} (p : IsPart v o) (h : Q o s) : wpAny (model prog w) A (Builtin.Slice.slicePartIndex v) Q E s := by
  cases p with
  | none => exact slicePart_none h
  | int i t => exact slicePart_int h
theorem sliceApplied_gen {sl : Addr} {vl vu : Value} {lo hi : Option Int} {n : Nat} {Q : Int × Int × Nat → Shared → Prop} (hs : s.heap.IsSliceOf sl vl vu .none) (pl : IsPart vl lo) (pu : IsPart vu hi)
    (h : Q (((sIx n 0 lo : Nat) : Int), 1, sIx n n hi - sIx n 0 lo) s) : wpAny (model prog w) A (Builtin.Slice.sliceApplied (.ref sl) (pure (n : Int))) Q E s := by
  obtain ⟨os, hos, hcs, hds⟩ := id hs
  unfold Builtin.Slice.sliceApplied Builtin.Slice.sliceFields
  refine wpAny_bind (wpAny_bind (wpAny_field hos hds (x := vl) rfl (wpAny_bind (wpAny_field hos hds (x := vu) rfl (wpAny_bind (wpAny_field hos hds (x := .none) rfl (wpAny_pure ?_)))))))
  refine wpAny_bind (slicePart_none ?_)
  show wpAny _ _ (if ((1 : Int) == 0) = true then _ else _) _ _ s
  rw [if_neg (by decide)]
  refine wpAny_bind (slicePart_ pl (wpAny_bind (slicePart_ pu (wpAny_bind (wpAny_pure ?_)))))
  show wpAny _ _ (match Builtin.Slice.sliceAdjust lo hi 1 (n : Int) with | (lo, hi) => pure (lo, (1 : Int), Builtin.Slice.slicePlaces lo hi 1)) _ _ s
  rw [adjust_gen lo hi n]
  show wpAny _ _ (pure (((sIx n 0 lo : Nat) : Int), (1 : Int), Builtin.Slice.slicePlaces ((sIx n 0 lo : Nat) : Int) ((sIx n n hi : Nat) : Int) 1)) _ _ s
  rw [places_gen]
  exact wpAny_pure h
theorem pick_gen (xs : Array Value) (i k : Nat) : ((List.range k).filterMap fun (m : Nat) => xs[((i : Int) + (m : Int) * 1).toNat]?).toArray = ((xs.toList.drop i).take k).toArray := by
  have e : (fun (m : Nat) => xs[((i : Int) + (m : Int) * 1).toNat]?) = fun m => xs[i + m]? := by
    funext m
    have : ((i : Int) + (m : Int) * 1).toNat = i + m := by omega
    rw [this]
  rw [e]
  have := pick_run xs i k
  rw [List.filterMap_map] at this
  have e2 : ((fun x => xs[x]?) ∘ fun x => i + x) = fun m => xs[i + m]? := rfl
  rw [e2] at this
  rw [this]

theorem getItem_tuple_cut {t sl : Addr} {items : Array Value} {vl vu : Value} {lo hi : Option Int} {Q : Value → Shared → Prop} (ht : IsTup s.heap t items) (hs : s.heap.IsSliceOf sl vl vu .none) (pl : IsPart vl lo) (pu : IsPart vu hi)
    (hw : ¬ (sIx items.size 0 lo = 0 ∧ sIx items.size items.size hi = items.size))
    (h : Q (.ref s.heap.objs.size) { s with heap := s.heap.push { cls := .type "tuple", data := .seq ((items.toList.drop (sIx items.size 0 lo)).take (sIx items.size items.size hi - sIx items.size 0 lo)).toArray } })
    (hsz : items.size ≤ sizeLine) : wpAny (model prog w) A (getItem (.ref t) (.ref sl)) Q E s := by
  have htake : sizeOk (.seq ((items.toList.drop (sIx items.size 0 lo)).take (sIx items.size items.size hi - sIx items.size 0 lo)).toArray) := by
    show ((items.toList.drop (sIx items.size 0 lo)).take (sIx items.size items.size hi - sIx items.size 0 lo)).toArray.size ≤ sizeLine
    rw [List.size_toArray, List.length_take, List.length_drop, Array.length_toList]
    omega
  have hj : sIx items.size items.size hi ≤ items.size := sIx_le _ _ (Nat.le_refl _) hi
  obtain ⟨os, hos, hcs, hds⟩ := id hs
  have hTs : s.TypeIs (.ref sl) "slice" := ⟨os, hos, hcs⟩
  unfold getItem
  try with_reducible refine wpAny_holding ?_
  first | refine wpAny_bind (wpAny_pure ?_) | skip
  refine wpAny_bind (wpAny_sequenceKey ht.typeIs (by decide) ?_)
  refine wpAny_bind (wpAny_callSpecial?_slot (name := Str.ofString "__getitem__") ht.typeIs PyProof.Rows.slot_tuple_getitem
    (wpAny_call_entry PyProof.Rows.slot_tuple_getitem ht.typeIs entry_tuple_getitem ?_ (args_tuple_getitem _ _)))
  show wpAny _ _ (Builtin.Tuple.tupleItemsOf (.ref t) >>= _) _ _ s
  refine wpAny_bind (tupleItemsOf_ ht ?_)
  refine wpAny_bind (wpAny_typeOf hTs ?_)
  rw [if_pos (by decide)]
  refine wpAny_bind (sliceApplied_gen hs pl pu ?_)
  have hno : ¬ ((((sIx items.size 0 lo : Nat) : Int) == 0 && (1 : Int) == 1 && (sIx items.size items.size hi - sIx items.size 0 lo) == items.size) = true) := by
    intro q
    rw [Bool.and_eq_true, Bool.and_eq_true] at q
    have q1 : ((sIx items.size 0 lo : Nat) : Int) = 0 := eq_of_beq q.1.1
    have q2 : sIx items.size items.size hi - sIx items.size 0 lo = items.size := eq_of_beq q.2
    exact hw ⟨by omega, by omega⟩
  show wpAny _ _ (if (((sIx items.size 0 lo : Nat) : Int) == 0 && (1 : Int) == 1 && (sIx items.size items.size hi - sIx items.size 0 lo) == items.size) = true then _ else _) _ _ s
  rw [if_neg hno, pick_gen]
  first
    | exact wpAny_bind (m := Builtin.Tuple.tupleExact _) (wpAny_newObj_type (wpAny_pure ⟨_, rfl, wpAny_pure h⟩) htake)
    | exact wpAny_bind (m := Builtin.Tuple.tupleExact _) (wpAny_newObj_type (wpAny_bind (wpAny_pure (wpAny_pure ⟨_, rfl, wpAny_pure h⟩))) htake)
    | exact wpAny_bind (wpAny_bind (m := Builtin.Tuple.tupleExact _) (wpAny_newObj_type (wpAny_pure (wpAny_pure ⟨_, rfl, wpAny_pure h⟩)) htake))
    | exact wpAny_bind (wpAny_bind (m := Builtin.Tuple.tupleExact _) (wpAny_newObj_type (wpAny_pure ⟨_, rfl, wpAny_pure h⟩) htake))
end
end HT

namespace L2
open PySem PySem.Spec PyProof.Rows

/-! ### the parts of a slice -/
abbrev TO := St → Hp → (Option Int → Hp → Prop) → Prop
/-- a slice's part (left out, or an int) -/
def PO (X : Cx) (e : Option Expr) (t : TO) : Prop :=
  ∀ (pins : List (Addr × Obj)) (s : Shared) (σ : St) (H : Hp) (Q : Option Int → Hp → Prop), Inv X pins σ H s → t σ H Q →
    wpAny (model X.prog X.w) X.A (evalPart e X.env) (fun u s' => ∃ o H', Inv X pins σ H' s' ∧ IsPart u o ∧ Q o H') X.xe s
def tNoPart : TO := fun _ H Q => Q none H
def tPart (t : TE) : TO := fun σ H Q => t σ H fun x H1 => ∃ i, x = .int i ∧ Q (some i) H1

section
variable {X : Cx} {e : Expr} {te : TE} {lo hi : Option Expr} {tl th : TO} {pos p2 : Pos}

theorem po_none : PO X none tNoPart := by
  intro pins s σ H Q I h
  rw [evalPart_none]
  exact wpAny_pure ⟨none, H, I, .none, h⟩
theorem po_some (h : PE X e te) : PO X (some e) (tPart te) := by
  intro pins s σ H Q I hw
  rw [evalPart_some]
  refine thn (h pins s σ H _ I hw) fun u s1 ⟨x, H1, I1, r1, q1⟩ => ?_
  obtain ⟨i, rfl, q⟩ := q1
  obtain ⟨t, rfl⟩ := r1
  exact ⟨some i, H1, I1, .int i t, q⟩

/-- what a slice of a value is, by values: the slice object stands at sl -/
def SlR (X : Cx) (r : V → Option Int → Option Int → Hp → VK → Prop) : Prop :=
  ∀ (pins : List (Addr × Obj)) (s : Shared) (σ : St) (H : Hp) (x : V) (v vl vu : Value) (lo hi : Option Int) (sl : Addr) (Q : VK), Inv X pins σ H s → RelV x v → s.heap.IsSliceOf sl vl vu .none → IsPart vl lo → IsPart vu hi → r x lo hi H Q →
    ∃ T id, typeLookup (.type T) "__getitem__" = pure (some (.builtin id)) ∧ s.TypeIs v T ∧ wpAny (model X.prog X.w) X.A (getItem v (.ref sl)) (EP X pins σ Q) X.xe s
def tSl (r : V → Option Int → Option Int → Hp → VK → Prop) (te : TE) (tl th : TO) : TE := fun σ H Q => te σ H fun x H1 => tl σ H1 fun l H2 => th σ H2 fun u H3 => r x l u H3 Q
/-- a[lo:hi], any a -/
theorem pe_slice {r : V → Option Int → Option Int → Hp → VK → Prop} (hr : SlR X r) (he : PE X e te) (hl : PO X lo tl) (hu : PO X hi th) : PE X (.Subscript e (.Slice lo hi none p2) pos) (tSl r te tl th) := by
  intro pins s σ H Q I h
  refine Subscript_ (thn (he pins s σ H _ I h) fun v s1 ⟨x, H1, I1, r1, q1⟩ => ?_)
  refine wpAny_Slice (thn (hl pins s1 σ H1 _ I1 q1) fun vl s2 ⟨l, H2, I2, pl, q2⟩ => thn (hu pins s2 σ H2 _ I2 q2) fun vu s3 ⟨u, H3, I3, pu, q3⟩ => ?_)
  rw [evalPart_none]
  refine wpAny_pure ?_
  have I4 : Inv X pins σ H3 { s3 with heap := s3.heap.push { cls := .type "slice", data := .fields #[vl, vu, .none] } } := I3.kept (t' := s3.toks) fun b ob q => Heap.get?_push_of_some _ q
  obtain ⟨T, id, hT, ht, hg⟩ := hr pins { s3 with heap := s3.heap.push { cls := .type "slice", data := .fields #[vl, vu, .none] } } σ H3 x v vl vu l u s3.heap.objs.size Q I4 r1 (Heap.IsSliceOf.new ..) pl pu q3
  show wpAny (model X.prog X.w) X.A (subscriptTail e (.Slice lo hi none p2) v (.ref s3.heap.objs.size)) (EP X pins σ Q) X.xe { s3 with heap := s3.heap.push { cls := .type "slice", data := .fields #[vl, vu, .none] } }
  exact tail_any (ops := [.ref s3.heap.objs.size, v]) ht hT hg (by with_unfolding_all rfl)

/-- the items of xs[lo:hi] -/
def cutV (xs : List V) (lo hi : Option Int) : List V := (xs.drop (HT.sIx xs.length 0 lo)).take (HT.sIx xs.length xs.length hi - HT.sIx xs.length 0 lo)
theorem cutV_length (xs : List V) (lo hi : Option Int) : (cutV xs lo hi).length ≤ xs.length := by
  unfold cutV
  rw [List.length_take, List.length_drop]
  omega
/-- t[lo:hi], not the whole of it (the whole would be t itself) -/
def rSlT (K : PySem.W.Frag) : V → Option Int → Option Int → Hp → VK → Prop := fun x lo hi H Q => ∃ a xs, x = .ref a ∧ SqT K H a xs ∧
  ¬ (HT.sIx xs.length 0 lo = 0 ∧ HT.sIx xs.length xs.length hi = xs.length) ∧ ∀ p, H p = none → Q (.ref p) (upd H p (.tup (cutV xs lo hi)))
theorem sl_tup : SlR X (rSlT X.K) := by
  intro pins s σ H x v vl vu lo hi sl Q I rx hs pl pu h
  obtain ⟨a, xs, rfl, hx, hw, q⟩ := h
  cases rx
  obtain ⟨its, r, ht, hz⟩ := I.tuple hx
  have hlen : its.toArray.size = xs.length := by rw [List.size_toArray]; exact r.length.symm
  refine ⟨"tuple", _, PyProof.Rows.slot_tuple_getitem.lookup, ht.typeIs, ?_⟩
  refine HT.getItem_tuple_cut ht hs pl pu (by rw [hlen]; exact hw) ?_ (by rw [hlen]; exact hz)
  rw [hlen]
  refine ⟨.ref s.heap.objs.size, _, I.laid (t' := s.toks) (o := .tup (cutV xs lo hi)) (fun b ob q => Heap.get?_push_of_some _ q) (Nat.le_refl _) ?_, rfl, q _ (I.hok.fresh (Nat.le_refl _))⟩
  exact ⟨Nat.le_trans (cutV_length xs lo hi) hz, _, (r.drop (HT.sIx xs.length 0 lo)).take (HT.sIx xs.length xs.length hi - HT.sIx xs.length 0 lo), IsTup.new _ _⟩

/-! ### t < u, t + u -/
def rLtT (K : PySem.W.Frag) : R2 := fun x y H Q => ∃ a b ns ms, x = .ref a ∧ y = .ref b ∧ SqT K H a (ns.map V.int) ∧ SqT K H b (ms.map V.int) ∧ Q (.bl (HT.lexLt ns ms)) H
/-- t + u, t not empty: u empty gives t itself -/
def rCatT (K : PySem.W.Frag) : R2 := fun x y H Q => ∃ a b xs ys, x = .ref a ∧ y = .ref b ∧ SqT K H a xs ∧ SqT K H b ys ∧ xs ≠ [] ∧ xs.length + ys.length ≤ sizeLine ∧
  (ys = [] → Q (.ref a) H) ∧ (ys ≠ [] → ∀ p, H p = none → Q (.ref p) (upd H p (.tup (xs ++ ys))))
theorem Vals.nil_iff {xs : List V} {us : List Value} (r : Vals xs us) : us = [] ↔ xs = [] := by
  cases r with
  | nil => simp
  | cons _ _ => simp
theorem op_catT : OpR X (binaryOp .Add) (rCatT X.K) := by
  intro pins s σ H x y v u Q I rx ry h
  obtain ⟨a, b, xs, ys, rfl, rfl, ha, hb, hx, hz, q1, q2⟩ := h
  cases rx
  cases ry
  obtain ⟨its, r1, p1, _⟩ := I.tuple ha
  obtain ⟨its2, r2, p2, _⟩ := I.tuple hb
  refine HT.cat_tup p1 p2 (fun z => hx (r1.nil_iff.mp z)) (fun z => ⟨.ref a, H, I, rfl, q1 (r2.nil_iff.mp z)⟩) (fun z => ?_) (by rw [← r1.length, ← r2.length]; exact hz)
  refine ⟨.ref s.heap.objs.size, _, I.laid (t' := s.toks) (o := .tup (xs ++ ys)) (fun b ob q => Heap.get?_push_of_some _ q) (Nat.le_refl _) ?_, rfl, q2 (fun w => z (r2.nil_iff.mpr w)) _ (I.hok.fresh (Nat.le_refl _))⟩
  exact ⟨by rw [List.length_append]; exact hz, _, r1.append r2, IsTup.new _ _⟩
end
end L2

namespace L2
open PySem PySem.Spec PyProof.Rows

/-! ### places -/
/-- the place that an index of any sign means -/
def ixN (n : Nat) (i : Int) : Option Nat := if 0 ≤ i then (if i < n then some i.toNat else none) else if -(n : Int) ≤ i then some (i + n).toNat else none
def atI {α : Type} (xs : List α) (i : Int) : Option α := (ixN xs.length i).bind fun j => xs[j]?
theorem ixN_seq {n : Nat} {i : Int} {j : Nat} (h : ixN n i = some j) : seqIndex? i n = some j ∧ j < n ∧ -(n : Int) ≤ i ∧ i < n := by
  unfold ixN at h
  by_cases h0 : 0 ≤ i
  · rw [if_pos h0] at h
    by_cases h1 : i < n
    · rw [if_pos h1] at h
      have e : i.toNat = j := Option.some.inj h
      exact ⟨by rw [seqIndex_of h0 h1, e], by omega, by omega, h1⟩
    · rw [if_neg h1] at h; cases h
  · rw [if_neg h0] at h
    by_cases h1 : -(n : Int) ≤ i
    · rw [if_pos h1] at h
      have e : (i + n).toNat = j := Option.some.inj h
      exact ⟨by rw [seqIndex_neg (by omega) h1, e], by omega, h1, by omega⟩
    · rw [if_neg h1] at h; cases h
theorem atI_get {α : Type} {xs : List α} {i : Int} {v : α} (h : atI xs i = some v) : ∃ j, seqIndex? i xs.length = some j ∧ xs[j]? = some v ∧ j < xs.length ∧ -(xs.length : Int) ≤ i ∧ i < xs.length := by
  unfold atI at h
  cases e : ixN xs.length i with
  | none => rw [e] at h; cases h
  | some j =>
    rw [e] at h
    obtain ⟨h1, h2, h3, h4⟩ := ixN_seq e
    exact ⟨j, h1, h, h2, h3, h4⟩
theorem atI_nat {α : Type} {xs : List α} {j : Nat} {v : α} (h : xs[j]? = some v) : atI xs (j : Int) = some v := by
  have hj : j < xs.length := (List.getElem?_eq_some_iff.mp h).1
  have e : ixN xs.length (j : Int) = some j := by
    unfold ixN
    rw [if_pos (by omega), if_pos (by omega)]; simp
  unfold atI; rw [e]; exact h
/-! ### what may be subscripted -/
/-- what stands as an index of a plain subscript -/
def PlainIx (b : Expr) : Prop := ∀ o i, subscripted b false o i = operate [o, i] (getItem o i)
/-- a subscript by values -/
def IxR (X : Cx) (r : R2) : Prop :=
  ∀ (value slice : Expr) (pins : List (Addr × Obj)) (s : Shared) (σ : St) (H : Hp) (x y : V) (v u : Value) (Q : VK), Inv X pins σ H s → RelV x v → RelV y u → r x y H Q →
    subscripted slice false v u = operate [v, u] (getItem v u) → wpAny (model X.prog X.w) X.A (subscriptTail value slice v u) (EP X pins σ Q) X.xe s
/-- a call of a builtin's method by values: the receiver, the arguments -/
def MtR (X : Cx) (id : String) (r : V → List V → Hp → VK → Prop) : Prop :=
  ∀ (pins : List (Addr × Obj)) (s : Shared) (σ : St) (H : Hp) (x : V) (xs : List V) (v : Value) (us : List Value) (Q : VK), Inv X pins σ H s → RelV x v → Vals xs us → r x xs H Q →
    wpAny (model X.prog X.w) X.A (call (.builtin id) (v :: us)) (EP X pins σ Q) X.xe s
section
variable {X : Cx} {a b : Expr} {ta tb : TE} {pos : Pos}
/-- a[b] -/
theorem pe_ix {r : R2} (hr : IxR X r) (ha : PE X a ta) (hb : PE X b tb) (hs : PlainIx b) : PE X (.Subscript a b pos) (tOp r ta tb) := by
  intro pins s σ H Q I h
  exact Subscript_ (binT ha hb I h fun v u s2 x y H2 I2 rx ry q => hr a b pins s2 σ H2 x y v u Q I2 rx ry q (hs _ _))

def rIxL (K : PySem.W.Frag) : R2 := fun x y H Q => ∃ p xs i v, x = .ref p ∧ y = .int i ∧ SqL K H p xs ∧ atI xs i = some v ∧ Q v H
def rIxT (K : PySem.W.Frag) : R2 := fun x y H Q => ∃ p xs i v, x = .ref p ∧ y = .int i ∧ SqT K H p xs ∧ atI xs i = some v ∧ Q v H
def rIxS : R2 := fun x y H Q => ∃ z i c, x = .str z ∧ y = .int i ∧ z.length ≤ sizeLine ∧ atI z.cps.toList i = some c ∧ Q (.str ⟨#[c]⟩) H
theorem ix_list : IxR X (rIxL X.K) := by
  intro value slice pins s σ H x y v u Q I rx ry h hs
  obtain ⟨p, xs, i, z, rfl, rfl, hq, he, q⟩ := h
  cases rx
  obtain ⟨t, rfl⟩ := ry
  obtain ⟨its, r, pl, hz⟩ := I.list hq
  obtain ⟨j, h1, h2, h3, h4, h5⟩ := atI_get he
  obtain ⟨w, ew, rw'⟩ := r.get h2
  have hl := r.length
  have hn := line63
  have fin : EP X pins σ Q w s := ⟨z, H, I, rw', q⟩
  by_cases h0 : 0 ≤ i
  · have hj : i.toNat = j := by
      rw [seqIndex_of h0 h5] at h1
      exact Option.some.inj h1
    exact item_listR pl.isList h0 (by omega) (by rw [hj]; simpa using ew) fin hs
  · have hj : (i + (its.toArray.size : Int)).toNat = j := by
      rw [seqIndex_neg (by omega) h4] at h1
      rw [List.size_toArray, ← hl]
      exact Option.some.inj h1
    exact subscriptTail_builtinR (x := w) pl.isList.typeIs slot_list_getitem.lookup
      (wpAny_getItem_list_neg (Q := fun r s' => r = w ∧ EP X pins σ Q r s') pl.isList (by omega) (by rw [List.size_toArray] <;> omega) (by omega) (by rw [hj]; simpa using ew) ⟨rfl, fin⟩) hs
theorem ix_tup : IxR X (rIxT X.K) := by
  intro value slice pins s σ H x y v u Q I rx ry h hs
  obtain ⟨p, xs, i, z, rfl, rfl, hq, he, q⟩ := h
  cases rx
  obtain ⟨t, rfl⟩ := ry
  obtain ⟨its, r, pl, hz⟩ := I.tuple hq
  obtain ⟨j, h1, h2, h3, h4, h5⟩ := atI_get he
  obtain ⟨w, ew, rw'⟩ := r.get h2
  have hl := r.length
  have hn := line63
  have fin : EP X pins σ Q w s := ⟨z, H, I, rw', q⟩
  exact subscriptTail_builtinR (x := w) pl.typeIs slot_tuple_getitem.lookup
    (getItem_tuple (j := j) (Q := fun r s' => r = w ∧ EP X pins σ Q r s') pl (by omega) (by omega) (by rw [List.size_toArray, ← hl]; exact h1) (by simpa using ew) ⟨rfl, fin⟩) hs
theorem ix_str : IxR X rIxS := by
  intro value slice pins s σ H x y v u Q I rx ry h hs
  obtain ⟨z, i, c, rfl, rfl, hz, he, q⟩ := h
  obtain ⟨t, rfl⟩ := rx
  obtain ⟨t', rfl⟩ := ry
  obtain ⟨j, h1, h2, h3, h4, h5⟩ := atI_get he
  have hl : z.cps.toList.length = z.length := by simp [Str.length]
  rw [hl] at h1 h4 h5
  have hn := line63
  exact tail_any (typeIs_str s z t) slot_str_getitem.lookup (getItem_str (c := c) (by
    have e1 : decide (i < -(2 ^ 63 : Int)) = false := decide_eq_false (by omega)
    have e2 : decide (i ≥ 2 ^ 63) = false := decide_eq_false (by omega)
    rw [e1, e2, Bool.or_false]) (by rw [h1]; simpa using h2) ⟨.str ⟨#[c]⟩, H, I.tok _, ⟨_, rfl⟩, q⟩) hs
/-- list, tuple or str -/
def rIx (K : PySem.W.Frag) : R2 := fun x y H Q => rIxL K x y H Q ∨ rIxT K x y H Q ∨ rIxS x y H Q
/-! ### xs[i] = v, any sign -/
/-- the list's object behind a store -/
theorem mapSeq_set (its : List Value) (n j : Nat) (u : Value) : Obj.mapSeq (·.setIfInBounds j u) { cls := .type "list", data := .seq its.toArray n } = { cls := .type "list", data := .seq (its.set j u).toArray n } := by
  simp [Obj.mapSeq]
theorem Inv.lst {pins : List (Addr × Obj)} {σ : St} {H : Hp} {s : Shared} {p : Addr} {xs : List V} (I : Inv X pins σ H s) (h : H p = some (.lst xs)) :
    ∃ (its : List Value) (n : Nat), Vals xs its ∧ s.heap.get? p = some { cls := .type "list", data := .seq its.toArray n } ∧ xs.length ≤ sizeLine := by
  obtain ⟨z, its, n, r, e⟩ := I.hok p _ h
  exact ⟨its, n, r, e, z⟩
/-- the list at p is written by an update of its object -/
theorem Inv.lstUpd {pins : List (Addr × Obj)} {σ : St} {H : Hp} {s : Shared} {p : Addr} {xs ys : List V} {its its' : List Value} {n n' : Nat} {f : Obj → Obj} (I : Inv X pins σ H s) (h : H p = some (.lst xs))
    (ho : s.heap.get? p = some { cls := .type "list", data := .seq its.toArray n }) (hf : f { cls := .type "list", data := .seq its.toArray n } = { cls := .type "list", data := .seq its'.toArray n' }) (r : Vals ys its') (hz : ys.length ≤ sizeLine) (t : Nat) :
    Inv X pins σ (upd H p (.lst ys)) { s with heap := s.heap.update p f, toks := t } := by
  have e : (s.heap.update p f).get? p = some { cls := .type "list", data := .seq its'.toArray n' } := by
    rw [Heap.get?_update_self f ho (by rw [hf] <;> rfl), hf]
  refine I.write (x := p) (e := p) (by rw [h]; trivial) (.inl rfl) (fun b u hb q => (Heap.get?_update_other _ _ (Ne.symm hb)).trans q) ⟨_, e⟩ ?_
  exact ⟨hz, its', n', r, e⟩
def rSetL : V → V → V → Hp → (Hp → Prop) → Prop := fun o i v H Q => ∃ p xs k j, o = .ref p ∧ i = .int k ∧ H p = some (.lst xs) ∧ ixN xs.length k = some j ∧ Q (upd H p (.lst (xs.set j v)))
theorem set_list : PSet X rSetL := by
  intro pins s σ H o i v ov iv u Q I ro ri rv h
  obtain ⟨p, xs, k, j, rfl, rfl, hp, hj, q⟩ := h
  cases ro
  obtain ⟨t, rfl⟩ := ri
  obtain ⟨its, n, r, ho, hz⟩ := I.lst hp
  obtain ⟨h1, h2, h3, h4⟩ := ixN_seq hj
  have hl := r.length
  have hn := line63
  have I' : Inv X pins σ (upd H p (.lst (xs.set j v))) { s with heap := s.heap.update p (Obj.mapSeq (·.setIfInBounds j u)) } :=
    I.lstUpd hp ho (mapSeq_set its n j u) (r.set rv j) (by rw [List.length_set]; exact hz) s.toks
  by_cases h0 : 0 ≤ k
  · have hk : k.toNat = j := by
      rw [seqIndex_of h0 h4] at h1
      exact Option.some.inj h1
    exact PySem.W.ki_setAt ho h0 (by omega) (by rw [List.size_toArray, ← hl]; exact h4) (by rw [hk]; exact ⟨_, I', q⟩)
  · have hk : (k + (its.toArray.size : Int)).toNat = j := by
      rw [seqIndex_neg (by omega) h3] at h1
      rw [List.size_toArray, ← hl]
      exact Option.some.inj h1
    exact PySem.W.ki_setBack ho (by omega) (by rw [List.size_toArray, ← hl]; exact h3) (by omega) (by rw [hk]; exact ⟨_, I', q⟩)

/-! ### slices -/
theorem slice_bounds (lo hi : Option Int) (n : Nat) : (sliceBounds lo hi none n).1 = ((HT.sIx n 0 lo : Nat) : Int) ∧ (sliceBounds lo hi none n).2.1 = ((HT.sIx n n hi : Nat) : Int) ∧ (sliceBounds lo hi none n).2.2 = 1 := by
  refine ⟨?_, ?_, rfl⟩
  · cases lo with
    | none => simp [sliceBounds, HT.sIx]
    | some i =>
      simp only [sliceBounds, HT.sIx, Option.getD_none, show (1 : Int) > 0 by decide, if_true]
      by_cases h : i < 0
      · simp only [h, if_true] <;> omega
      · simp only [h, if_false] <;> omega
  · cases hi with
    | none => simp [sliceBounds, HT.sIx]
    | some i =>
      simp only [sliceBounds, HT.sIx, Option.getD_none, show (1 : Int) > 0 by decide, if_true]
      by_cases h : i < 0
      · simp only [h, if_true] <;> omega
      · simp only [h, if_false] <;> omega
theorem slicePick_cut (its : List Value) (lo hi : Option Int) : slicePick its.toArray lo hi none = ((its.drop (HT.sIx its.length 0 lo)).take (HT.sIx its.length its.length hi - HT.sIx its.length 0 lo)).toArray := by
  obtain ⟨h1, h2, h3⟩ := slice_bounds lo hi its.toArray.size
  unfold slicePick
  rw [h1, h2, h3]
  simp only [sliceRange_one, pick_run, List.size_toArray] <;> rfl
/-- xs[lo:hi] of a list: a new list -/
def rSlL (K : PySem.W.Frag) : V → Option Int → Option Int → Hp → VK → Prop := fun x lo hi H Q => ∃ a xs, x = .ref a ∧ SqL K H a xs ∧ ∀ p, H p = none → Q (.ref p) (upd H p (.lst (cutV xs lo hi)))
theorem sl_list : SlR X (rSlL X.K) := by
  intro pins s σ H x v vl vu lo hi sl Q I rx hs pl pu h
  obtain ⟨a, xs, rfl, hx, q⟩ := h
  cases rx
  obtain ⟨its, r, ht, hz⟩ := I.list hx
  have hlen := r.length
  refine ⟨"list", _, slot_list_getitem.lookup, ht.isList.typeIs, ?_⟩
  refine wpAny_getItem_list_slice ht.isList hs pl pu .none (by simp) ?_ (by rw [List.size_toArray] <;> omega)
  rw [slicePick_cut, ← hlen]
  refine ⟨.ref s.heap.objs.size, _, I.laid (t' := s.toks) (o := .lst (cutV xs lo hi)) (fun b ob q => Heap.get?_push_of_some _ q) (Nat.le_refl _) ?_, rfl, q _ (I.hok.fresh (Nat.le_refl _))⟩
  exact ⟨Nat.le_trans (cutV_length xs lo hi) hz, _, 0, (r.drop (HT.sIx xs.length 0 lo)).take (HT.sIx xs.length xs.length hi - HT.sIx xs.length 0 lo), Heap.get?_push_size _ rfl⟩

/-! ### in, not in: flat items -/
def flatV : V → Bool
  | .non => true
  | .bl _ => true
  | .int _ => true
  | .str _ => true
  | _ => false
/-- == of flat values -/
def eqV : V → V → Bool
  | .non, .non => true
  | .bl a, .bl b => a == b
  | .bl a, .int b => (if a then 1 else 0) == b
  | .int a, .bl b => a == (if b then 1 else 0)
  | .int a, .int b => a == b
  | .str a, .str b => a == b
  | _, _ => false
theorem eqAt_V {A : Around} {s : Shared} {y x : V} {u v : Value} (ry : RelV y u) (rx : RelV x v) (fy : flatV y = true) (fx : flatV x = true) : SeqAt.EqAt A s u v (eqV y x) := by
  cases y with
  | non =>
    cases ry
    cases x with
    | non => cases rx; exact SeqAt.EqAt.same _
    | bl b => cases rx; exact SeqAt.EqAt.none_bool b
    | int b => obtain ⟨t, rfl⟩ := rx; exact SeqAt.EqAt.none_int b t
    | str b => obtain ⟨t, rfl⟩ := rx; exact SeqAt.EqAt.none_str b t
    | _ => exact absurd (show false = true from fx) Bool.false_ne_true
  | bl a =>
    cases ry
    cases x with
    | non => cases rx; exact SeqAt.EqAt.bool_none a
    | bl b => cases rx; exact SeqAt.EqAt.bool_bool a b
    | int b => obtain ⟨t, rfl⟩ := rx; exact SeqAt.EqAt.bool_int a b t
    | str b => obtain ⟨t, rfl⟩ := rx; exact SeqAt.EqAt.bool_str a b t
    | _ => exact absurd (show false = true from fx) Bool.false_ne_true
  | int a =>
    obtain ⟨t', rfl⟩ := ry
    cases x with
    | non => cases rx; exact SeqAt.EqAt.int_none a t'
    | bl b => cases rx; exact SeqAt.EqAt.int_bool a t' b
    | int b => obtain ⟨t, rfl⟩ := rx; exact SeqAt.EqAt.int_int a t' b t
    | str b => obtain ⟨t, rfl⟩ := rx; exact SeqAt.EqAt.int_str a t' b t
    | _ => exact absurd (show false = true from fx) Bool.false_ne_true
  | str a =>
    obtain ⟨t', rfl⟩ := ry
    cases x with
    | non => cases rx; exact SeqAt.EqAt.str_none a t'
    | bl b => cases rx; exact SeqAt.EqAt.str_bool a t' b
    | int b => obtain ⟨t, rfl⟩ := rx; exact SeqAt.EqAt.str_int a t' b t
    | str b => obtain ⟨t, rfl⟩ := rx; exact SeqAt.EqAt.str_str a t' b t
    | _ => exact absurd (show false = true from fx) Bool.false_ne_true
  | _ => exact absurd (show false = true from fy) Bool.false_ne_true
/-- the items' answers, read off the values (a value's own answer does not lean on its token) -/
def eqU (x : V) (u : Value) : Bool := match u with
  | .none => eqV .non x
  | .bool b => eqV (.bl b) x
  | .int i _ => eqV (.int i) x
  | .str z _ => eqV (.str z) x
  | _ => false
theorem eqU_of {x y : V} {u : Value} (r : RelV y u) (f : flatV y = true) : eqU x u = eqV y x := by
  cases y with
  | non => cases r; rfl
  | bl b => cases r; rfl
  | int i => obtain ⟨t, rfl⟩ := r; rfl
  | str z => obtain ⟨t, rfl⟩ := r; rfl
  | _ => exact absurd (show false = true from f) Bool.false_ne_true
theorem any_eqU {x : V} : ∀ {xs : List V} {us : List Value}, Vals xs us → xs.all flatV = true → us.any (eqU x) = xs.any fun y => eqV y x
  | _, _, .nil, _ => rfl
  | y :: xs, u :: us, .cons r t, f => by
    rw [List.all_cons, Bool.and_eq_true] at f
    rw [List.any_cons, List.any_cons, eqU_of r f.1, any_eqU t f.2]
theorem mem_eqAt {A : Around} {s : Shared} {x : V} {v : Value} (rx : RelV x v) (fx : flatV x = true) : ∀ {xs : List V} {us : List Value}, Vals xs us → xs.all flatV = true → ∀ u ∈ us, SeqAt.EqAt A s u v (eqU x u)
  | _, _, .nil, _ => fun u hu => by cases hu
  | y :: xs, u :: us, .cons r t, f => fun u' hu => by
    rw [List.all_cons, Bool.and_eq_true] at f
    rcases List.mem_cons.mp hu with rfl | hu
    · rw [eqU_of r f.1]; exact eqAt_V r rx f.1 fx
    · exact mem_eqAt rx fx t f.2 u' hu
def inV (x : V) (xs : List V) : Bool := xs.any fun y => eqV y x
/-- x in a list or tuple of flat items -/
def rIn (K : PySem.W.Frag) (neg : Bool) : R2 := fun x y H Q => ∃ p xs, y = .ref p ∧ (SqL K H p xs ∨ SqT K H p xs) ∧ flatV x = true ∧ xs.all flatV = true ∧ Q (.bl (if neg then !inV x xs else inV x xs)) H
theorem op_in_seq : OpR X (compareOp .In) (rIn X.K false) := by
  intro pins s σ H x y v u Q I rx ry h
  obtain ⟨p, xs, rfl, hq, fx, fs, q⟩ := h
  cases ry
  rcases hq with hq | hq
  · obtain ⟨its, r, pl, hz⟩ := I.list hq
    refine SeqAt.in_listAt (eqU x) pl.isList (fun w hw => mem_eqAt rx fx r fs w (by simpa using hw)) ⟨.bl _, H, I, rfl, ?_⟩
    rw [show its.toArray.any (eqU x) = its.any (eqU x) by simp, any_eqU r fs]
    exact q
  · obtain ⟨its, r, pl, hz⟩ := I.tuple hq
    refine SeqAt.in_tupleAt (eqU x) pl (fun w hw => mem_eqAt rx fx r fs w (by simpa using hw)) ⟨.bl _, H, I, rfl, ?_⟩
    rw [show its.toArray.any (eqU x) = its.any (eqU x) by simp, any_eqU r fs]
    exact q
theorem op_notIn_seq : OpR X (compareOp .NotIn) (rIn X.K true) := by
  intro pins s σ H x y v u Q I rx ry h
  obtain ⟨p, xs, rfl, hq, fx, fs, q⟩ := h
  cases ry
  rcases hq with hq | hq
  · obtain ⟨its, r, pl, hz⟩ := I.list hq
    refine SeqAt.notIn_listAt (eqU x) pl.isList (fun w hw => mem_eqAt rx fx r fs w (by simpa using hw)) ⟨.bl _, H, I, rfl, ?_⟩
    rw [show its.toArray.any (eqU x) = its.any (eqU x) by simp, any_eqU r fs]
    exact q
  · obtain ⟨its, r, pl, hz⟩ := I.tuple hq
    refine SeqAt.notIn_tupleAt (eqU x) pl (fun w hw => mem_eqAt rx fx r fs w (by simpa using hw)) ⟨.bl _, H, I, rfl, ?_⟩
    rw [show its.toArray.any (eqU x) = its.any (eqU x) by simp, any_eqU r fs]
    exact q
/-! ### len, list(x), tuple(x) of any list or tuple that is read -/
theorem call_len_seq : CallR X (.builtin "len") (fun xs H Q => ∃ p ys, xs = [.ref p] ∧ (SqL X.K H p ys ∨ SqT X.K H p ys) ∧ Q (.int ys.length) H) := by
  intro pins s σ H xs us Q I r h
  obtain ⟨p, ys, rfl, hq, q⟩ := h
  obtain ⟨u, rfl, rx⟩ := vals1 r
  cases rx
  have hn := line63
  rcases hq with hq | hq
  · obtain ⟨its, r', pl, hz⟩ := I.list hq
    have hlen := r'.length
    exact Calls.call_len_list pl.isList (by simp only [List.size_toArray] <;> omega) ⟨.int ys.length, H, I.tok _, ⟨s.toks + 1, by rw [List.size_toArray, hlen]⟩, q⟩
  · obtain ⟨its, r', pl, hz⟩ := I.tuple hq
    have hlen := r'.length
    exact len_tuple pl (by simp only [List.size_toArray] <;> omega) ⟨.int ys.length, H, I.tok _, ⟨s.toks + 1, by rw [List.size_toArray, hlen]⟩, q⟩
theorem call_len_str : CallR X (.builtin "len") (fun xs H Q => ∃ z, xs = [.str z] ∧ z.length ≤ sizeLine ∧ Q (.int z.length) H) := by
  intro pins s σ H xs us Q I r h
  obtain ⟨z, rfl, hz, q⟩ := h
  obtain ⟨u, rfl, t, rfl⟩ := vals1 r
  have hn := line63
  exact len_str (by omega) ⟨.int z.length, H, I.tok _, ⟨_, rfl⟩, q⟩
theorem call_tuple_of : CallR X (.type "tuple") (fun xs H Q => ∃ p ys, xs = [.ref p] ∧ ((SqL X.K H p ys ∧ ∀ l, H l = none → Q (.ref l) (upd H l (.tup ys))) ∨ (SqT X.K H p ys ∧ Q (.ref p) H))) := by
  intro pins s σ H xs us Q I r h
  obtain ⟨p, ys, rfl, h⟩ := h
  obtain ⟨u, rfl, rx⟩ := vals1 r
  cases rx
  rcases h with ⟨hq, q⟩ | ⟨hq, q⟩
  · obtain ⟨its, r', pl, hz⟩ := I.list hq
    have hlen := r'.length
    refine call_tuple_list pl.isList (fun h' kp => ?_) (by simp only [List.size_toArray] <;> omega)
    have I1 : Inv X pins σ H { s with heap := h' } := I.kept (t' := s.toks) kp
    have I2 : Inv X pins σ (upd H h'.objs.size (.tup ys)) { s with heap := h'.push { cls := .type "tuple", data := .seq its.toArray } } :=
      I1.laid (t' := s.toks) (fun b o e => Heap.get?_push_of_some _ e) (Nat.le_refl _) (show ObjOk X.prog X.w _ _ _ (.tup ys) from ⟨hz, its, r', IsTup.new _ _⟩)
    exact ⟨.ref h'.objs.size, _, I2, rfl, q _ (I1.hok.fresh (Nat.le_refl _))⟩
  · obtain ⟨its, r', pl, hz⟩ := I.tuple hq
    exact call_tuple_same pl ⟨.ref p, H, I, rfl, q⟩

/-! ### the call of a builtin's method: o.m(..) -/
/-- the value is of that builtin type -/
def tyV (K : PySem.W.Frag) (T : String) (x : V) (H : Hp) : Prop := match x with
  | .str _ => T = "str"
  | .int _ => T = "int"
  | .ref p => (T = "list" ∧ ∃ xs, SqL K H p xs) ∨ (T = "tuple" ∧ ∃ o, K.lookup p = some o ∧ o.cls = .type "tuple" ∧ o.dict = none) ∨
      (T = "dict" ∧ ((∃ kvs, H p = some (.dK kvs)) ∨ ∃ kvs, H p = some (.dT kvs))) ∨ (T = "set" ∧ ∃ S n, H p = some (.set S n))
  | _ => False
theorem tyV_is {pins : List (Addr × Obj)} {σ : St} {H : Hp} {s : Shared} {T : String} {x : V} {v : Value} (I : Inv X pins σ H s) (r : RelV x v) (ty : tyV X.K T x H) :
    s.TypeIs v T ∧ ∀ a, v = .ref a → ∃ ob, s.heap.get? a = some ob ∧ ob.dict = none := by
  cases x with
  | str z =>
    obtain ⟨t, rfl⟩ := r
    cases (show T = "str" from ty)
    exact ⟨typeIs_str s z t, fun _ e => nomatch e⟩
  | int i =>
    obtain ⟨t, rfl⟩ := r
    cases (show T = "int" from ty)
    exact ⟨typeIs_int s i t, fun _ e => nomatch e⟩
  | ref p =>
    cases r
    rcases ty with ⟨rfl, xs, hq⟩ | ⟨rfl, o, hk, hc, hd⟩ | ⟨rfl, hk⟩ | ⟨rfl, S, n, hk⟩
    · obtain ⟨its, _, pl, _⟩ := I.list hq
      refine ⟨pl.isList.typeIs, fun a e => ?_⟩
      cases e
      obtain ⟨o, n, e, c, hd, _⟩ := pl
      exact ⟨o, e, hd⟩
    · refine ⟨⟨o, I.kIn p o hk, hc⟩, fun a e => ?_⟩
      cases e
      exact ⟨o, I.kIn _ o hk, hd⟩
    · have z : ∃ o, s.heap.get? p = some o ∧ o.ExactDict := by
        rcases hk with ⟨kvs, hk⟩ | ⟨kvs, hk⟩
        · obtain ⟨_, _, _, _, o, _, _, e, ex, _⟩ := I.hok p _ hk
          exact ⟨o, e, ex⟩
        · obtain ⟨_, _, _, _, o, _, _, e, ex, _⟩ := I.hok p _ hk
          exact ⟨o, e, ex⟩
      obtain ⟨o, e, ex⟩ := z
      refine ⟨⟨o, e, ex.1⟩, fun a e2 => ?_⟩
      cases e2
      exact ⟨o, e, ex.2.1⟩
    · obtain ⟨o, _, _, _, e, ex, _⟩ := I.hok p _ hk
      refine ⟨⟨o, e, ex.1⟩, fun a e2 => ?_⟩
      cases e2
      exact ⟨o, e, ex.2.1⟩
  | _ => exact False.elim ty
def tBM0 (K : PySem.W.Frag) (T : String) (r : V → List V → Hp → VK → Prop) (to : TE) : TE := fun σ H Q => to σ H fun x H1 => tyV K T x H1 ∧ r x [] H1 Q
def tBM (K : PySem.W.Frag) (T : String) (r : V → List V → Hp → VK → Prop) (to : TE) (t : TA) : TE := fun σ H Q => to σ H fun x H1 => tyV K T x H1 ∧ t σ H1 fun xs H2 => r x xs H2 Q
variable {o e : Expr} {es : List Expr} {to : TE} {t : TA} {name : Str} {apos cpos : Pos} {T id : String} {r : V → List V → Hp → VK → Prop}
theorem pe_bm0 (pa : PlainAttrs T) (slot : Slot T name id) (hty : typeOf (.builtin id) = pure (.type "method_descriptor")) (hm : MtR X id r) (ho : PE X o to)
    (hbase : attributeBase o name X.env (eval o X.env) = eval o X.env := by rfl) (hline : (apos.endLine == cpos.line) = true := by rfl) : PE X (.Call (.Attribute o name apos) [] [] cpos) (tBM0 X.K T r to) := by
  intro pins s σ H Q I h
  refine wpAny_Call_method0_late hbase hline (thn (ho pins s σ H _ I h) fun v s1 ⟨x, H1, I1, r1, ty, q1⟩ => ?_)
  obtain ⟨h1, h2⟩ := tyV_is I1 r1 ty
  exact ⟨T, id, pa, slot, hty, h1, h2, Calls.callWith_builtin rfl (PySem.evalArgs_none (hm pins s1 σ H1 x [] v [] Q I1 r1 .nil q1))⟩
theorem pe_bm (pa : PlainAttrs T) (slot : Slot T name id) (hty : typeOf (.builtin id) = pure (.type "method_descriptor")) (hm : MtR X id r) (ho : PE X o to) (ha : PA X (e :: es) t)
    (hbase : attributeBase o name X.env (eval o X.env) = eval o X.env := by rfl)
    (hfew : ((backTo cpos (starEach (e :: es) X.env)).all (fun x => !x.1) && (backToKw cpos (keywordEach [] X.env)).all (fun x => x.1.isSome)
      && decide ((e :: es).length + ([] : List Keyword).length + (if ([] : List Keyword).isEmpty then 0 else 1) < 30)) = true := by rfl)
    (hline : (apos.endLine == cpos.line) = true := by rfl) (hs : starEach (e :: es) X.env = (false, eval e X.env) :: starEach es X.env := by rfl) (hplain : (backTo cpos (starEach es X.env)).any (·.1) = false := by rfl) :
    PE X (.Call (.Attribute o name apos) (e :: es) [] cpos) (tBM X.K T r to t) := by
  intro pins s σ H Q I h
  refine wpAny_Call_method_late hbase hfew hline rfl (thn (ho pins s σ H _ I h) fun v s1 ⟨x, H1, I1, r1, ty, q1⟩ => ?_)
  obtain ⟨h1, h2⟩ := tyV_is I1 r1 ty
  refine ⟨T, id, pa, slot, hty, h1, h2, ?_⟩
  have hA := ha cpos pins s1 σ H1 _ I1 q1
  rw [hs] at hA ⊢
  refine Calls.callWith_builtin (by show (false || (backTo cpos (starEach es X.env)).any (·.1)) = false; rw [hplain] <;> rfl) (Calls.evalArgs_plain ?_)
  exact thn hA fun us s2 ⟨vs, H2, I2, r2, q2⟩ => hm pins s2 σ H2 x vs v us Q I2 r1 r2 q2
/- xs.append(e), list.index on a module's tuple .. are MtR facts of 06m -/
end
end L2

namespace L2
open PySem PySem.Spec PyProof.Rows

def MtM (X : Cx) (id : String) (r : V → List V → Hp → VK → Prop) : Prop :=
  ∀ (pins : List (Addr × Obj)) (s : Shared) (σ : St) (H : Hp) (x : V) (xs : List V) (v : Value) (us : List Value) (Q : VK), Inv X pins σ H s → RelV x v → Vals xs us → r x xs H Q →
    wpAny (model X.prog X.w) X.A (call (.builtin id) (v :: us)) (EP X pins σ Q) X.xe s

/-! ### lists of values -/
theorem Vals.one : ∀ {x : V} {us : List Value}, Vals [x] us → ∃ u, us = [u] ∧ RelV x u
  | _, _, .cons r .nil => ⟨_, rfl, r⟩
theorem Vals.zero : ∀ {us : List Value}, Vals [] us → us = []
  | _, .nil => rfl
theorem Vals.rep {xs : List V} {us : List Value} (h : Vals xs us) : ∀ k : Nat, Vals (List.replicate k xs).flatten (List.replicate k us).flatten
  | 0 => .nil
  | k + 1 => by
    rw [List.replicate_succ, List.replicate_succ, List.flatten_cons, List.flatten_cons]
    exact Vals.append h (Vals.rep h k)
theorem foldl_rep (its : List Value) : ∀ (k : Nat) (acc : List Value),
    List.foldl (fun x1 x2 => x1 ++ x2) acc.toArray (List.replicate k its.toArray) = (acc ++ (List.replicate k its).flatten).toArray
  | 0, acc => by simp
  | k + 1, acc => by
    have e : acc.toArray ++ its.toArray = (acc ++ its).toArray := by simp
    have e2 : (acc ++ its) ++ (List.replicate k its).flatten = acc ++ (List.replicate (k + 1) its).flatten := by
      rw [List.replicate_succ, List.flatten_cons, List.append_assoc]
    rw [← e2, ← foldl_rep its k (acc ++ its), ← e, List.replicate_succ, List.foldl_cons]

section
variable {X : Cx} {pins : List (Addr × Obj)} {σ : St} {H : Hp} {s : Shared} {l b : Addr} {xs ys zs : List V}

/-! ### the two steps: a tracked list is rewritten, a new list is laid -/
theorem Inv.lset {its its' : List Value} {n : Nat} {f : Array Value → Array Value} {t' : Nat} (I : Inv X pins σ H s) (hH : H l = some (.lst xs))
    (e : s.heap.get? l = some { cls := .type "list", data := .seq its.toArray n }) (hf : f its.toArray = its'.toArray) (hv : Vals ys its') (hz : ys.length ≤ sizeLine) :
    Inv X pins σ (upd H l (.lst ys)) { s with heap := s.heap.update l (Obj.mapSeq f), toks := t' } := by
  have q := PySem.IsL.update e f
  rw [hf] at q
  refine I.write (x := l) (e := l) (by rw [hH]; exact trivial) (.inl rfl) (fun b' u hb hu => (Heap.get?_update_other s.heap (Obj.mapSeq f) (Ne.symm hb)).trans hu) ⟨_, q⟩ ?_
  exact ⟨hz, its', _, hv, q⟩
theorem Inv.lnew {its : List Value} {t' : Nat} (I : Inv X pins σ H s) (hv : Vals ys its) (hz : ys.length ≤ sizeLine) :
    Inv X pins σ (upd H s.heap.objs.size (.lst ys)) { s with heap := s.heap.push { cls := .type "list", data := .seq its.toArray }, toks := t' } :=
  I.laid (fun _ _ q => Heap.get?_push_of_some _ q) (Nat.le_refl _) ⟨hz, its, 0, hv, Heap.get?_push_size _ rfl⟩
theorem Inv.fresh (I : Inv X pins σ H s) : H s.heap.objs.size = none := I.hok.fresh (Nat.le_refl _)
theorem Inv.lstM (I : Inv X pins σ H s) (hH : H l = some (.lst xs)) : xs.length ≤ sizeLine ∧ ∃ (its : List Value) (n : Nat), Vals xs its ∧ xs.length = its.length ∧ s.heap.get? l = some { cls := .type "list", data := .seq its.toArray n } := by
  obtain ⟨z, its, n, r, e⟩ := I.hok l _ hH
  exact ⟨z, its, n, r, r.length, e⟩

theorem notLongL {n : Nat} (h : n ≤ sizeLine) : Builtin.List.listTooLong n = false := by
  unfold Builtin.List.listTooLong
  exact decide_eq_false (by omega)
end

section
variable {X : Cx}

/-! ### methods -/
def rAppend : V → List V → Hp → VK → Prop := fun x vs H Q => ∃ l xs y, x = .ref l ∧ vs = [y] ∧ H l = some (.lst xs) ∧ xs.length < sizeLine ∧ Q .non (upd H l (.lst (xs ++ [y])))
theorem mt_append : MtM X "list.append" rAppend := by
  intro pins s σ H x vs v us Q I rx rv h
  obtain ⟨l, xs, y, rfl, rfl, hH, hz, q⟩ := h
  cases rx
  obtain ⟨u, rfl, ru⟩ := rv.one
  obtain ⟨z, its, n, r, hl, e⟩ := I.lstM hH
  refine call_meets F.slot_list_append ⟨_, e, rfl⟩ F.entry_list_append (F.args_list_append_2 _ _) (PySem.list_append l its.toArray n u (by rw [List.size_toArray]; omega)) ⟨e, ?_⟩
  refine ⟨.non, _, I.lset (its' := its ++ [u]) hH e (by simp) (r.append (.cons ru .nil)) ?_, rfl, q⟩
  rw [List.length_append, List.length_singleton]
  omega

def rExtend : V → List V → Hp → VK → Prop := fun x vs H Q => ∃ l b xs zs, x = .ref l ∧ vs = [.ref b] ∧ H l = some (.lst xs) ∧ H b = some (.lst zs) ∧ xs.length + zs.length ≤ sizeLine ∧ Q .non (upd H l (.lst (xs ++ zs)))
theorem mt_extend : MtM X "list.extend" rExtend := by
  intro pins s σ H x vs v us Q I rx rv h
  obtain ⟨l, b, xs, zs, rfl, rfl, hH, hB, hz, q⟩ := h
  cases rx
  obtain ⟨u, rfl, ru⟩ := rv.one
  cases ru
  obtain ⟨z, its, n, r, hl, e⟩ := I.lstM hH
  obtain ⟨z2, its2, n2, r2, hl2, e2⟩ := I.lstM hB
  have hsz : its.toArray.size + its2.toArray.size ≤ sizeLine := by rw [List.size_toArray, List.size_toArray]; omega
  have hlong : ¬ (!its.toArray.isEmpty && Builtin.List.listTooLong (its.toArray.size + its2.toArray.size)) = true := by
    rw [notLongL hsz, Bool.and_false]
    exact Bool.false_ne_true
  refine call_meets F.slot_list_extend ⟨_, e, rfl⟩ F.entry_list_extend (F.args_list_extend_2 _ _)
    (AutoSeq1.list_extend_list_list_0 l its.toArray n b its2.toArray n2 hlong (by rw [List.size_toArray]; omega) (by omega)) ⟨e, e2, ?_⟩
  refine ⟨.non, _, I.lset (its' := its ++ its2) hH e (by simp) (r.append r2) ?_, rfl, q⟩
  rw [List.length_append]
  omega

def rPop : V → List V → Hp → VK → Prop := fun x vs H Q => ∃ l xs y, x = .ref l ∧ vs = [] ∧ H l = some (.lst xs) ∧ xs[xs.length - 1]? = some y ∧ Q y (upd H l (.lst xs.dropLast))
def rPopAt : V → List V → Hp → VK → Prop := fun x vs H Q => ∃ l xs i k y, x = .ref l ∧ vs = [.int i] ∧ H l = some (.lst xs) ∧ -(2 ^ 63) ≤ i ∧ i < 2 ^ 63 ∧ seqIndex? i xs.length = some k ∧ xs[k]? = some y ∧ Q y (upd H l (.lst (xs.eraseIdx k)))
def rReverse : V → List V → Hp → VK → Prop := fun x vs H Q => ∃ l xs, x = .ref l ∧ vs = [] ∧ H l = some (.lst xs) ∧ Q .non (upd H l (.lst xs.reverse))
def rClear : V → List V → Hp → VK → Prop := fun x vs H Q => ∃ l xs, x = .ref l ∧ vs = [] ∧ H l = some (.lst xs) ∧ Q .non (upd H l (.lst []))
theorem mt_clear : MtM X "list.clear" rClear := by
  intro pins s σ H x vs v us Q I rx rv h
  obtain ⟨l, xs, rfl, rfl, hH, q⟩ := h
  cases rx
  have hus := rv.zero
  subst hus
  obtain ⟨z, its, n, r, hl, e⟩ := I.lstM hH
  refine call_meets F.slot_list_clear ⟨_, e, rfl⟩ F.entry_list_clear (F.args_list_clear_1 _) (AutoSeq1.list_clear_list_0 l its.toArray n (by rw [List.size_toArray]; omega)) ⟨e, ?_⟩
  exact ⟨.non, _, I.lset (its' := []) (ys := []) hH e rfl .nil (Nat.zero_le _), rfl, q⟩

/-! ### list + list, list += list, list * int -/
def rCat : R2 := fun x y H Q => ∃ l b xs zs, x = .ref l ∧ y = .ref b ∧ H l = some (.lst xs) ∧ H b = some (.lst zs) ∧ xs.length + zs.length ≤ sizeLine ∧ ∀ p, H p = none → Q (.ref p) (upd H p (.lst (xs ++ zs)))
theorem op_cat : OpR X (binaryOp .Add) rCat := by
  intro pins s σ H x y v u Q I rx ry h
  obtain ⟨l, b, xs, zs, rfl, rfl, hH, hB, hz, q⟩ := h
  cases rx
  cases ry
  obtain ⟨z, its, n, r, hl, e⟩ := I.lstM hH
  obtain ⟨z2, its2, n2, r2, hl2, e2⟩ := I.lstM hB
  refine PySem.P.add_list e e2 ?_ (by rw [List.size_toArray, List.size_toArray]; omega)
  have ea : its.toArray ++ its2.toArray = (its ++ its2).toArray := by simp
  rw [ea]
  exact ⟨.ref _, _, I.lnew (t' := s.toks) (r.append r2) (by rw [List.length_append]; omega), rfl, q _ I.fresh⟩
/-- a list times an int (a negative one is nothing) -/
def rRep : R2 := fun x y H Q => ∃ l k xs, x = .ref l ∧ y = .int k ∧ H l = some (.lst xs) ∧ -(2 ^ 63) ≤ k ∧ k < 2 ^ 63 ∧ xs.length * k.toNat ≤ sizeLine ∧
  ∀ p, H p = none → Q (.ref p) (upd H p (.lst (List.replicate k.toNat xs).flatten))
theorem len_rep {α : Type} (xs : List α) (k : Nat) : (List.replicate k xs).flatten.length = k * xs.length := by
  induction k with
  | zero => simp
  | succ k ih => rw [List.replicate_succ, List.flatten_cons, List.length_append, ih, Nat.succ_mul, Nat.add_comm]
theorem op_rep : OpR X (binaryOp .Mult) rRep := by
  intro pins s σ H x y v u Q I rx ry h
  obtain ⟨l, k, xs, rfl, rfl, hH, h1, h2, hz, q⟩ := h
  cases rx
  obtain ⟨t, rfl⟩ := ry
  obtain ⟨z, its, n, r, hl, e⟩ := I.lstM hH
  have hlen : its.toArray.size * k.toNat ≤ sizeLine := by rw [List.size_toArray, ← hl]; exact hz
  have hcap : ¬ its.toArray.size * k.toNat > (2 ^ 63 - 1) / 8 := by
    have : (sizeLine : Nat) ≤ (2 ^ 63 - 1) / 8 := by decide
    omega
  have hfit : ¬ (!Builtin.List.listFitsIndex k) = true := by
    rw [fitsIndex_both h1 h2]
    exact Bool.false_ne_true
  have hlong : ¬ Builtin.List.listTooLong (its.toArray.size * k.toNat) = true := by
    rw [notLongL hlen]
    exact Bool.false_ne_true
  have hnew : List.foldl (fun x1 x2 => x1 ++ x2) #[] (List.replicate (if its.toArray.isEmpty = true then 0 else k.toNat) its.toArray) = (List.replicate k.toNat its).flatten.toArray := by
    have f0 : ∀ m : Nat, List.foldl (fun x1 x2 => x1 ++ x2) #[] (List.replicate m its.toArray) = (List.replicate m its).flatten.toArray := fun m => by
      have := foldl_rep its m []
      rw [List.nil_append] at this
      exact this
    rw [f0]
    cases its with
    | nil => simp
    | cons a r' => rw [if_neg (by simp)]
  refine wpAny_binaryOp_repeat_ref (T := "list") (U := "int") (by decide) ⟨_, e, rfl⟩ (fun s' => typeIs_int s' k t) noFill_list_mul F.fills_int_mul F.slot_int_rmul repeat_list F.slot_int_index.lookup
    (call_meets F.slot_int_rmul (typeIs_int s k t) F.entry_int_rmul (F.args_int_rmul_2 _ _) (int___rmul___int_list k t l its.toArray n)
      ⟨e, rfl, ⟨_, e, rfl⟩, call_meets F.slot_list_mul ⟨_, e, rfl⟩ F.entry_list_mul (F.args_list_mul_2 _ _) (AutoListH.list___mul___list_int_3 l its.toArray n k t hfit hcap hlong) ⟨e, ?_⟩⟩)
  rw [hnew]
  exact ⟨.ref _, _, I.lnew (t' := s.toks) (r.rep k.toNat) (by rw [len_rep, Nat.mul_comm]; exact hz), rfl, q _ I.fresh⟩

/-! ### del xs[i] -/
end

/-! ### xs[a:b] = ys -/
section
variable {prog : Program} {w : World} {A : Around} {E : Value → Shared → Prop} {s : Shared}
end

section
variable {X : Cx}
end
end L2

namespace Att
open PySem PySem.W PySem.Calls PyProof.Rows

/-! ### the script -/
theorem ints_of_wellAll {P : Params} {h : Heap} : ∀ (ns : List Int) (vs : List Value), WellAll P h vs (ns.map WData.int) → IntsAre vs ns := by
  intro ns
  induction ns with
  | nil =>
    intro vs w
    rw [List.map_nil] at w
    cases w
    exact .nil
  | cons n ns ih =>
    intro vs w
    rw [List.map_cons] at w
    cases w with
    | cons a b =>
      cases a
      exact .cons _ _ (ih _ b)

theorem script_of {l : OpenLaw} {n : Nat} (hn : l.most = some n) {P : Params} {h : Heap} {args : List WData} {vals : List Value}
    (hpre : l.row.toRowW.claim.pre args = true) (hwl : WellAll P h vals args) :
    ∃ a vs ns, vals = [Value.ref a] ∧ args = [WData.list (ns.map WData.int)] ∧ h.get? a = some { cls := .type "list", data := .seq vs.toArray } ∧ IntsAre vs ns ∧ ns.length ≤ n := by
  have hsh : WShape.hasAll [] args [.list .int] = true := (pre_splitW hpre).1
  have hc : l.pre.holds [] { args := args } = true := (pre_splitW hpre).2
  obtain ⟨d, r, rfl, h1, h2⟩ := hasAllW_cons hsh
  obtain rfl := hasAllW_nil h2
  obtain ⟨xs, rfl, h3⟩ := hasW_list h1
  obtain ⟨ns, rfl⟩ := items_int h3
  have hlen : ns.length ≤ n := by
    unfold OpenLaw.pre at hc
    have h4 : (WTm.not (.lt (.lit (.int (n : Int))) (.len (.arg 0)))).holds [] { args := [.list (ns.map .int)] } = true := by
      have h4 := (holds_andW hc).1
      rw [hn] at h4
      exact h4
    have h5 := condW_of h4 (w_not (w_lt w_lit (w_len_list (w_arg rfl))))
    rw [List.length_map] at h5
    refine Nat.le_of_not_lt fun q => ?_
    have q' : (n : Int) < ((ns.length : Nat) : Int) := by omega
    first
      | (rw [decide_eq_true q'] at h5; exact absurd h5 (by decide))
      | (simp at h5; omega)
  cases hwl with
  | cons w1 w2 =>
    cases w2
    cases w1 with
    | list ho hall => exact ⟨_, _, ns, rfl, rfl, ho, ints_of_wellAll ns _ hall, hlen⟩

theorem post_true (l : OpenLaw) (args : List WData) : l.row.toRowW.claim.post args (.bool true) args = true :=
  postW_of (r := l.row.toRowW) (X := (true == true))
    (show WShape.has [] (.bool true) .bool = true by first | rfl | decide | simp [WShape.has, WShape.arms, WShape.armsAll])
    (show (WTm.eq .res (.lit (.bool true))).value [] { args := args, res := some (.bool true), after := args } = some (.bool (true == true)) from w_eq_bool (w_res rfl) w_lit) rfl

/-! ### the attachment: holds_open's last premise (the goal 'hc' behind k_head) from a wpAny of the law's body -/
/-- the same from a codeAny of the CALL (for a layer whose function contracts speak of calls) -/
theorem attach_call {l : OpenLaw} {n : Nat} {q : Program} {loose : List Str} {XP : (Str → Option Value) → Heap → Prop} {YP : World → Heap → Prop} {d : DefRec}
    (hn : l.most = some n) (hdf : d.params.defaults = [])
    (call : ∀ (w : World) (s₀ s₁ : Shared) (mg mb : Str → Option Value) (fa : Addr) (o : Obj) (pm cd doc : Value) (a : Addr) (vs : List Value) (ns : List Int),
      Ground q loose [] XP w s₀ mg mb s₁.heap → YP w s₁.heap →
      s₁.heap.get? fa = some o → o.data = .func (docDef d.name d.params d.body d.scope pm cd doc) → s₁.heap.CodeRec cd d.name → mg d.name = some (.ref fa) →
      s₁.heap.get? a = some { cls := .type "list", data := .seq vs.toArray } → IntsAre vs ns → ns.length ≤ n → s₁.gens = #[] →
      codeAny (model l.prog w) callerA (.call (.ref fa) ⟨[.ref a], []⟩) (fun r s' => r = .ok (.ret (.bool true)) ∧ OldK s₁.heap s'.heap ∧ s'.os = s₁.os ∧ AllBare s'.gens) s₁) :
    WalkO q loose XP YP l.row.toRowW d [] (fun f vs => PySem.call f vs) := by
  intro w s₀ s₁ mg mb G Y fa o pm cd doc dV kV ho hd hcd hD hmg hg args vals as hpre hlay hrd hwl hlo
  obtain rfl : dV = .none := Dflts.none hD hdf
  obtain rfl : kV = .none := Dflts.noKw hD
  obtain ⟨a, vs, ns, rfl, rfl, hobj, hints, hlen⟩ := script_of hn hpre hwl
  refine enter_call (codeAny_mono (call w s₀ s₁ mg mb fa o pm cd doc a vs ns G Y ho (fd_plain hd) hcd hmg hobj hints hlen hg) fun r s' hq => ?_)
  obtain ⟨rfl, h2, h3, h4⟩ := hq
  exact ⟨.inl ⟨.bool true, .bool true, [], rfl, fun _ => rfl, .bool true, post_true l _, fun _ => ⟨List.Pairwise.nil, fun _ hm => (nomatch hm)⟩⟩, h2, h3, h4⟩

/-! ### rules over ANY heap (no ledger) from facts about the written part K: the library's own take a ledger (News) for what they write -/
section
variable {prog : Program} {w : World} {A : Around} {E : Value → Shared → Prop} {s : Shared} {K : Frag}

/-! the whole heap as the ledger: makes every rule that writes through a ledger a rule over any heap -/
def noObjs (h : Heap) : Heap := { h with objs := #[] }
def ledger (h : Heap) (L d : Addr) : List (Addr × Obj) := (List.range h.objs.size).filterMap fun a => if a = L ∨ a = d then none else (h.get? a).map fun o => (a, o)
end
end Att

namespace L2
open PySem PySem.Spec PyProof.Rows

theorem vals_ints : ∀ {vs : List Value} {ns : List Int}, IntsAre vs ns → Vals (ns.map V.int) vs
  | _, _, .nil => .nil
  | _, _, .cons n t h => .cons ⟨t, rfl⟩ (vals_ints h)

/-- nothing is tracked but the script, known to the object (or it is an object of the module) -/
def Only (H : Hp) : Prop := ∀ b, H b = none ∨ ∃ o xs, H b = some (.frz o (.lst xs))

/-- THE HEAD: the law's promise, at the heap behind the top. F, the promise of the law's def, may use that base is part of the heap (so K.In base, base.Ns mainGlobals mg stand in Mod) -/
theorem law_call {P : Program} {w : World} {K : PySem.W.Frag} {mg mb : Str → Option Value} {CX : CXT} {k : Nat} {fa a : Addr} {fd : FuncData} {x : Str} {sp : Sp} {s₁ : Shared} {vs : List Value} {ns : List Int}
    (KX : K.In s₁.heap) (hns : s₁.heap.Ns mainGlobals mg) (hb : s₁.heap.Ns builtinsNs mb) (hbb : ∀ x : Str, x ≠ "__name__" → mb x = bootBuiltins x) (hlim : s₁.heap.NoLimit) (hg : s₁.gens = #[])
    (ha : s₁.heap.get? a = some { cls := .type "list", data := .seq vs.toArray }) (hi : IntsAre vs ns) (hl : ns.length ≤ sizeLine) (hr : Room k callerA)
    (F : ∀ base : Heap, K.In base → base.Ns mainGlobals mg → FnOk P w K mg base CX k fa fd [x] sp) (hbind : ∀ (s : Shared) (u : Value), BindsTo s fd ⟨[u], []⟩ [(x, u)])
    (hsp : ∀ H : Hp, Only H → SqL K H a (ns.map V.int) → sp [.ref a] H (fun v _ => v = .bl true) fun _ _ _ => False)
    (hCX : ∀ H e s', CX [] H s₁ (fun _ _ _ => False) e s' → False) :
    codeAny (model P w) callerA (.call (.ref fa) ⟨[.ref a], []⟩) (fun r s' => r = .ok (.ret (.bool true)) ∧ OldK s₁.heap s'.heap ∧ s'.os = s₁.os ∧ AllBare s'.gens) s₁ := by
  have rv := vals_ints hi
  have lenV := hi.length
  -- from an abstract heap in which nothing but the script may be tracked
  have core : ∀ H : Hp, Only H → SqL K H a (ns.map V.int) → HOk P w H s₁.heap → (∀ b, H b ≠ none → b = a) → (H a ≠ none → K.lookup a = none) →
      codeAny (model P w) callerA (.call (.ref fa) ⟨[.ref a], []⟩) (fun r s' => r = .ok (.ret (.bool true)) ∧ OldK s₁.heap s'.heap ∧ s'.os = s₁.os ∧ AllBare s'.gens) s₁ := by
    intro H hO hS hok hA hK
    have base_of : ∀ {b : Addr} {o : Obj}, s₁.heap.get? b = some o → H b = none → (hidT s₁.heap H).get? b = some o := fun e n => hidT_get e n
    have noA : ∀ {b : Addr} {o : Obj} {es : Array DictEntry} {ep : Nat}, s₁.heap.get? b = some o → o.data = .dict es ep → H b = none := fun {b o es ep} e d => by
      cases q : H b with
      | none => rfl
      | some u =>
        have e' : b = a := hA b (by rw [q]; simp)
        subst e'
        rw [ha] at e; cases e
        have d' : Data.seq vs.toArray _ = Data.dict es ep := d
        cases d'
    have nsK : ∀ {b : Addr} {m : Str → Option Value}, s₁.heap.Ns b m → (hidT s₁.heap H).Ns b m := fun {b m} ⟨o, es, ep, e, d, r⟩ => ⟨o, es, ep, base_of e (noA e d), d, r⟩
    have hKb : K.In (hidT s₁.heap H) := fun b o e => base_of (KX b o e) (by
      cases q : H b with
      | none => rfl
      | some u =>
        have e' : b = a := hA b (by rw [q]; simp)
        subst e'
        rw [hK (by rw [q]; simp)] at e; cases e)
    have hM : Mod K mg (hidT s₁.heap H) := ⟨hKb, nsK hns, ⟨mb, nsK hb, hbb⟩, let ⟨mc, h1, h2⟩ := hlim; ⟨mc, nsK h1, h2⟩⟩
    have e0 : Env0 P w K mg (hidT s₁.heap H) callerA [] s₁ H := ⟨rfl, hM, fun b o e => of_hidT e, Nat.le_of_eq (hidT_size _ _), trivial, fun b hb => absurd (show b ∈ ([] : List Addr) from hb) (by simp), hok, .of_eq hg⟩
    refine codeAny_mono ((F _ hKb (nsK hns)).run callerA [] s₁ H ⟨[.ref a], []⟩ [.ref a] [.ref a] _ _ hr e0 (hbind s₁ (.ref a)) (.cons rfl .nil) (hsp H hO hS)) fun r s' h => ?_
    cases r with
    | error e => exact (hCX H e s' h).elim
    | ok fl =>
      cases fl with
      | next => exact False.elim h
      | brk => exact False.elim h
      | cont => exact False.elim h
      | ret u =>
        obtain ⟨v, H', os, bare, un, hok', r', q⟩ := h
        have q' : v = .bl true := q
        subst q'
        obtain rfl : u = Value.bool true := r'
        refine ⟨rfl, OldK.of_keep fun b o e => ?_, os, bare⟩
        cases q : H b with
        | none => exact un.keep b o e q (by intro z; exact absurd (show b ∈ ([] : List Addr) from z) (by simp)) (by simp)
        | some u =>
          rcases hO b with z | ⟨ob, xs, z⟩
          · rw [q] at z; cases z
          · have z2 := un.frzs b ob _ z
            obtain ⟨e1, _⟩ := hok b _ z
            obtain ⟨e2, _⟩ := hok' b _ z2
            rw [e] at e1; cases e1
            exact e2
  cases hk : K.lookup a with
  | some o =>
    -- the script is one of the module's own objects
    have e := KX a o hk
    rw [ha] at e
    cases e
    refine core (fun _ => none) (fun _ => .inl rfl) (.inr ⟨_, vs.toArray, _, hk, rfl, rfl, rfl, by rw [List.size_toArray, lenV]; exact hl, by simpa using rv⟩) (fun b u z => by have z' : (none : Option HO) = some u := z; cases z') (fun b z => absurd rfl z) fun z => absurd rfl z
  | none =>
    refine core (fun b => if b = a then some (.frz { cls := .type "list", data := .seq vs.toArray } (.lst (ns.map V.int))) else none) (fun b => ?_) (.inl (.inr ⟨{ cls := .type "list", data := .seq vs.toArray }, if_pos rfl⟩)) (fun b u z => ?_) (fun b z => ?_) fun _ => hk
    · by_cases hb : b = a
      · exact .inr ⟨_, _, if_pos hb⟩
      · exact .inl (if_neg hb)
    · by_cases hb : b = a
      · have z' := (if_pos hb).symm.trans z
        cases z'
        subst hb
        exact ⟨ha, by rw [List.length_map]; exact hl, vs, _, rv, ha⟩
      · have z' := (if_neg hb).symm.trans z
        cases z'
    · by_cases hb : b = a
      · exact hb
      · exact absurd (if_neg hb) z
end L2

namespace L2
open PySem PySem.Spec PyProof.Rows

abbrev KOf {K : PySem.W.Frag} {h : Heap} (_ : K.In h) : PySem.W.Frag := K

/-- the goal that k_head leaves (case hc), from the law's promise. F gives the function object fd (K's own) once, then the promise over every base -/
theorem walk_of {l : PySem.W.OpenLaw} {n k : Nat} {q : Program} {loose : List Str} {XP : (Str → Option Value) → Heap → Prop} {YP : World → Heap → Prop} {d : DefRec} {K : Params → PySem.W.Frag} {CX : World → CXT} {sp : World → Sp} {x : Str}
    (hn : l.most = some n) (hn2 : n ≤ sizeLine) (hdf : d.params.defaults = []) (hr : Room k callerA)
    (hY : ∀ (w : World) (h : Heap), YP w h → (K w.params).In h)
    (F : ∀ (w : World) (mg : Str → Option Value) (fa : Addr) (h : Heap), (K w.params).In h → h.Ns mainGlobals mg → mg d.name = some (.ref fa) →
      ∃ fd : FuncData, (∀ (s : Shared) (u : Value), BindsTo s fd ⟨[u], []⟩ [(x, u)]) ∧
        ∀ base : Heap, (K w.params).In base → base.Ns mainGlobals mg → FnOk l.prog w (K w.params) mg base (CX w) k fa fd [x] (sp w))
    (hsp : ∀ (w : World) (H : Hp) (a : Addr) (ns : List Int), ns.length ≤ n → Only H → SqL (K w.params) H a (ns.map V.int) → sp w [.ref a] H (fun v _ => v = .bl true) fun _ _ _ => False)
    (hCX : ∀ (w : World) (H : Hp) (s : Shared) (e : Value) (s' : Shared), CX w [] H s (fun _ _ _ => False) e s' → False) :
    PySem.W.WalkO q loose XP YP l.row.toRowW d [] (fun f vs => PySem.call f vs) := by
  refine Att.attach_call hn hdf fun w s₀ s₁ mg mb fa o pm cd doc a vs ns G Y ho hd hcd hmg hobj hints hlen hg => ?_
  have KX := hY w _ Y
  obtain ⟨fd, hb, hF⟩ := F w mg fa _ KX G.T.g hmg
  exact law_call KX G.T.g G.T.b G.T.builtins G.T.nolimit hg hobj hints (Nat.le_trans hlen hn2) hr hF hb (fun H hO hS => hsp w H a ns hlen hO hS) fun H e s' => hCX w H s₁ e s'
end L2

/- THE LAST THEOREM (shape; LID, My.* are yours):
   My.Adr: a structure of the addresses that your layer names (classes, functions); My.Txt K t: a structure (Prop) of the equations over K;
   My.txt_mk : {K} {implicit addresses ..} (e1 : nsIn K mainGlobals "law" = some (some (.ref f))) (e2 : K.lookup f = some ⟨oc, od, .func (fnOf "law" "law" params body scope dV kV doc pm an cdv ct), sl⟩) (e3 : codeIn K cdv "law" = true) .. : ∃ t, My.Txt K t

(the tactic k_is has no namespace: write k_is) -/

/-! SHORT WORDS over the layer: a def of the text, its body, what a loop and a test want. -/
namespace L2
open PySem PySem.Spec PyProof.Rows

/-! ### the text by places -/
/-- the j-th statement of a class's body -/
def inClass (s : Stmt) (j : Nat) : Stmt := match s with
  | .ClassDef _ _ _ body _ _ _ _ _ _ _ => body.getD j (.Pass ⟨0, 0, 0, 0⟩)
  | _ => .Pass ⟨0, 0, 0, 0⟩
def defArgs (s : Stmt) : Arguments := match s with
  | .FunctionDef _ a _ _ _ _ _ _ _ _ => a
  | _ => { posonlyargs := [], args := [], vararg := none, kwonlyargs := [], kw_defaults := [], kwarg := none, defaults := [] }
def defBody (s : Stmt) : List Stmt := match s with
  | .FunctionDef _ _ b _ _ _ _ _ _ _ => b
  | _ => []
def defScope (s : Stmt) : Scope := match s with
  | .FunctionDef _ _ _ _ _ _ sc _ _ _ => sc
  | _ => { kind := .function, names := [], isGenerator := false, isCoroutine := false }

/-! ### no exception leaves a def -/
abbrev CX0 : CXT := fun _ _ _ _ _ _ => False
abbrev E0 : XK := fun _ _ _ => False
theorem pass0 {X : Cx} : Passes CX0 X E0 := fun _ _ _ _ _ _ _ h => h.elim

/-! ### a def (or method) of the text as it stands behind the top -/
structure Fun (K : PySem.W.Frag) (x qual : Str) (st : Stmt) (f : Addr) (fd : FuncData) : Prop where
  ex : ∃ (oc : Value) (od : Option Addr) (kV doc pm : Value) (an : Option Addr) (cdv ct : Value) (osl : Array (Option Value)),
    fd = PySem.W.fnOf x qual (defArgs st) (defBody st) (defScope st) .none kV doc pm an cdv ct ∧ K.lookup f = some ⟨oc, od, .func fd, osl⟩ ∧ PySem.W.codeIn K cdv qual = true
  kp : PySem.W.keepIn K (.ref f) = true
section
variable {P : Program} {w : World} {K : PySem.W.Frag} {mg : Str → Option Value} {base : Heap}
/-- THE RULE for a def: its body as a term of rules, and the reading of that term -/
theorem Fun.ok {x qual : Str} {st : Stmt} {f : Addr} {fd : FuncData} {N ps : List Str} {k : Nat} {sp : Sp} (F : Fun K x qual st f fd) (S : FnScope N ps (defScope st)) (len : ∀ vs H Q E, sp vs H Q E → vs.length = ps.length)
    (hbody : ∀ (cdv : Value) (A : Around) (outer : List Env) (s : Shared) (H : Hp) (vs : List V) (Q : VK) (E : XK), Room k (A.deeper (envOfC qual (defScope st) s.heap.objs.size f cdv)) → sp vs H Q E →
      ∃ t, PSs (cxOf CX0 P w K mg base N qual (defScope st) f cdv A outer s H E).nox (defBody st) t ∧ t { nx := fun _ H' => Q .non H', rt := Q } (start N vs) H) : FnOk P w K mg base CX0 (k + 1) f fd ps sp := by
  obtain ⟨oc, od, kV, doc, pm, an, cdv, ct, osl, rfl, lk, hcd⟩ := F.ex
  refine fn_of lk hcd S len fun A outer s H vs Q E hr hsp => ?_
  obtain ⟨t, h, q⟩ := hbody cdv A outer s H vs Q E hr hsp
  exact ⟨t, h.nox, q⟩
/-- how its arguments bind (no defaults): h is «fun _ _ _ _ _ _ us hl => match us, hl with | [_, _], _ => rfl», one _ a parameter -/
theorem Fun.binds {x qual : Str} {st : Stmt} {f : Addr} {fd : FuncData} {ps : List Str} (F : Fun K x qual st f fd)
    (h : ∀ (kV doc pm : Value) (an : Option Addr) (cdv ct : Value) (us : List Value), us.length = ps.length → bindArgs (PySem.W.fnOf x qual (defArgs st) (defBody st) (defScope st) .none kV doc pm an cdv ct) ⟨us, []⟩ = pure (ps.zip us)) : Binds K fd ps [] := by
  obtain ⟨oc, od, kV, doc, pm, an, cdv, ct, osl, rfl, lk, hcd⟩ := F.ex
  exact .all (h kV doc pm an cdv ct)
theorem fun_mk {x qual : Str} {st : Stmt} {f : Addr} {oc : Value} {od an : Option Addr} {osl : Array (Option Value)} {kV doc pm cdv ct : Value} (l : K.lookup f = some ⟨oc, od, .func (PySem.W.fnOf x qual (defArgs st) (defBody st) (defScope st) .none kV doc pm an cdv ct), osl⟩)
    (c : PySem.W.codeIn K cdv qual = true) (k : PySem.W.keepIn K (.ref f) = true) : Fun K x qual st f (PySem.W.fnOf x qual (defArgs st) (defBody st) (defScope st) .none kV doc pm an cdv ct) := ⟨⟨oc, od, kV, doc, pm, an, cdv, ct, osl, rfl, l, c⟩, k⟩
end
theorem hu_of {A : Around} {k : Nat} (hr : Room k A) : A.units + 1 < cLine := Nat.lt_of_le_of_lt (Nat.add_le_add_left (by decide : 1 ≤ 64) _) hr.units
theorem small1000 {n : Nat} (h : n ≤ 1000) : n < sizeLine := Nat.lt_of_le_of_lt h (by decide)

/-! ### expressions in short: the name that stands in the i-th slot -/
section
variable {X : Cx}
theorem pv (i : Nat) {x : Str} {pos : Pos} (hN : X.N[i]? = some x := by rfl) (hv : Vis X.env.scope x := by first | exact Or.inl rfl | exact Or.inr (Or.inl rfl) | exact Or.inr (Or.inr rfl)) (hd : (x == ("__debug__" : Str)) = false := by decide)
    (hcd : (x == ("__classdict__" : Str)) = false := by decide) : PE X (.Name x pos) (tVar i) := pe_var hN hv hd hcd
end

/-! ### tests -/
theorem iteF {A B : Prop} (h : B) : if false = true then A else B := by
  rw [if_neg Bool.false_ne_true]
  exact h
theorem iteNS {c A B : Prop} [Decidable c] (hc : c) (h : B) : if (!decide c) = true then A else B := by
  rw [decide_eq_true hc]
  exact iteF h

/-! ### heaps -/
/-- all that was tracked is as it was -/
def Same (H H' : Hp) : Prop := ∀ b o, H b = some o → H' b = some o
theorem Same.refl (H : Hp) : Same H H := fun _ _ h => h
theorem Same.trans {H H1 H2 : Hp} (a : Same H H1) (b : Same H1 H2) : Same H H2 := fun c o h => b c o (a c o h)
theorem Same.free {H H' : Hp} (e : Same H H') {l : Addr} (h : H' l = Option.none) : H l = Option.none := by
  cases q : H l with
  | none => rfl
  | some o =>
    rw [e l o q] at h
    cases h
theorem Same.seq {K : PySem.W.Frag} {H H' : Hp} {a : Addr} {xs : List V} (e : Same H H') (h : SqL K H a xs) : SqL K H' a xs := by
  rcases h with (h | ⟨o, h⟩) | h
  · exact .inl (.inl (e _ _ h))
  · exact .inl (.inr ⟨o, e _ _ h⟩)
  · exact .inr h

end L2

set_option Elab.async false
set_option linter.all false
set_option maxRecDepth 100000
set_option maxHeartbeats 4000000
/-! COMPREHENSIONS over the hand layer: [e for x in it if c], the block's own context -/
namespace L2
open PySem PySem.Spec PyProof.Rows

/-- the context of a comprehension's block -/
def blk (X : Cx) (N : List Str) (s : Shared) (H : Hp) (sc : Scope) (cl : List (Str × Addr)) (C : Addr) (ex : List Addr) : Cx where
  prog := X.prog
  w := X.w
  K := X.K
  mg := X.mg
  base := X.base
  A := X.A
  N := N
  s₀ := s
  H₀ := H
  env := compEnvC sc cl C X.env
  outer := X.stack
  stack := X.stack
  ex := ex
  fn := fun _ => false
  calm := X.calm
  pn := []
  xe := fun _ _ => False

section
variable {prog : Program} {w : World} {A : Around} {R : Result → Shared → Prop} {s : Shared}
theorem compLoop_go {elt target iter : Expr} {ifs : List Expr} {scope : Scope} {pos : Pos} {it acc : Value} {env : Env} (I : Nat → Shared → Prop)
    (turn : ∀ n s, I n s → wpAny (model prog w) A (pyNext it) (fun r s₁ => match r with
      | none => R (.ok .next) s₁
      | some v => wpAny (model prog w) A (letOwnedTupleGo target it v) (fun _ s₁' => wpAny (model prog w) A (assign target env v) (fun _ s₂ =>
          wpAny (model prog w) A (forIn ifs true fun c r => if r = true then do let ok ← isTrue c env (eval c env); pure (ForInStep.yield ok) else pure (ForInStep.yield r)) (fun ok s₃ =>
            if ok = true then wpAny (model prog w) A (eval elt env) (fun x s₄ =>
              wpAny (model prog w) A (call (.builtin "list.append") [acc, x]) (fun _ s₅ => ∃ m, m < n ∧ I m s₅) (fun _ _ => False) s₄) (fun _ _ => False) s₃
            else ∃ m, m < n ∧ I m s₃) (fun _ _ => False) s₂) (fun _ _ => False) s₁') (fun _ _ => False) s₁) (fun _ _ => False) s)
    (n : Nat) (h : I n s) :
    codeAny (model prog w) A (.compLoop (.ListComp elt [⟨target, iter, ifs, 0⟩] scope pos) 0 it acc env) R s := by
  refine codeAny_loop rfl I (fun n s hI => ?_) n h
  show wpAny _ A ((compTurn (.ListComp elt [⟨target, iter, ifs, 0⟩] scope pos) 0 it acc env).onRaise (fun x => do noteFrame x env; theTreesLotGoes x)) _ _ s
  refine wpAny_noted ?_
  rw [compTurn_list]
  refine wpAny_bind (wpAny_standAt (wpAny_bind (wpAny_mono (turn n s hI) (fun r s₁ h₁ => ?_) fun _ _ h' => h'.elim)))
  cases r with
  | none => exact wpAny_pure h₁
  | some v =>
    refine wpAny_bind (wpAny_mono h₁ (fun _ s₁' h₁' => ?_) fun _ _ h' => h'.elim)
    refine wpAny_bind (wpAny_mono h₁' (fun _ s₂ h₂ => wpAny_bind (wpAny_mono h₂ (fun ok s₃ h₃ => ?_) fun _ _ h' => h'.elim)) fun _ _ h' => h'.elim)
    cases ok with
    | false => exact wpAny_pure ⟨rfl, h₃⟩
    | true =>
      exact wpAny_bind (wpAny_bind (wpAny_mono h₃ (fun x s₄ h₄ => wpAny_bind (wpAny_mono h₄ (fun _ s₅ h₅ => wpAny_pure (wpAny_pure ⟨rfl, h₅⟩)) fun _ _ h' => h'.elim)) fun _ _ h' => h'.elim))
end

/-- the tests of a clause: none, or one -/
def PTs (X : Cx) (ifs : List Expr) (t : TT) : Prop :=
  ∀ (pins : List (Addr × Obj)) (s : Shared) (σ : St) (H : Hp) (Q : Bool → Hp → Prop), Inv X pins σ H s → t σ H Q →
    wpAny (model X.prog X.w) X.A (forIn ifs true fun c r => if r = true then do let ok ← isTrue c X.env (eval c X.env); pure (ForInStep.yield ok) else pure (ForInStep.yield r)) (TP X pins σ Q) X.xe s
def tYes : TT := fun _ H Q => Q true H
theorem pts_nil {X : Cx} : PTs X [] tYes := fun _ _ _ H _ I h => wpAny_tests_nil ⟨H, I, h⟩
theorem pts_one {X : Cx} {c : Expr} {t : TT} (h : PT X c t) : PTs X [c] t := fun pins s σ H Q I q => wpAny_tests_one (h pins s σ H Q I q)

/-- what a comprehension's names are: its own first, then the free ones, which stand at the places ix of the def's names -/
def frees (σ : St) (ix : List Nat) : St := ix.map fun j => (σ[j]?).getD none
/-- [te for x in J if tc]: D is the new list, W the invariant by the turn and a measure -/
def CompGo (J : It) (H1 : Hp) (σ : St) (ix : List Nat) (tc : TT) (te : TE) (Q : VK) : Prop := ∀ D, H1 D = none →
  ∃ W : Nat → Nat → Hp → Prop, (∃ m, W 0 m (upd H1 D (.lst []))) ∧ ∀ i m H, W i m H →
    (J.stop i H ∧ Q (.ref D) H) ∨ (J.go i H ∧ ∀ x H', J.yld i H x H' → tc (some x :: frees σ ix) H' fun b H2 =>
      if b = true then te (some x :: frees σ ix) H2 fun y H3 => ∃ ys, H3 D = some (.lst ys) ∧ ys.length < sizeLine ∧ ∃ m', m' < m ∧ W (i + 1) m' (upd H3 D (.lst (ys ++ [y])))
      else ∃ m', m' < m ∧ W (i + 1) m' H2)
def tComp (ix : List Nat) (wi : TI) (tc : TT) (te : TE) : TE := fun σ H Q => wi σ H fun J H1 => CompGo J H1 σ ix tc te Q

section
variable {X : Cx}
/-- the block's context at its entry -/
theorem inv_blk {pins : List (Addr × Obj)} {σ : St} {H : Hp} {s : Shared} {N : List Str} {x : Str} {sc : Scope} {cl : List (Str × Addr)} {fp : List Addr} {ix : List Nat} {h1 : Heap} {m : Str → Option Value} {tk : Nat}
    (I : Inv X pins σ H s) (hkind : sc.kind = .function) (hN : N = x :: ix.map fun j => (X.N[j]?).getD "")
    (hsub : ∀ y c, cl.lookup y = some c → X.env.cells.lookup y = some c) (hhas : ∀ y, ((relabel sc X.env).names.lookup y = some .cell ∨ (relabel sc X.env).names.lookup y = some .free) → ∃ c, cl.lookup y = some c)
    (hix : ∀ j ∈ ix, ∃ y, X.N[j]? = some y ∧ X.env.kindOf y = some .cell ∧ (relabel sc X.env).names.lookup y = some .cell)
    (hfp : ∀ b ∈ fp, FpOk X pins H b) (hlt : ∀ b ∈ fp, b < s.heap.objs.size)
    (hns : h1.Ns s.heap.objs.size m) (hk : ∀ b o, s.heap.get? b = some o → h1.get? b = some o) :
    Inv (blk X N s H sc cl s.heap.objs.size fp) [] (none :: frees σ ix) H { s with heap := h1, toks := tk } := by
  have fresh : H s.heap.objs.size = none := I.hok.fresh (Nat.le_refl _)
  refine ⟨⟨I.ok.mod, hkind, I.ok.glob, I.ok.blt, Nat.le_refl _, fun y z c h1 h2 => I.ok.inj y z c (hsub y c h1) (hsub z c h2), fun y hy => hhas y hy, fun y c z _ => absurd (show false = true from z) (by decide), I.ok.hd, I.ok.frames, .inl rfl,
    fun b hb => ⟨Nat.ne_of_lt (hlt b hb), fun y c e => (hfp b hb).2.2.2.2.1 y c (hsub y c e)⟩, I.bs, Nat.le_trans I.ok.bsz I.sz, fun b o e hb => ?_, fun b hb z => ?_, I.stack, I.stkFree⟩,
    rfl, I.bare, Un.kept hk, ⟨m, hns, fun i y v e1 e2 e3 => ?_⟩, fun y c e => ?_, fresh, fun y c e => I.freeC y c (hsub y c e), fun p hp => absurd (show p ∈ ([] : List (Addr × Obj)) from hp) (by simp), I.hok.kept hk, ?_⟩
  · rcases (hfp b hb).2.2.2.1 with z | z
    · exact I.ok.noex b o e z
    · exact absurd (Nat.lt_of_lt_of_le (Heap.lt_size e) (Nat.le_trans I.ok.bsz z)) (Nat.lt_irrefl _)
  · rcases List.mem_cons.mp (I.stkSub b z) with q | q
    · exact (hfp b hb).2.1 q
    · exact (hfp b hb).2.2.1 q
  · cases i with
    | zero =>
      have e2' : (some none : Option (Option V)) = some (some v) := e2
      cases e2'
    | succ i =>
      have e2' : (frees σ ix)[i]? = some (some v) := by simpa using e2
      unfold frees at e2'
      rw [List.getElem?_map] at e2'
      cases q : ix[i]? with
      | none => rw [q] at e2'; cases e2'
      | some j =>
        rw [q] at e2'
        have e3' : (σ[j]?).getD none = some v := by simpa using e2'
        have e4 : σ[j]? = some (some v) := by
          cases q2 : σ[j]? with
          | none => rw [q2] at e3'; cases e3'
          | some w => rw [q2] at e3'; simpa using e3'
        obtain ⟨y', hy, hc, hr⟩ := hix j (List.mem_of_getElem? q)
        have ey : y' = y := by
          have e1' : N[i + 1]? = some y := e1
          rw [hN, List.getElem?_cons_succ, List.getElem?_map, q] at e1'
          have := Option.some.inj e1'
          simpa [hy] using this
        subst ey
        obtain ⟨m0, hn0, hl0⟩ := I.loc
        obtain ⟨u, r, l⟩ := hl0 j y' v hy e4 (.inr (.inl hc))
        refine ⟨u, r, .inr ⟨.inl hr, ?_⟩⟩
        rcases l with ⟨k, _⟩ | ⟨_, c, ec, ic⟩
        · rw [hc] at k; cases k
        · obtain ⟨c', ec'⟩ := hhas y' (.inl hr)
          have := hsub y' c' ec'
          rw [ec] at this; cases this
          obtain ⟨o, ho, hd⟩ := ic
          exact ⟨c, ec', o, hk c o ho, hd⟩
  · obtain ⟨v, o, ho, hd⟩ := I.cell y c (hsub y c e)
    exact ⟨v, o, hk c o ho, hd⟩
  · show (none :: frees σ ix).length = N.length
    rw [hN]
    simp [frees]

theorem pe_comp {elt iter : Expr} {x : Str} {px pos : Pos} {ifs : List Expr} {sc : Scope} {cl : List (Str × Addr)} {ix : List Nat} {wi : TI} {tc : TT} {te : TE} (N : List Str)
    (hc : X.calm = true) (hi : PI X (.Name x px) iter wi) (hif : ∀ s H C ex, PTs (blk X N s H sc cl C ex) ifs tc) (he : ∀ s H C ex, PE (blk X N s H sc cl C ex) elt te)
    (hkind : sc.kind = .function) (hN : N = x :: ix.map fun j => (X.N[j]?).getD "") (hnd : N.Nodup) (hx : sc.names.lookup x = some .local)
    (hcl : closureFor sc X.env = pure cl) (hcell : ∀ y ∈ sc.names, y.2 ≠ .cell) (hnames : ∀ y ∈ sc.names, y.2 = .local → sc.names.lookup y.1 = some .local)
    (hsub : ∀ y c, cl.lookup y = some c → X.env.cells.lookup y = some c) (hhas : ∀ y, ((relabel sc X.env).names.lookup y = some .cell ∨ (relabel sc X.env).names.lookup y = some .free) → ∃ c, cl.lookup y = some c)
    (hix : ∀ j ∈ ix, ∃ y, X.N[j]? = some y ∧ X.env.kindOf y = some .cell ∧ (relabel sc X.env).names.lookup y = some .cell)
    (hs : ∀ x, foldedSetIterable iter X.env x = pure x := by intro _; rfl) :
    PE X (.ListComp elt [⟨.Name x px, iter, ifs, 0⟩] sc pos) (tComp ix wi tc te) := by
  intro pins s σ H Q I h
  rw [eval_ListComp]
  refine wpAny_comprehension_free (use := none) rfl hs hcl hkind hnames (thn (hi pins s σ H _ I h) fun v s1 h1 => thn h1 fun itv s2 h2 => ?_)
  obtain ⟨it, fp, tn, J, H2, e, I2, T, st2, f2, q2⟩ := h2
  subst e
  have fr2 : H2 s2.heap.objs.size = none := I2.hok.fresh (Nat.le_refl _)
  obtain ⟨W, ⟨m0, w0⟩, turn⟩ := q2 s2.heap.objs.size fr2
  refine wpAny_newObj_type ?_
  have I3 : Inv X pins σ (upd H2 s2.heap.objs.size (.lst [])) { s2 with heap := s2.heap.push { cls := .type "list", dict := none, data := .seq ([] : List Value).toArray } } := by
    exact I2.lnew (its := []) (ys := []) (t' := s2.toks) .nil (Nat.zero_le _)
  have lt2 : ∀ b ∈ fp, b < s2.heap.objs.size := fun b hb => by
    obtain ⟨o, ho, _⟩ := T.obj _ _ st2 b hb
    exact Heap.lt_size ho
  have f3 : ∀ b ∈ fp, FpOk X pins (upd H2 s2.heap.objs.size (.lst [])) b := fun b hb => ⟨by rw [upd_ne (Nat.ne_of_lt (lt2 b hb))]; exact (f2 b hb).1, (f2 b hb).2⟩
  generalize hs3 : ({ s2 with heap := s2.heap.push { cls := .type "list", dict := none, data := .seq ([] : List Value).toArray } } : Shared) = s3 at I3
  have hsz3 : s2.heap.objs.size ≤ s3.heap.objs.size := by rw [← hs3]; show _ ≤ (s2.heap.push _).objs.size; rw [Heap.size_push]; exact Nat.le_succ _
  have tn3 : tn 0 s3.heap := T.keep _ _ _ st2 fun b _ o e => by rw [← hs3]; exact Heap.get?_push_of_some _ e
  have lt3 : ∀ b ∈ fp, b < s3.heap.objs.size := fun b hb => Nat.lt_of_lt_of_le (lt2 b hb) hsz3
  refine wpAny_newFunctionEnv hcell (by intro y hy; simp at hy) (fun h4 hns4 hsb4 => ?_) hkind
  have old : ∀ b o, s3.heap.get? b = some o → h4.get? b = some o := fun b o e => hsb4.extBut b o (Nat.ne_of_lt (Heap.lt_size e)) (Heap.get?_push_of_some _ e)
  have I4 := inv_blk (m := _) (tk := s3.toks + ([] : List (Str × Value)).length) (N := N) I3 hkind hN hsub hhas hix f3 lt3 hns4 old
  have tn4 : tn 0 h4 := T.keep _ _ _ tn3 fun b _ o e => old b o e
  have fpB : ∀ {H' : Hp}, (∀ b ∈ fp, H' b = none) → ∀ b ∈ fp, FpOk (blk X N s3 (upd H2 s2.heap.objs.size (.lst [])) sc cl s3.heap.objs.size fp) [] H' b := fun {H'} hn b hb =>
    ⟨hn b hb, Nat.ne_of_lt (lt3 b hb), I4.ok.exfs b hb, .inl hb, fun y c e => (I4.ok.exf b hb).2 y c e, fun p hp => absurd (show p ∈ ([] : List (Addr × Obj)) from hp) (by simp)⟩
  have loop : codeAny (model X.prog X.w) X.A (.compLoop (.ListComp elt [⟨.Name x px, iter, ifs, 0⟩] sc pos) 0 (.ref it) (.ref s2.heap.objs.size) (compEnvC sc cl s3.heap.objs.size X.env))
      (compPost (model X.prog X.w) X.A X.xe none (EP X pins σ Q) (.ref s2.heap.objs.size) s3.heap.objs.size) { s3 with heap := h4, toks := s3.toks + ([] : List (Str × Value)).length } := by
    refine compLoop_go (fun n s' => ∃ i v0 H', Inv (blk X N s3 (upd H2 s2.heap.objs.size (.lst [])) sc cl s3.heap.objs.size fp) [] (v0 :: frees σ ix) H' s' ∧ tn i s'.heap ∧ (∀ b ∈ fp, H' b = none) ∧ W i n H') ?_ m0
      ⟨0, none, _, I4, tn4, fun b hb => (f3 b hb).1, w0⟩
    rintro n s5 ⟨i, v0, H5, I5, st5, fr5, w5⟩
    rcases turn i n H5 w5 with ⟨stop, qn⟩ | ⟨go, step⟩
    · refine thn (T.done (blk X N s3 (upd H2 s2.heap.objs.size (.lst [])) sc cl s3.heap.objs.size fp) rfl rfl rfl hc i [] s5 _ H5 _ I5 (fpB fr5) st5 stop) fun r s6 ⟨hr, I6⟩ => ?_
      subst hr
      obtain ⟨mm, hm, _⟩ := I6.loc
      refine ⟨mm, hm, fun h7 sb7 => ?_⟩
      have I7 : Inv X pins σ H5 { s6 with heap := h7 } := by
        have hC : H5 s3.heap.objs.size = none := I6.free
        have hc3 : s3.heap.get? s3.heap.objs.size = none := Heap.get?_none_of_le (Nat.le_refl _)
        have up : ∀ b o, b ≠ s3.heap.objs.size → s6.heap.get? b = some o → h7.get? b = some o := fun b o hb e => sb7.extBut b o hb e
        have neC : ∀ b o, s3.heap.get? b = some o → b ≠ s3.heap.objs.size := fun b o e => Nat.ne_of_lt (Heap.lt_size e)
        have u := I6.base
        refine I3.call' (s' := { s6 with heap := h7 }) (ch := fp) I6.os ⟨fun b o e n hb hx => ?_, fun b o e n hb hx => ?_, fun b o e n hx => u.free b o e n hx, fun b o e hx => ?_, u.tups, u.frzs, u.tbls⟩ (fun b o e => ?_) I6.bare fun b hb => ⟨(f3 b hb).2.2.2.1, (f3 b hb).2.1, (f3 b hb).2.2.2.2.1, (f3 b hb).2.2.2.2.2⟩
        · exact up b o (neC b o e) (u.keep b o e n hb hx)
        · obtain ⟨sl, e1⟩ := u.slot b o e n hb hx
          exact ⟨sl, up b _ (neC b o e) e1⟩
        · obtain ⟨o', e1⟩ := u.there b o e hx
          exact ⟨o', up b _ (neC b o e) e1⟩
        · refine (I6.hok b o e).stay (fun c v hc' q => up c v ?_ q) (fun _ q => q) fun _ _ q => q
          rintro rfl
          rcases hc' with z | z
          · rw [← z, hC] at e; cases e
          · rw [hC] at z; cases z
      exact ⟨.ref s2.heap.objs.size, H5, I7, rfl, qn⟩
    · refine thn (T.item (blk X N s3 (upd H2 s2.heap.objs.size (.lst [])) sc cl s3.heap.objs.size fp) rfl rfl rfl hc i [] s5 _ H5 _ I5 (fpB fr5) st5 go) fun r s6 ⟨u, hr, h6⟩ => ?_
      subst hr
      refine thn h6 fun _ s7 ⟨y, H7, I7, r7, y7, st7, fr7⟩ => ?_
      have I7' := I7.pinned (fpB fr7) (T.obj _ _ st7)
      refine wpAny_assign_Name (store_ok (i := 0) I7' hnd (by show N[0]? = some x; rw [hN]; rfl) (.inl (lookup_relabel_local hx)) r7 (fun s8 I8 => ?_) (.inr (lookup_relabel_local hx)))
      have I8' : Inv (blk X N s3 (upd H2 s2.heap.objs.size (.lst [])) sc cl s3.heap.objs.size fp) ([] ++ pinsAt fp s7.heap) (some y :: frees σ ix) H7 s8 := I8
      refine thn (hif _ _ _ _ _ s8 _ H7 _ I8' (step y H7 y7)) fun ok s9 ⟨H9, I9, q9⟩ => ?_
      have again : ∀ {H' : Hp} {s' : Shared} {m' : Nat}, Inv (blk X N s3 (upd H2 s2.heap.objs.size (.lst [])) sc cl s3.heap.objs.size fp) ([] ++ pinsAt fp s7.heap) (some y :: frees σ ix) H' s' → m' < n → W (i + 1) m' H' →
          ∃ m, m < n ∧ ∃ i v0 H', Inv (blk X N s3 (upd H2 s2.heap.objs.size (.lst [])) sc cl s3.heap.objs.size fp) [] (v0 :: frees σ ix) H' s' ∧ tn i s'.heap ∧ (∀ b ∈ fp, H' b = none) ∧ W i m H' := fun {H' s' m'} Ia hm wa => by
        refine ⟨m', hm, i + 1, some y, H', Ia.unpinned, T.keep _ _ _ st7 fun b hb o e => (Ia.pin (b, o) (List.mem_append_right _ (List.mem_append_right _ (mem_pinsAt hb e)))).1, fun b hb => ?_, wa⟩
        obtain ⟨o, e, d⟩ := T.obj _ _ st7 b hb
        exact (Ia.pin (b, o) (List.mem_append_right _ (List.mem_append_right _ (mem_pinsAt hb e)))).2.1
      cases ok with
      | false =>
        rw [if_neg Bool.false_ne_true] at q9 ⊢
        obtain ⟨m', hm, wa⟩ := q9
        exact again I9 hm wa
      | true =>
        rw [if_pos rfl] at q9 ⊢
        refine thn (he _ _ _ _ _ s9 _ H9 _ I9 q9) fun v10 s10 ⟨z, H10, I10, r10, ys, hD, hl, m', hm, wa⟩ => ?_
        exact thn (mt_append _ s10 _ H10 (.ref s2.heap.objs.size) [z] (.ref s2.heap.objs.size) [v10] (fun _ H' => H' = upd H10 s2.heap.objs.size (.lst (ys ++ [z]))) I10 rfl (.cons r10 .nil) ⟨_, ys, z, rfl, rfl, hD, hl, rfl⟩)
          fun _ s11 ⟨_, H11, I11, _, e11⟩ => again I11 hm (by rw [e11]; exact wa)
  subst hs3
  exact codeAny_compStart_list loop (T.self _ 0 _ _ _ tn4 loop)
end
end L2

set_option Elab.async false
set_option linter.all false
set_option maxRecDepth 100000
set_option maxHeartbeats 4000000
/-! BUILT-INS over the hand layer: a text's signs walked, all, isinstance -/
namespace L2
open PySem PySem.Spec PyProof.Rows

/-- a text's signs, one by one -/
def Its (x : Str) : It := ⟨fun i _ => i < x.cps.size, fun i H v H' => H' = H ∧ ∃ c, x.cps[i]? = some c ∧ v = .str ⟨#[c]⟩, fun i _ => x.cps.size ≤ i⟩
theorem turn_str {P : Program} {w : World} {K : PySem.W.Frag} {tg : Expr} {x : Str} {t : Tok} (it : Addr) (T : String) (hT : T = "str_ascii_iterator" ∨ T = "str_iterator") : Turn P w K tg (Its x) [it] it (fun i h => h.IsStrIter it T x t i ∧ i ≤ x.cps.size) where
  mem := by simp
  obj := fun i h st b hb => by
    have e : b = it := by simpa using hb
    subst e
    obtain ⟨⟨o, e, c, d⟩, _⟩ := st
    exact ⟨o, e, fun v z => by rw [d] at z; cases z⟩
  keep := fun i h h' st k => ⟨let ⟨o, ho, r⟩ := st.1; ⟨o, k it (by simp) o ho, r⟩, st.2⟩
  item := by
    intro X hP hw hK hc i pins s σ H E I hf st hg
    subst hP hw hK
    obtain ⟨f0, f1, f2, f3, f4, f5⟩ := hf it (by simp)
    have hi : i < x.cps.size := hg
    have fin : ∀ h', h'.IsStrIter it T x t (i + 1) → (∀ b o, b ≠ it → s.heap.get? b = some o → h'.get? b = some o) → ∀ u : Tok, ∃ uv, some (Value.str ⟨#[x.cps[i]]⟩ u) = some uv ∧
        wpAny (model X.prog X.w) X.A (letOwnedTupleGo tg (.ref it) uv) (fun _ s2 => ∃ v H', Inv X pins σ H' s2 ∧ RelV v uv ∧ (Its x).yld i H v H' ∧ (s2.heap.IsStrIter it T x t (i + 1) ∧ i + 1 ≤ x.cps.size) ∧ ∀ b ∈ [it], H' b = none) E { s with heap := h', toks := s.toks + 1 } := fun h' st' kk u => by
      have I1 : Inv X pins σ H { s with heap := h', toks := s.toks + 1 } := I.turned (fun b o hb e => kk b o hb e) f0 f1 f3 f4 f5
      obtain ⟨o, e, c, d⟩ := id st'
      refine ⟨_, rfl, go_of (s := { s with heap := h', toks := s.toks + 1 }) e c d (by rcases hT with rfl | rfl <;> decide) ⟨.str ⟨#[x.cps[i]]⟩, H, I1, ⟨u, rfl⟩, ⟨rfl, _, by simp [hi], rfl⟩, ⟨st', hi⟩, fun b hb => ?_⟩⟩
      exact (hf b hb).1
    rcases hT with rfl | rfl
    · exact wpAny_pyNext_ascii_item st.1 (c := x.cps[i]) (by simp [hi]) fun h' hit' hs' => fin h' hit' (fun b o hb e => hs'.extBut b o hb e) _
    · exact wpAny_pyNext_wide_item st.1 (c := x.cps[i]) (by simp [hi]) fun h' hit' hs' => fin h' hit' (fun b o hb e => hs'.extBut b o hb e) _
  done := by
    intro X hP hw hK hc i pins s σ H E I hf st hg
    subst hP hw hK
    obtain ⟨f0, f1, f2, f3, f4, f5⟩ := hf it (by simp)
    have hi : x.cps.size ≤ i := hg
    rcases hT with rfl | rfl
    · exact wpAny_pyNext_ascii_end (I.ok.hd hc) st.1 (by simp; omega) fun h' eb => ⟨rfl, I.turned (t' := s.toks) (fun b o hb e => eb b o hb e) f0 f1 f3 f4 f5⟩
    · exact wpAny_pyNext_wide_end (I.ok.hd hc) st.1 (by simp; omega) fun h' eb => ⟨rfl, I.turned (t' := s.toks) (fun b o hb e => eb b o hb e) f0 f1 f3 f4 f5⟩
  self := fun _ _ _ _ _ st h => by
    rcases hT with rfl | rfl
    · exact wpAny_pyIter_striter_ascii st.1 h
    · exact wpAny_pyIter_striter_wide st.1 h

section
variable {X : Cx} {tg : Expr}
def iStr (tl : TE) : TI := fun σ H R => tl σ H fun x H1 => ∃ z, x = .str z ∧ R (Its z) H1
theorem pi_str {l : Expr} {tl : TE} (hl : PE X l tl) : PI X tg l (iStr tl) := by
  intro pins s σ H R I h
  refine thn (hl pins s σ H _ I h) fun v s1 ⟨x, H1, I1, r1, q1⟩ => ?_
  obtain ⟨z, e, q⟩ := q1
  subst e
  obtain ⟨t, rfl⟩ := r1
  have fin : ∀ (o : Obj) (T : String), (T = "str_ascii_iterator" ∨ T = "str_iterator") → (s1.heap.push o).IsStrIter s1.heap.objs.size T z t 0 → PIE X pins σ tg R (.ref s1.heap.objs.size) { s1 with heap := s1.heap.push o } := fun o T hT hs => by
    refine ⟨s1.heap.objs.size, [s1.heap.objs.size], _, _, H1, rfl, I1.kept (t' := s1.toks) fun b o e => Heap.get?_push_of_some _ e, turn_str (x := z) (t := t) _ T hT, ⟨hs, Nat.zero_le _⟩, fun b hb => ?_, q⟩
    have e : b = s1.heap.objs.size := by simpa using hb
    subst e
    exact I1.fpOk (Nat.le_refl _) (I1.hok.fresh (Nat.le_refl _))
  cases ha : z.cps.all (· < 128)
  · exact wpAny_pyIter_wide ha (fin _ _ (.inr rfl) ⟨_, Heap.get?_push_size _ rfl, rfl, rfl⟩)
  · exact wpAny_pyIter_ascii ha (fin _ _ (.inl rfl) ⟨_, Heap.get?_push_size _ rfl, rfl, rfl⟩)

/-- all([..]) of a list of truths -/
theorem call_all (hc : X.calm = true) : CallR X (.builtin "all") (fun xs H Q => ∃ (a : Addr) (bs : List Bool), xs = [.ref a] ∧ SqL X.K H a (bs.map V.bl) ∧ Q (.bl (bs.all id)) H) := by
  intro pins s σ H xs us Q I r h
  obtain ⟨a, bs, rfl, hq, q⟩ := h
  obtain ⟨u, rfl, ru⟩ := r.one
  cases ru
  obtain ⟨its, rv, p, hz⟩ := I.list hq
  have hlt : a < s.heap.objs.size := by obtain ⟨o, n, e, _⟩ := p; exact Heap.lt_size e
  refine call_all_walk (wpAny_pyIter_list p.isList ?_)
  have len : bs.length = its.length := by have := rv.length; simpa using this
  refine ⟨s.heap.objs.size, _, _, _, _, _, fun i => (bs[i]?).getD false, rfl, Walks.list (A := X.A.in1) (show X.A.in1.handled = none from I.ok.hd hc) s.heap.objs.size a (Nat.ne_of_lt hlt) its.toArray, ⟨⟨_, Heap.get?_push_size _ rfl, rfl, rfl⟩, p.isList.at fun o e => Heap.get?_push_of_some _ e⟩, ?_, ?_⟩
  · intro i v s' Q' E' hv hQ
    have hv' : its[i]? = some v := by simpa using hv
    cases hb : bs[i]? with
    | none =>
      have h1 := List.getElem?_eq_none_iff.mp hb
      have h2 := (List.getElem?_eq_some_iff.mp hv').1
      omega
    | some b =>
      obtain ⟨u, hu, ru⟩ := rv.get (i := i) (x := V.bl b) (by rw [List.getElem?_map, hb] <;> rfl)
      rw [hv'] at hu
      cases hu
      cases ru
      simp only [hb, Option.getD_some] at hQ
      exact wpAny_truthy_bool hQ
  · intro h' tk hk
    have e : (List.range its.toArray.size).all (fun i => (bs[i]?).getD false) = bs.all id := by
      rw [List.size_toArray, ← len]
      rw [Bool.eq_iff_iff]
      simp only [List.all_eq_true, List.mem_range, id]
      constructor
      · intro h b hb
        obtain ⟨i, hi, e⟩ := List.mem_iff_getElem.mp hb
        have := h i hi
        rw [List.getElem?_eq_getElem hi, Option.getD_some, e] at this
        exact this
      · intro h i hi
        rw [List.getElem?_eq_getElem hi, Option.getD_some]
        exact h _ (List.getElem_mem hi)
    have fr : FpOk X pins H s.heap.objs.size := I.fpOk (Nat.le_refl _) (I.hok.fresh (Nat.le_refl _))
    refine ⟨.bl (bs.all id), H, ?_, by rw [e]; rfl, q⟩
    have I1 : Inv X pins σ H { s with heap := h', toks := tk } := I.kept (h' := h') (t' := tk) fun b o e => hk b o (fun z => by
      have : b = s.heap.objs.size := by simpa using z
      exact absurd (Heap.lt_size e) (by rw [this]; exact Nat.lt_irrefl _)) (Heap.get?_push_of_some _ e)
    exact I1

/-- isinstance(x, list | tuple | str), where it is one -/
theorem call_isi_list : CallR X (.builtin "isinstance") (fun xs H Q => ∃ a ys, xs = [.ref a, .ty "list"] ∧ SqL X.K H a ys ∧ Q (.bl true) H) := by
  intro pins s σ H xs us Q I r h
  obtain ⟨a, ys, rfl, hq, q⟩ := h
  cases r with
  | cons r1 r =>
    cases r with
    | cons r2 r =>
      cases r
      cases r1
      cases r2
      obtain ⟨its, rv, p, hz⟩ := I.list hq
      obtain ⟨o, n, e, hc, _⟩ := p
      exact IsiPair.list_list e hc ⟨.bl true, H, I, rfl, q⟩
theorem call_isi_tuple : CallR X (.builtin "isinstance") (fun xs H Q => ∃ a ys, xs = [.ref a, .ty "tuple"] ∧ SqT X.K H a ys ∧ Q (.bl true) H) := by
  intro pins s σ H xs us Q I r h
  obtain ⟨a, ys, rfl, hq, q⟩ := h
  cases r with
  | cons r1 r =>
    cases r with
    | cons r2 r =>
      cases r
      cases r1
      cases r2
      obtain ⟨its, rv, p, hz⟩ := I.tuple hq
      obtain ⟨o, e, hc, _⟩ := p
      exact IsiPair.tuple_tuple e hc ⟨.bl true, H, I, rfl, q⟩
theorem call_isi_str : CallR X (.builtin "isinstance") (fun xs H Q => ∃ z, xs = [.str z, .ty "str"] ∧ Q (.bl true) H) := by
  intro pins s σ H xs us Q I r h
  obtain ⟨z, rfl, q⟩ := h
  cases r with
  | cons r1 r =>
    cases r with
    | cons r2 r =>
      cases r
      obtain ⟨t, rfl⟩ := r1
      cases r2
      exact IsiPair.str_str ⟨.bl true, H, I, rfl, q⟩
end
end L2

set_option Elab.async false
set_option linter.all false
set_option maxRecDepth 100000
set_option maxHeartbeats 4000000
/-! SETS OF TEXTS: set(xs) of a list of texts, walked by sorted -/
namespace L2
open PySem PySem.Spec PyProof.Rows

theorem layNew_led (t : SetTable) (es : Array (Int × Value)) (h : Int) (x : Value) : (layNew t es h x).2.1.led = t.led := by
  unfold layNew
  split
  · dsimp only
    unfold SetTable.orStandIn
    split <;> rfl
  · rfl
theorem relaid_flags {t t' : SetTable} {hs : Array Int} {n : Nat} {o : Array Nat} (h : t.relaid hs n = some (t', o)) : t'.led = t.led ∧ t'.plain = t.plain := by
  unfold SetTable.relaid SetTable.laid at h
  cases e : SetTable.layClean (SetTable.sizeAbove n - 1) hs with
  | none => rw [e] at h; cases h
  | some ow =>
    rw [e] at h
    have h' := Option.some.inj h
    cases h'
    exact ⟨rfl, rfl⟩
theorem relayAll_led (t : SetTable) (es : Array (Int × Value)) (n : Nat) : (relayAll t es n).2.1.led = t.led := by
  unfold relayAll
  split
  · rename_i t' o e
    dsimp only
    split
    · exact (relaid_flags e).1
    · rfl
  · rfl
theorem relayAll_plain (t : SetTable) (es : Array (Int × Value)) (n : Nat) (hp : (relayAll t es n).2.1.plain = true) : t.plain = true := by
  unfold relayAll at hp
  split at hp
  · rename_i t' o e
    dsimp only at hp
    split at hp
    · rw [← (relaid_flags e).2]; exact hp
    · cases hp
  · cases hp

/-- the text of a value -/
def txtOf : Value → Str
  | .str x _ => x
  | _ => ⟨#[]⟩
/-- the set of texts at a: its members as they are stored -/
def SSet (P : Program) (w : World) (h : Heap) (a : Addr) (ss : List Str) : Prop :=
  ∃ o es ep t, h.get? a = some o ∧ o.ExactSet ∧ o.data = .set es ep t ∧ ElemsOf (strKind P w) es.toList ∧ es.toList.map (fun e => txtOf e.2) = ss ∧ ss.Nodup ∧ es.size < scanBound ∧ t.fits es.size = true ∧
    t.led = !w.params.followText "set-order" ∧ (1 ≤ es.size → t.plain = false)
theorem str_is {P : Program} {w : World} {x : Str} {v : Value} (h : (strKind P w).is x v = true) : ∃ u, v = .str x u := Value.isStrOf_shape h
theorem elems_txt {P : Program} {w : World} {l : List (Int × Value)} (h : ElemsOf (strKind P w) l) {e : Int × Value} (he : e ∈ l) : ∃ u, e.2 = .str (txtOf e.2) u := by
  obtain ⟨⟨k, hk, _⟩, _⟩ := h e he
  obtain ⟨u, hu⟩ := str_is hk
  exact ⟨u, by rw [hu]; rfl⟩
theorem find_mem {P : Program} {w : World} {l : List (Int × Value)} (h : ElemsOf (strKind P w) l) (x : Str) : (l.findIdx? (fun e => (strKind P w).is x e.2)).isSome = decide (x ∈ l.map fun e => txtOf e.2) := by
  rw [Bool.eq_iff_iff, List.findIdx?_isSome, List.any_eq_true, decide_eq_true_eq, List.mem_map]
  constructor
  · rintro ⟨e, he, hk⟩
    obtain ⟨u, hu⟩ := str_is hk
    exact ⟨e, he, by rw [hu]; rfl⟩
  · rintro ⟨e, he, rfl⟩
    obtain ⟨u, hu⟩ := elems_txt h he
    refine ⟨e, he, ?_⟩
    rw [hu]
    exact strKind_is _ _ _ _

section
variable {P : Program} {w : World} {A : Around} {E : Value → Shared → Prop} {s : Shared}
theorem sset_add {a : Addr} {ss : List Str} {x : Str} {u : Tok} {Q : Bool → Shared → Prop} (hS : SSet P w s.heap a ss) (hroom : ss.length + 1 < scanBound)
    (h : ∀ h' ss' b, Heap.SameBut a s.heap h' → SSet P w h' a ss' → (if x ∈ ss then ss' = ss else ss'.Perm (ss ++ [x])) → Q b { s with heap := h' }) :
    wpAny (model P w) A (setAddHashed a (.str x u) (hashStr w x)) Q E s := by
  obtain ⟨o, es, ep, t, ho, hex, hd, hel, hss, hnd, hb, hf, hled, hpl⟩ := hS
  have hkey : (strKind P w).is x (.str x u) = true := strKind_is _ _ _ _
  have hn : es.size = ss.length := by rw [← hss, List.length_map, Array.length_toList]
  unfold setAddHashed setAddHashedIn
  refine wpAny_holding (wpAny_bind (wpAny_setState_of ho hd hf ?_))
  dsimp only
  rw [byScan_of (knd := strKind P w) rfl hb hel]
  simp only [↓reduceIte]
  unfold setAddByScan
  refine wpAny_bind ?_
  refine wpAny_bind (wpAny_rule ?_)
  refine wpAny_bind (wpAny_setScan_of (knd := strKind P w) hkey ho hd hf hel ?_)
  have hfm := find_mem hel x
  rw [hss] at hfm
  cases hr : List.findIdx? (fun e => (strKind P w).is x e.2) es.toList with
  | some j =>
    dsimp only
    rw [hr] at hfm
    have hx : x ∈ ss := of_decide_eq_true (Eq.symm hfm)
    refine wpAny_pure (wpAny_pure ?_)
    have := h s.heap ss false (Heap.SameBut.refl a s.heap) ⟨o, es, ep, t, ho, hex, hd, hel, hss, hnd, hb, hf, hled, hpl⟩ (by rw [if_pos hx])
    exact this
  | none =>
    dsimp only
    rw [hr] at hfm
    have hx : x ∉ ss := of_decide_eq_false (Eq.symm hfm)
    have hgw : ∀ (b : Bool) {s₁ : Shared} {Q' : Unit → Shared → Prop}, Q' () s₁ → wpAny (model P w) A (match b with | true => rule "set.scan.the-table-gave-way" | false => pure ()) Q' E s₁ :=
      fun b s₁ Q' hq => by cases b <;> first | exact wpAny_pure hq | exact wpAny_rule hq
    have hperm := layNew_perm t es (hashStr w x) (.str x u)
    have hfits := layNew_fits t es (hashStr w x) (.str x u)
    have hled1 := layNew_led t es (hashStr w x) (.str x u)
    show wpAny (model P w) A _ _ E s
    have hash : (strKind P w).hash x = hashStr w x := rfl
    try rw [hash]
    generalize hL : layNew t es (hashStr w x) (.str x u) = L at hperm hfits hled1 ⊢
    obtain ⟨es1, t1, wasDummy, gave⟩ := L
    dsimp only at hperm hfits hled1 ⊢
    rw [Array.toList_push] at hperm
    have hel1 : ElemsOf (strKind P w) es1.toList := (ElemsOf.push (knd := strKind P w) hel hkey rfl).perm hperm
    have hss1 : (es1.toList.map fun e => txtOf e.2).Perm (ss ++ [x]) := by
      have := hperm.map (fun e : Int × Value => txtOf e.2)
      rw [List.map_append, hss] at this
      exact this
    have hsz1 : es1.size = ss.length + 1 := by rw [← Array.length_toList, hperm.length_eq, List.length_append, Array.length_toList, hn]; rfl
    have hb1 : es1.size < scanBound := by rw [hsz1]; exact hroom
    have hnd1 : (es1.toList.map fun e => txtOf e.2).Nodup := by
      refine hss1.nodup_iff.mpr ?_
      rw [List.nodup_append]
      exact ⟨hnd, by simp, fun y hy z hz e => by rw [List.mem_singleton.mp hz] at e; exact hx (e ▸ hy)⟩
    refine wpAny_bind (hgw _ ?_)
    have tail : ∀ t2 : SetTable, t2.fits es1.size = true → t2.led = t.led → t2.plain = false → ∀ (g : Bool → Sem Unit), (∀ (b : Bool) (s₁ : Shared) (Q' : Unit → Shared → Prop), Q' () s₁ → wpAny (model P w) A (g b) Q' E s₁) →
        wpAny (model P w) A (do
          storeSet a es1 t2
          if (!wasDummy && t2.tooFull) = true then do
              g (relayAll t2 es1 (SetTable.grown es1.size)).2.2
              storeSet a (relayAll t2 es1 (SetTable.grown es1.size)).1 (relayAll t2 es1 (SetTable.grown es1.size)).2.1
              pure (some true)
            else pure (some true)) (fun r s' => r = some true ∧ ∃ h' ss', s' = { s with heap := h' } ∧ Heap.SameBut a s.heap h' ∧ SSet P w h' a ss' ∧ ss'.Perm (ss ++ [x])) E s := by
      intro t2 hf2 hl2 hp2 g hg
      refine wpAny_bind (wpAny_storeSet_of ho hd ?_ (fits_of_scanBound hb1))
      have ho1 : (s.heap.update a (Obj.putSet es1 t2)).get? a = some { o with data := .set es1 (ep + 1) t2 } := by
        have := Heap.get?_update_self (Obj.putSet es1 t2) ho (by rw [putSet_of es1 t2 hd]; rfl)
        rw [putSet_of es1 t2 hd] at this; exact this
      have hsb1 := Heap.SameBut.update s.heap a (Obj.putSet es1 t2)
      split
      · have hp := relayAll_perm t2 es1 (SetTable.grown es1.size)
        have hfr := relayAll_fits t2 es1 (SetTable.grown es1.size)
        have hlr := relayAll_led t2 es1 (SetTable.grown es1.size)
        have hpr := relayAll_plain t2 es1 (SetTable.grown es1.size)
        generalize hRl : relayAll t2 es1 (SetTable.grown es1.size) = Rl at hp hfr hlr hpr ⊢
        obtain ⟨es2, t3, gave2⟩ := Rl
        dsimp only at hp hfr hlr hpr ⊢
        have hsz : es2.size = es1.size := by rw [← Array.length_toList, hp.length_eq, Array.length_toList]
        have hb2 : es2.size < scanBound := by rw [hsz]; exact hb1
        refine wpAny_bind (hg _ _ _ ?_)
        refine wpAny_bind (wpAny_storeSet_of ho1 rfl ?_ (fits_of_scanBound hb2))
        have ho2 : ((s.heap.update a (Obj.putSet es1 t2)).update a (Obj.putSet es2 t3)).get? a = some { o with data := .set es2 (ep + 1 + 1) t3 } := by
          have := Heap.get?_update_self (Obj.putSet es2 t3) ho1 (by rw [putSet_of es2 t3 rfl]; rfl)
          rw [putSet_of (o := { o with data := .set es1 (ep + 1) t2 }) es2 t3 rfl] at this; exact this
        have hss2 := hp.map (fun e : Int × Value => txtOf e.2)
        refine wpAny_pure ⟨rfl, _, es2.toList.map (fun e => txtOf e.2), rfl, hsb1.trans (Heap.SameBut.update _ a _), ⟨_, es2, ep + 1 + 1, t3, ho2, hex, rfl, hel1.perm hp, rfl, hss2.nodup_iff.mpr hnd1, hb2, hfr, hlr.trans (hl2.trans hled), fun _ => ?_⟩, hss2.trans hss1⟩
        cases hq : t3.plain with
        | false => rfl
        | true => rw [hpr hq] at hp2; cases hp2
      · exact wpAny_pure ⟨rfl, _, es1.toList.map (fun e => txtOf e.2), rfl, hsb1, ⟨_, es1, ep + 1, t2, ho1, hex, rfl, hel1, rfl, hnd1, hb1, hf2, hl2.trans hled, fun _ => hp2⟩, hss1⟩
    have fin : ∀ s' : Shared, (∃ h' ss', s' = { s with heap := h' } ∧ Heap.SameBut a s.heap h' ∧ SSet P w h' a ss' ∧ ss'.Perm (ss ++ [x])) → Q true s' := by
      rintro s' ⟨h', ss', rfl, hsb, hS', hp'⟩
      exact h h' ss' true hsb hS' (by rw [if_neg hx]; exact hp')
    split
    · refine wpAny_bind ?_
      rw [hashByValue_scannable 8 (x := .str x u) rfl]
      refine wpAny_pure ?_
      dsimp only [plainKind]
      simp only [Bool.false_eq_true, if_false]
      refine wpAny_mono (tail { t1 with plain := false } (SetTable.fits_plain_off hfits) hled1 rfl _ ?_) (fun r s' hq => ?_) fun _ _ e => e
      · intro b s₁ Q' hq; cases b <;> first | exact wpAny_pure hq | exact wpAny_rule hq
      · obtain ⟨rfl, hq⟩ := hq
        exact wpAny_pure (fin s' hq)
    · rename_i hnp
      refine wpAny_bind (wpAny_pure ?_)
      simp only [↓reduceIte]
      refine wpAny_mono (tail t1 hfits hled1 (by simpa using hnp) _ ?_) (fun r s' hq => ?_) fun _ _ e => e
      · intro b s₁ Q' hq; cases b <;> first | exact wpAny_pure hq | exact wpAny_rule hq
      · obtain ⟨rfl, hq⟩ := hq
        exact wpAny_pure (fin s' hq)
end
end L2

set_option Elab.async false
set_option linter.all false
set_option maxRecDepth 100000
set_option maxHeartbeats 4000000
namespace L2
open PySem PySem.Spec PyProof.Rows

/-- the texts that come first, each once, up to the order -/
inductive Dd : List Str → List Str → Prop
  | nil : Dd [] []
  | old {xs ss : List Str} {x : Str} : Dd xs ss → x ∈ ss → Dd (xs ++ [x]) ss
  | new {xs ss ss' : List Str} {x : Str} : Dd xs ss → x ∉ ss → ss'.Perm (ss ++ [x]) → Dd (xs ++ [x]) ss'
theorem Dd.mem {xs ss : List Str} (h : Dd xs ss) : ∀ y, y ∈ ss ↔ y ∈ xs := by
  induction h with
  | nil => intro y; exact Iff.rfl
  | old d hx ih =>
    rename_i zs ss x
    intro y
    rw [ih y, List.mem_append, List.mem_singleton]
    constructor
    · exact .inl
    · rintro (q | rfl)
      · exact q
      · exact (ih y).mp hx
  | new d hx hp ih =>
    rename_i zs ss ss' x
    intro y
    rw [hp.mem_iff, List.mem_append, List.mem_append, ih y]
theorem Dd.nodup {xs ss : List Str} (h : Dd xs ss) : ss.Nodup := by
  induction h with
  | nil => exact List.nodup_nil
  | old d hx ih => exact ih
  | new d hx hp ih =>
    rename_i zs ss ss' x
    refine hp.nodup_iff.mpr (List.nodup_append.mpr ⟨ih, by simp, fun y hy z hz e => ?_⟩)
    rw [List.mem_singleton.mp hz] at e
    exact hx (e ▸ hy)
theorem Dd.len {xs ss : List Str} (h : Dd xs ss) : ss.length ≤ xs.length := by
  induction h with
  | nil => exact Nat.le_refl _
  | old d hx ih => rw [List.length_append]; exact Nat.le_trans ih (Nat.le_add_right _ _)
  | new d hx hp ih => rw [hp.length_eq, List.length_append, List.length_append]; exact Nat.add_le_add_right ih _

theorem strs_at : ∀ {vs : List Value} {xs : List Str}, StrsAre vs xs → ∀ (i : Nat) (v : Value), vs[i]? = some v → ∃ x t, xs[i]? = some x ∧ v = .str x t
  | _, _, .nil, i, v, h => by simp at h
  | _, _, .cons x t r, 0, v, h => by simp at h; exact ⟨x, t, rfl, h.symm⟩
  | _, _, .cons x t r, i + 1, v, h => by
    obtain ⟨y, u, e1, e2⟩ := strs_at r i v (by simpa using h)
    exact ⟨y, u, by simpa using e1, e2⟩
section
variable {P : Program} {w : World} {A : Around} {R : Result → Shared → Prop} {I : Addr} {fp wr : List Addr} {G : Array GenState → Array GenState → Prop} {n : Nat} {Pv : Nat → Value → Prop} {St : Nat → Shared → Prop}
theorem SSet.at {h h' : Heap} {a : Addr} {ss : List Str} (hS : SSet P w h a ss) (k : ∀ o, h.get? a = some o → h'.get? a = some o) : SSet P w h' a ss := by
  obtain ⟨o, es, ep, tb, ho, rest⟩ := hS
  exact ⟨o, es, ep, tb, k o ho, rest⟩
theorem sset_update_loop (W : WalksS P w A.in1 I fp wr G n Pv St) (S : Addr) (hSf : S ∉ fp) (xs : List Str) (hn : xs.length = n) (hval : ∀ i v, Pv i v → ∃ x t, xs[i]? = some x ∧ v = .str x t) (hb : n + 1 < scanBound) :
    ∀ (k i : Nat) (s : Shared) (ss : List Str), n - i = k → i ≤ n → St i s → SSet P w s.heap S ss → Dd (xs.take i) ss →
      (∀ s' ss', Moved (S :: wr) G s s' → SSet P w s'.heap S ss' → Dd xs ss' → R (.ok (.ret .none)) s') →
      codeAny (model P w) A (.builtin "set.update.loop" ⟨[.ref S, .ref I], []⟩) R s := by
  have hSw : S ∉ wr := fun h => hSf (W.sub _ h)
  have hsub : ∀ b ∈ wr, b ∈ S :: wr := fun b hb => List.mem_cons_of_mem _ hb
  intro k
  induction k with
  | zero =>
    intro i s ss hk hi hst hS hd hR
    have hin : i = n := by omega
    subst hin
    refine codeAny_builtin PyProof.Rows.F.entry_set_update_loop ?_
    rw [Around.under_plainId PyProof.Rows.F.plain_set_update_loop _]
    show wpAny _ A.in1 (pyNext (.ref I) >>= _) _ _ s
    refine wpAny_bind (W.done s _ _ hst fun s' hm => ?_)
    show wpAny _ A.in1 (ret Value.none) _ _ s'
    refine wpAny_pure (hR s' ss (hm.mono hsub) (hS.at fun o e => hm.heap S _ hSw e) ?_)
    rw [List.take_of_length_le (Nat.le_of_eq hn)] at hd
    exact hd
  | succ k ih =>
    intro i s ss hk hi hst hS hd hR
    have hlt : i < n := by omega
    refine codeAny_builtin PyProof.Rows.F.entry_set_update_loop ?_
    rw [Around.under_plainId PyProof.Rows.F.plain_set_update_loop _]
    show wpAny _ A.in1 (pyNext (.ref I) >>= _) _ _ s
    refine wpAny_bind (W.item i s _ _ hlt hst fun v s' hP hst' hm => ?_)
    obtain ⟨x, t, hx, rfl⟩ := hval i v hP
    have hS' : SSet P w s'.heap S ss := hS.at fun o e => hm.heap S _ hSw e
    show wpAny _ A.in1 (holding [Value.str x t] (setAdd S (.str x t)) >>= _) _ _ s'
    refine wpAny_bind (wpAny_holding ?_)
    unfold setAdd
    refine wpAny_holding ?_
    refine wpAny_bind ((strKind P w).pyHash (k := x) (strKind_is _ _ _ _) ?_)
    have hl : ss.length ≤ i := by have := hd.len; rw [List.length_take] at this; omega
    refine sset_add (s := { s' with toks := s'.toks + 1 }) hS' (by omega) fun h' ss' b hsb hS2 hss => ?_
    have hd' : Dd (xs.take (i + 1)) ss' := by
      have e : xs.take (i + 1) = xs.take i ++ [x] := by rw [List.take_add_one, hx]; rfl
      rw [e]
      by_cases hm : x ∈ ss
      · rw [if_pos hm] at hss
        rw [hss]
        exact .old hd hm
      · rw [if_neg hm] at hss
        exact .new hd hm hss
    refine wpAny_pure ⟨plainId_quiet PyProof.Rows.F.plain_set_update_loop _, ih (i + 1) _ ss' (by omega) hlt (W.frame _ s' _ _ hst' (Nat.le_succ _) fun b hb o e => ?_) hS2 hd' fun s'' ss'' hm'' hS'' hd'' => ?_⟩
    · rw [hsb.2 b (fun h : b = S => hSf (by rw [← h]; exact hb))]; exact e
    · refine hR s'' ss'' (Moved.trans W.gtrans ((hm.mono hsub).then_heap (Nat.le_succ _) fun b o hb e => ?_) hm'') hS'' hd''
      rw [hsb.2 b (fun h : b = S => hb (by rw [h]; exact List.mem_cons_self))]; exact e
end

section
variable {P : Program} {w : World} {A : Around} {E : Value → Shared → Prop} {s : Shared}
theorem code_set_new_led (a : Value) {Q₁ : Value → Shared → Prop}
    (h : Q₁ (.ref s.heap.objs.size) { s with heap := s.heap.push { cls := .type "set", dict := none, data := .set #[] 0 (.fresh 0 0 (!w.params.followText "set-order")) } }) :
    codeAny (model P w) A (.call (.builtin "set.__new__") ⟨[.type "set", a], []⟩) (wants Q₁ E) s := by
  refine codeAny_of_tree ?_
  show wpAny _ A.in1 (do checkBuiltinCall "set.__new__" ⟨[.type "set", a], []⟩; again (.builtin "set.__new__" ⟨[.type "set", a], []⟩)) _ _ s
  refine wpAny_bind (wpAny_of_eq (PySem.F.newCall_set_1 a) (wpAny_pure ⟨plainId_quiet PySem.F.plain_set_new _, codeAny_builtin PySem.F.entry_set_new ?_⟩))
  rw [Around.under_plainId PySem.F.plain_set_new _]
  unfold Builtin.«set.__new__» Builtin.Frozenset.newClass
  have hsub := sub_set_self
  obtain ⟨hp, g, d, tk, os⟩ := s
  dsimp only
  wp_walk
  refine wpAny_askSetting (wpAny_pure ?_)
  dsimp only
  simp only [newObj]
  refine wpAny_bind (wpAny_alloc (wpAny_pure ?_))
  exact wpAny_pure h

set_option maxHeartbeats 16000000 in
theorem call_set_strs {l : Addr} {items : Array Value} {xs : List Str} {Q : Value → Shared → Prop}
    (hh : A.handled = none) (hl : s.heap.IsList l items) (hi : StrsAre items.toList xs) (hb : items.size + 1 < scanBound)
    (h : ∀ (h' : Heap) (tk : Nat) (ss : List Str), SSet P w h' s.heap.objs.size ss → Dd xs ss → (∀ b o, b < s.heap.objs.size → s.heap.get? b = some o → h'.get? b = some o) → Q (.ref s.heap.objs.size) { s with heap := h', toks := tk }) :
    wpAny (model P w) A (call (.type "set") [.ref l]) Q E s := by
  obtain ⟨c, tl, hmro⟩ := PySem.F.called_set.mro
  have hmade := PySem.F.called_set.made
  have hsub := PySem.F.called_set.sub
  refine wpAny_call (codeAny_of_tree ?_)
  show wpAny _ _ (callAny (.type "set") _) _ _ _
  refine wpAny_pure ⟨Code.quiet_builtin _ (by decide +kernel), codeAny_builtin PySem.F.entry_type_call ?_⟩
  rw [Around.under_plain (weight_type_call_type "set" [.ref l] []) rfl]
  have h1 := PySem.F.called_set.notType
  have h2 := PySem.F.called_set.canCreate
  have hct := PySem.F.typeCall_set_1 (.ref l)
  repeat (any_goals (first | assumption | wp_step))
  refine codeAny_mono (code_set_new_led (.ref l) (E := E) (Q₁ := fun obj s₁ => obj = .ref s.heap.objs.size ∧ s₁ = { s with heap := s.heap.push { cls := .type "set", dict := none, data := .set #[] 0 (.fresh 0 0 (!w.params.followText "set-order")) } }) ⟨rfl, rfl⟩) fun r s₁ hr => ?_
  cases r with
  | error e => exact hr
  | ok fl =>
    cases fl with
    | ret obj =>
      obtain ⟨rfl, rfl⟩ := hr
      generalize hled : (!w.params.followText "set-order") = led
      have hS : (s.heap.push { cls := .type "set", dict := none, data := .set #[] 0 (.fresh 0 0 led) }).get? s.heap.objs.size = some { cls := .type "set", dict := none, data := .set #[] 0 (.fresh 0 0 led) } := Heap.get?_push_size _ rfl
      have hT : Shared.TypeIs { s with heap := s.heap.push { cls := .type "set", dict := none, data := .set #[] 0 (.fresh 0 0 led) } } (.ref s.heap.objs.size) "set" := ⟨_, hS, rfl⟩
      have hli := PySem.F.called_set.init.lookup
      have hbi := PySem.F.called_set.init.bind (.ref s.heap.objs.size)
      repeat (any_goals (first | assumption | wp_step))
      refine codeAny_mono (codeAny_call_builtin (R := wants (fun r s₂ => r = .none ∧ ∃ h' tk ss, s₂ = { s with heap := h', toks := tk } ∧ SSet P w h' s.heap.objs.size ss ∧ Dd xs ss ∧
          (∀ b o, b < s.heap.objs.size → s.heap.get? b = some o → h'.get? b = some o)) E) PySem.F.called_set.init.plain PySem.F.entry_set_init (check_set_init_1 hT ?_)) fun r₂ s₂ hr₂ => ?_
      · obtain ⟨ol, hol, hcl, nl, hdl⟩ := hl
        obtain ⟨ocls, odict, odata, oslots⟩ := ol
        simp only at hcl hdl
        subst hcl; subst hdl
        have hol' : (s.heap.push { cls := .type "set", dict := none, data := .set #[] 0 (.fresh 0 0 led) }).get? l = some { cls := .type "list", dict := odict, data := .seq items nl, slots := oslots } := Heap.get?_push_of_some _ hol
        have hsls := PySem.F.sub_list_set
        have hslf := PySem.F.sub_list_frozenset
        have hne : (Value.type "list" == Value.type "dict") = false := by decide
        have hl1 : (s.heap.push { cls := .type "set", dict := none, data := .set #[] 0 (.fresh 0 0 led) }).IsList l items := ⟨_, hol', rfl, nl, rfl⟩
        unfold Builtin.«set.__init__» noKeywords Builtin.Frozenset.updateFrom
        generalize hPI : pyIter = PI
        wp_walk
        subst hPI
        refine wpAny_pyIter_list hl1 ?_
        refine wpAny_bind (wpAny_runValue ?_)
        have hlS : l < s.heap.objs.size := Heap.lt_size hol
        have hh3 : A.in1.in1.in1.handled = none := by simp [hh]
        have hneI : l ≠ (s.heap.push { cls := .type "set", dict := none, data := .set #[] 0 (.fresh 0 0 led) }).objs.size := by
          rw [Heap.size_push]; exact Nat.ne_of_lt (Nat.lt_succ_of_lt hlS)
        have hSf : s.heap.objs.size ∉ [(s.heap.push { cls := .type "set", dict := none, data := .set #[] 0 (.fresh 0 0 led) }).objs.size, l] := by
          rw [Heap.size_push]; simp only [List.mem_cons, List.mem_singleton, List.not_mem_nil, or_false, not_or]
          exact ⟨Nat.ne_of_lt (Nat.lt_succ_self _), Nat.ne_of_gt hlS⟩
        have hlen : xs.length = items.size := by have := hi.length; simpa using this.symm
        have hval : ∀ (i : Nat) (v : Value), items[i]? = some v → ∃ x t, xs[i]? = some x ∧ v = .str x t := fun i v hv => strs_at hi i v (by rw [Array.getElem?_toList]; exact hv)
        refine sset_update_loop ((Walks.list hh3 _ l hneI items).toS) s.heap.objs.size hSf xs hlen hval hb (items.size - 0) 0 _ [] (by omega) (Nat.zero_le _)
          ⟨⟨_, Heap.get?_push_size _ rfl, rfl, rfl⟩, (hl1.push _)⟩ ?hS0 (by rw [List.take_zero]; exact .nil) ?hR
        case hS0 =>
          have hget : ((s.heap.push { cls := .type "set", dict := none, data := .set #[] 0 (.fresh 0 0 led) }).push { cls := .type "list_iterator", data := .fields #[.ref l, .int 0 0] }).get? s.heap.objs.size
              = some { cls := .type "set", dict := none, data := .set #[] 0 (.fresh 0 0 led) } := Heap.get?_push_of_some _ hS
          exact ⟨_, #[], 0, _, hget, ⟨rfl, rfl, rfl⟩, rfl, fun e he => by simp at he, rfl, List.nodup_nil, by decide, by rfl, hled.symm, fun q => absurd q (by simp)⟩
        case hR =>
          intro s' ss' hm hS' hd'
          obtain ⟨h', g', d', tk', os'⟩ := s'
          have eg : g' = s.gens := hm.gens
          have ed : d' = s.drawn := hm.drawn
          have eo : os' = s.os := hm.os
          subst eg; subst ed; subst eo
          show wpAny _ _ _ _ _ _
          refine wpAny_pure ?_
          show wpAny _ _ (ret Value.none) _ _ _
          refine wpAny_pure ⟨rfl, h', tk', ss', rfl, hS', hd', fun b o hb e => ?_⟩
          have hb1 : b ≠ s.heap.objs.size := Nat.ne_of_lt hb
          have hb2 : b ≠ (s.heap.push { cls := .type "set", dict := none, data := .set #[] 0 (.fresh 0 0 led) }).objs.size := by
            rw [Heap.size_push]; exact Nat.ne_of_lt (Nat.lt_succ_of_lt hb)
          exact hm.heap b o (by simp only [List.mem_cons, List.mem_singleton, List.not_mem_nil, or_false, not_or]; exact ⟨hb1, hb2⟩) (Heap.get?_push_of_some _ (Heap.get?_push_of_some _ e))
      · cases r₂ with
        | error e => exact hr₂
        | ok fl₂ =>
          cases fl₂ with
          | ret r =>
            obtain ⟨rfl, h', tk, ss, rfl, hS', hd', hk'⟩ := hr₂
            repeat (any_goals (first | assumption | wp_step))
            exact h _ _ ss hS' hd' hk'
          | _ => exact hr₂.elim
    | _ => exact hr.elim
end
end L2

set_option Elab.async false
set_option linter.all false
set_option maxRecDepth 100000
set_option maxHeartbeats 4000000
namespace L2
open PySem PySem.Spec PyProof.Rows
namespace SF
theorem entry_set_iter : entryFor table "set.__iter__" = some Builtin.«frozenset.__iter__» := entryFor_alias (id' := "frozenset.__iter__") (by kernel_rfl) rfl (by decide +kernel) (by kernel_rfl)
theorem slot_next : Slot "set_iterator" "__next__" "set_iterator.__next__" :=
  .of (owner := "set_iterator") (n := "__next__") (by rw [typeLookup_type, builtinLookup_eq_fast]; kernel_rfl) (by decide +kernel) (by decide +kernel) (by decide +kernel)
    (by first | exact .inl (by decide +kernel) | exact .inr (by decide +kernel)) (by rw [isSubtype_type]; kernel_rfl)
theorem entry_next : entryFor table "set_iterator.__next__" = some Builtin.«set_iterator.__next__» := entryFor_of_tree (by kernel_rfl)
theorem args_next (a : Value) : argsOk "set_iterator.__next__" ⟨[a], []⟩ := by unfold argsOk; kernel_rfl
theorem slot_self : Slot "set_iterator" "__iter__" "set_iterator.__iter__" :=
  .of (owner := "set_iterator") (n := "__iter__") (by rw [typeLookup_type, builtinLookup_eq_fast]; kernel_rfl) (by decide +kernel) (by decide +kernel) (by decide +kernel)
    (by first | exact .inl (by decide +kernel) | exact .inr (by decide +kernel)) (by rw [isSubtype_type]; kernel_rfl)
theorem entry_self : entryFor table "set_iterator.__iter__" = some Builtin.«dict_keyiterator.__iter__» :=
  entryFor_alias (id' := "dict_keyiterator.__iter__") (by kernel_rfl) rfl (by decide +kernel) (by kernel_rfl)
theorem args_self (a : Value) : argsOk "set_iterator.__iter__" ⟨[a], []⟩ := by unfold argsOk; kernel_rfl
theorem set_len : typeLookup (.type "set") "__len__" = pure (some (.builtin "set.__len__")) := by rw [typeLookup_type, builtinLookup_eq_fast]; kernel_rfl
theorem sub_set : isSubtype (.type "set") (.type "set") = pure true := by rw [isSubtype_type]; kernel_rfl
end SF
end L2

set_option Elab.async false
set_option linter.all false
set_option maxRecDepth 100000
set_option maxHeartbeats 4000000
namespace L2
open PySem PySem.Spec PyProof.Rows

theorem erase_perm {α : Type} : ∀ (l : List α) (i : Nat) (h : i < l.length), (l[i] :: l.eraseIdx i).Perm l
  | x :: r, 0, _ => List.Perm.refl _
  | x :: r, i + 1, h => by
    have h' : i < r.length := by simpa using h
    exact (List.Perm.swap x r[i] (r.eraseIdx i)).trans ((erase_perm r i h').cons x)
theorem pickGo_perm {α : Type} (next : Nat → Nat) : ∀ (fuel k : Nat) (left : List α) (out : Array α), left.length = fuel → (pickOrder.go next fuel k left out).toList.Perm (out.toList ++ left)
  | 0, k, left, out, h => by
    have e : left = [] := List.eq_nil_of_length_eq_zero h
    subst e
    simp [pickOrder.go]
  | fuel + 1, k, left, out, h => by
    have hlt : next k % left.length < left.length := Nat.mod_lt _ (by omega)
    unfold pickOrder.go
    rw [List.getElem?_eq_getElem hlt]
    dsimp only
    refine (pickGo_perm next fuel (k + 1) _ _ (by rw [List.length_eraseIdx_of_lt hlt]; omega)).trans ?_
    rw [Array.toList_push, List.append_assoc]
    refine List.Perm.append_left _ ?_
    rw [List.singleton_append]
    exact erase_perm _ _ hlt
theorem pick_perm {α : Type} (next : Nat → Nat) (xs : Array α) : (pickOrder next xs).toList.Perm xs.toList := by
  have := pickGo_perm next xs.size 0 xs.toList #[] (by simp)
  simpa [pickOrder] using this

section
variable {P : Program} {w : World} {A : Around} {E : Value → Shared → Prop}
theorem choose_any {src : Source} {n : Nat} {s : Shared} {Q : Nat → Shared → Prop} (hn : n ≠ 0) (h : ∀ i d, i < n → Q i { s with drawn := d }) : wpAny (model P w) A (choose src n) Q E s := by
  intro Γ p hΓ
  unfold choose
  rw [Sem.wp_choose]
  exact ⟨hn, h _ _ (Nat.mod_lt _ (Nat.pos_of_ne_zero hn))⟩
theorem drawOrder_perm {α : Type} : ∀ (n : Nat) (xs : List α) (s : Shared) (Q : List α → Shared → Prop), xs.length = n → (∀ ys d, ys.Perm xs → Q ys { s with drawn := d }) → wpAny (model P w) A (drawOrder n xs) Q E s
  | 0, xs, s, Q, hl, h => by
    have e : xs = [] := List.eq_nil_of_length_eq_zero hl
    subst e
    exact wpAny_pure (h [] s.drawn (List.Perm.refl _))
  | n + 1, [], s, Q, hl, h => by simp at hl
  | n + 1, x :: r, s, Q, hl, h => by
    unfold drawOrder
    refine wpAny_bind (choose_any (by rw [hl]; exact Nat.succ_ne_zero n) fun i d hi => ?_)
    rw [List.getElem?_eq_getElem hi]
    dsimp only
    refine wpAny_bind (drawOrder_perm n _ _ _ (by rw [List.length_eraseIdx_of_lt hi]; omega) fun ys d' hp => ?_)
    refine wpAny_pure (h _ d' ?_)
    exact (hp.cons _).trans (erase_perm _ _ hi)
end

theorem range_get {α : Type} : ∀ l : List α, (List.range l.length).filterMap (fun i => l[i]?) = l
  | [] => rfl
  | x :: r => by
    rw [List.length_cons, List.range_succ_eq_map, List.filterMap_cons]
    simp only [List.getElem?_cons_zero]
    rw [List.filterMap_map]
    exact congrArg (x :: ·) (range_get r)
/-- the iterator's record -/
def setIt (first : Value) (i : Nat) (S : Addr) (n ep : Nat) : Obj := { cls := .type "set_iterator", dict := none, data := .fields #[first, .int i 0, .ref S, .int n 0, .int ep 0], slots := #[] }
/-- at turn i the iterator will tell ord[i]: by the text's order, by a drawn one, or of one member at most -/
inductive Ord (w : World) (S : Addr) (es : Array (Int × Value)) (ep : Nat) (t : SetTable) (h : Heap) : Value → Nat → List Value → Prop
  | text (i : Nat) : w.params.followText "set-order" = true → Ord w S es ep t h (.int 0 0) i ((pickOrder (w.params.setOrder S ep) es).toList.map (·.2))
  | drawn (i : Nat) (T : Addr) (ps : List Nat) : w.params.followText "set-order" = false → IsTup h T (ps.map fun (p : Nat) => Value.int p 0).toArray → (∀ p ∈ ps, p < es.size) → Ord w S es ep t h (.ref T) i (ps.filterMap fun p => (es[p]?).map (·.2))
  | none (k i : Nat) : w.params.followText "set-order" = false → es.size = 0 → Ord w S es ep t h (.int k 0) i []
  | one0 (e : Int × Value) : w.params.followText "set-order" = false → es = #[e] → Ord w S es ep t h (.int 0 0) 0 [e.2]
  | one1 (e : Int × Value) (j : Nat) : w.params.followText "set-order" = false → es = #[e] → t.place = #[j] → Ord w S es ep t h (.int (j + 1 : Nat) 0) 1 [e.2]

def SetSt (P : Program) (w : World) (S I T0 : Addr) (es : Array (Int × Value)) (ep : Nat) (t : SetTable) (ord : List Value) (i : Nat) (h : Heap) : Prop :=
  ∃ first o, h.get? I = some (setIt first i S es.size ep) ∧ h.get? S = some o ∧ o.data = .set es ep t ∧ Ord w S es ep t h first i ord ∧ ∀ T, first = .ref T → T = T0

section
variable {P : Program} {w : World} {A : Around} {E : Value → Shared → Prop} {s : Shared}
theorem below1 (j : Nat) : SetTable.below #[j] (j + 1) = 1 := by
  simp [SetTable.below, SetTable.below.go]
theorem below0 (j : Nat) : SetTable.below #[j] 0 = 0 := by
  simp [SetTable.below, SetTable.below.go]
theorem byText_wp {Q : Bool → Shared → Prop} (h : Q (w.params.followText "set-order") s) : wpAny (model P w) A setsByText Q E s := by
  unfold setsByText
  exact wpAny_bind (wpAny_askSetting (wpAny_pure h))
theorem setNext_wp {S : Addr} {es : Array (Int × Value)} {ep i k : Nat} {t : SetTable} {ord : List Value} {o : Obj} {Q : Option (Value × Nat) → Shared → Prop} (ho : s.heap.get? S = some o) (hd : o.data = .set es ep t) (hf : t.fits es.size = true)
    (hled : t.led = !w.params.followText "set-order") (od : Ord w S es ep t s.heap (.int (k : Int) 0) i ord)
    (h : ∀ k' : Nat, (∀ v, ord[i]? = some v → Ord w S es ep t s.heap (.int (k' : Int) 0) (i + 1) ord) → Q ((ord[i]?).map fun v => (v, k')) s) : wpAny (model P w) A (setNext S k i ep) Q E s := by
  unfold setNext
  refine wpAny_bind (wpAny_setState_of ho hd hf ?_)
  dsimp only
  refine wpAny_bind (byText_wp ?_)
  generalize hk : (k : Int) = ki at od
  generalize hfst : Value.int ki 0 = first at od
  cases od with
  | text i ht =>
    cases hfst
    obtain rfl : k = 0 := by omega
    rw [ht]
    simp only [if_true, bne_self_eq_false, Bool.false_eq_true, if_false]
    unfold setWalk
    refine wpAny_bind ?_
    refine wpAny_bind (wpAny_setState_of ho hd hf ?_)
    dsimp only
    refine wpAny_bind (byText_wp ?_)
    rw [ht]
    simp only [if_true]
    refine wpAny_bind (wpAny_askSetting (wpAny_pure ?_))
    refine wpAny_pure ?_
    have := h 0 fun v _ => Ord.text (i + 1) ht
    rw [List.getElem?_map, Array.getElem?_toList] at this
    rw [Option.map_map] at this
    exact this
  | drawn => cases hfst
  | none k' i ht h0 =>
    cases hfst
    rw [ht]
    have e0 : es = #[] := Array.eq_empty_of_size_eq_zero h0
    subst e0
    have hl : t.led = true := by rw [hled, ht]; rfl
    rw [if_neg Bool.false_ne_true]
    split
    · rename_i hdr
      have hdr' : (!t.plain && decide ((#[] : Array (Int × Value)).size > 1)) = true := hdr
      simp at hdr'
    · refine wpAny_bind (show wpAny (model P w) A (if (!t.led && !(#[] : Array (Int × Value)).isEmpty) = true then unsupported "set:maker-not-led" else pure ()) _ _ _ from ?_)
      rw [hl]
      refine wpAny_pure (wpAny_pure ?_)
      have := h k fun v e => by simp at e
      simpa using this
  | one0 e ht he =>
    cases hfst
    obtain rfl : k = 0 := by omega
    rw [ht]
    subst he
    have hl : t.led = true := by rw [hled, ht]; rfl
    have hpz : t.place.size = 1 := by
      simp only [SetTable.fits, Bool.and_eq_true, beq_iff_eq] at hf
      exact hf.1
    obtain ⟨j, hj⟩ : ∃ j, t.place = #[j] := by
      generalize t.place = pl at hpz
      obtain ⟨l⟩ := pl
      match l, hpz with
      | [j], _ => exact ⟨j, rfl⟩
    rw [if_neg Bool.false_ne_true]
    split
    · rename_i hdr
      have hdr' : (!t.plain && decide ((#[e] : Array (Int × Value)).size > 1)) = true := hdr
      simp at hdr'
    · refine wpAny_bind (show wpAny (model P w) A (if (!t.led && !(#[e] : Array (Int × Value)).isEmpty) = true then unsupported "set:maker-not-led" else pure ()) _ _ _ from ?_)
      rw [hl]
      refine wpAny_pure (wpAny_pure ?_)
      rw [hj, below0]
      exact h (j + 1) fun v _ => Ord.one1 e j ht rfl hj
  | one1 e j ht he hp =>
    cases hfst
    obtain rfl : k = j + 1 := by omega
    rw [ht]
    subst he
    have hl : t.led = true := by rw [hled, ht]; rfl
    rw [if_neg Bool.false_ne_true]
    split
    · rename_i hdr
      have hdr' : (!t.plain && decide ((#[e] : Array (Int × Value)).size > 1)) = true := hdr
      simp at hdr'
    · refine wpAny_bind (show wpAny (model P w) A (if (!t.led && !(#[e] : Array (Int × Value)).isEmpty) = true then unsupported "set:maker-not-led" else pure ()) _ _ _ from ?_)
      rw [hl]
      refine wpAny_pure (wpAny_pure ?_)
      rw [hp, below1]
      exact h 0 fun v e => by simp at e

theorem Ord.keep {S : Addr} {es : Array (Int × Value)} {ep i : Nat} {t : SetTable} {ord : List Value} {first : Value} {h h' : Heap} (od : Ord w S es ep t h first i ord) (k : ∀ T o, first = .ref T → h.get? T = some o → h'.get? T = some o) : Ord w S es ep t h' first i ord := by
  cases od with
  | text i ht => exact .text i ht
  | drawn i T ps ht hT hp =>
    obtain ⟨o, e, c⟩ := hT
    exact .drawn i T ps ht ⟨o, k T o rfl e, c⟩ hp
  | none kk i ht h0 => exact .none kk i ht h0
  | one0 e ht he => exact .one0 e ht he
  | one1 e j ht he hp => exact .one1 e j ht he hp
theorem Ord.kind {S : Addr} {es : Array (Int × Value)} {ep i : Nat} {t : SetTable} {ord : List Value} {first : Value} {h : Heap} (od : Ord w S es ep t h first i ord) :
    (∃ k : Nat, first = .int (k : Int) 0) ∨ ∃ (T : Addr) (ps : List Nat), first = .ref T ∧ w.params.followText "set-order" = false ∧ IsTup h T (ps.map fun (p : Nat) => Value.int p 0).toArray ∧ (∀ p ∈ ps, p < es.size) ∧ ord = ps.filterMap fun p => (es[p]?).map (·.2) := by
  cases od with
  | text i ht => exact .inl ⟨0, rfl⟩
  | drawn i T ps ht hT hp => exact .inr ⟨T, ps, rfl, ht, hT, hp, rfl⟩
  | none k i ht h0 => exact .inl ⟨k, rfl⟩
  | one0 e ht he => exact .inl ⟨0, rfl⟩
  | one1 e j ht he hp => exact .inl ⟨j + 1, rfl⟩
theorem Ord.step {S : Addr} {es : Array (Int × Value)} {ep i : Nat} {t : SetTable} {ord : List Value} {T : Addr} {h : Heap} (od : Ord w S es ep t h (.ref T) i ord) : Ord w S es ep t h (.ref T) (i + 1) ord := by
  cases od with
  | drawn i T ps ht hT hp => exact .drawn (i + 1) T ps ht hT hp
end

/-- the places, each of them one of the members -/
theorem fm_get {es : Array (Int × Value)} : ∀ {ps : List Nat}, (∀ p ∈ ps, p < es.size) → ∀ (i : Nat), (ps.filterMap fun p => (es[p]?).map (·.2))[i]? = (ps[i]?).bind fun p => (es[p]?).map (·.2)
  | [], _, i => by simp
  | p :: r, hp, i => by
    have h1 : p < es.size := hp p (by simp)
    have e : es[p]? = some es[p] := by simp [h1]
    rw [List.filterMap_cons, e]
    cases i with
    | zero => simp [e]
    | succ i => simpa using fm_get (fun q hq => hp q (List.mem_cons_of_mem _ hq)) i

section
variable {P : Program} {w : World} {A : Around}
theorem walks_set (hh : A.handled = none) {S I : Addr} {es : Array (Int × Value)} {ep : Nat} {t : SetTable} {ord : List Value} (fp : List Addr) (hI : I ∈ fp) (hS : S ∈ fp) (hne : S ≠ I) (hf : t.fits es.size = true) (hled : t.led = !w.params.followText "set-order")
    {T0 : Addr} (hT : T0 ∈ fp) (hTI : T0 ≠ I) :
    Walks P w A I fp [I] ord.length (fun i v => ord[i]? = some v) (SetSt P w S I T0 es ep t ord) where
  sub := fun b hb => by rw [List.mem_singleton.mp hb]; exact hI
  frame := fun i h h' st hk => by
    obtain ⟨first, o, h1, h2, h3, h4, h5⟩ := st
    exact ⟨first, o, hk I hI _ h1, hk S hS _ h2, h3, h4.keep (fun T o e q => hk T (by rw [h5 T e]; exact hT) o q), h5⟩
  item := fun i s Q E hi st hQ => by
    obtain ⟨first, o, h1, h2, h3, h4, h5⟩ := st
    have ty : s.TypeIs (.ref I) "set_iterator" := ⟨_, h1, rfl⟩
    unfold pyNext
    refine wpAny_bind (wpAny_attempt (wpAny_callSpecial?_slot (name := Str.ofString "__next__") ty SF.slot_next (wpAny_call_entry SF.slot_next ty SF.entry_next ?_ (SF.args_next _))))
    show wpAny _ _ (fieldsOf (.ref I) >>= _) _ _ s
    refine wpAny_bind (wpAny_fieldsOf h1 rfl ?_)
    show wpAny _ _ (setEntries S >>= _) _ _ s
    refine wpAny_bind (wpAny_setEntries_of h2 h3 hf ?_)
    simp only [bne_self_eq_false, Bool.false_eq_true, if_false]
    have hv : ord[i]? = some ord[i] := List.getElem?_eq_getElem hi
    rcases h4.kind with ⟨k, rfl⟩ | ⟨T, ps, rfl, ht, hTt, hps, hord⟩
    · show wpAny _ _ (setNext S (Int.toNat (k : Int)) (Int.toNat (i : Int)) (Int.toNat (ep : Int)) >>= _) _ _ s
      simp only [Int.toNat_natCast]
      refine wpAny_bind (setNext_wp h2 h3 hf hled h4 fun k' hk' => ?_)
      rw [hv]
      show wpAny _ _ (setField (.ref I) 0 (rawInt k') >>= _) _ _ s
      refine wpAny_bind (wpAny_setField_rec h1 (by simp) fun ha ha1 ha2 => ?_)
      refine wpAny_bind (wpAny_setField_rec ha1 (by simp) fun hb hb1 hb2 => ?_)
      refine wpAny_pure ⟨_, rfl, wpAny_pure (hQ _ hb s.toks hv ⟨.int (k' : Int) 0, o, hb1, ?_, h3, (hk' _ hv).keep (fun T o e => by cases e), (fun T e => by cases e)⟩ fun b o hb' e => ?_)⟩
      · rw [hb2.2 S hne, ha2.2 S hne]; exact h2
      · have : b ≠ I := fun z => hb' (by simp [z])
        rw [hb2.2 b this, ha2.2 b this]; exact e
    · have hTne : T ≠ I := by rw [h5 T rfl]; exact hTI
      have hg := fm_get hps i
      rw [← hord, hv] at hg
      cases hpi : ps[i]? with
      | none => rw [hpi] at hg; cases hg
      | some p =>
        rw [hpi] at hg
        have hp : p < es.size := hps p (List.mem_of_getElem? hpi)
        have hep : es[p]? = some es[p] := by simp [hp]
        have hg' : some ord[i] = (es[p]?).map (·.2) := hg
        rw [hep] at hg'
        have hval : ord[i] = es[p].2 := Option.some.inj hg'
        show wpAny _ _ (seqItems? (.ref T) >>= _) _ _ s
        obtain ⟨oT, eT, cT, nT, dT⟩ := hTt
        refine wpAny_bind (wpAny_seqItems eT dT ?_)
        dsimp only
        have hpl : ((ps.map fun (p : Nat) => Value.int p 0).toArray)[Int.toNat (i : Int)]? = some (.int (p : Int) 0) := by
          rw [Int.toNat_natCast, List.getElem?_toArray, List.getElem?_map, hpi]; rfl
        rw [hpl]
        show wpAny _ _ (setNextDrawn S (Int.toNat (p : Int)) (Int.toNat (ep : Int)) >>= _) _ _ s
        simp only [Int.toNat_natCast]
        unfold setNextDrawn
        refine wpAny_bind (wpAny_bind (wpAny_setState_of h2 h3 hf ?_))
        simp only [bne_self_eq_false, Bool.false_eq_true, if_false]
        rw [hep]
        refine wpAny_pure ?_
        refine wpAny_bind (wpAny_setField_rec h1 (by simp) fun hb hb1 hb2 => ?_)
        refine wpAny_pure ⟨_, rfl, wpAny_pure (hQ _ hb s.toks (by rw [hv, hval]; rfl) ⟨.ref T, o, hb1, ?_, h3, h4.step.keep (fun T' o e q => ?_), h5⟩ fun b o hb' e => ?_)⟩
        · rw [hb2.2 S hne]; exact h2
        · cases e; rw [hb2.2 T hTne]; exact q
        · have : b ≠ I := fun z => hb' (by simp [z])
          rw [hb2.2 b this]; exact e
  done := fun s Q E st hQ => by
    obtain ⟨first, o, h1, h2, h3, h4, h5⟩ := st
    have ty : s.TypeIs (.ref I) "set_iterator" := ⟨_, h1, rfl⟩
    have hv : ord[ord.length]? = none := List.getElem?_eq_none (Nat.le_refl _)
    have stop : ∀ h' : Heap, (∀ b o, b ≠ I → s.heap.get? b = some o → h'.get? b = some o) → wpAny (model P w) A.in1 (do raiseNew (← newExc (.type "StopIteration") []) : Sem Fin) (fun _ _ => False)
        (fun x s' => wpAny (model P w) A (do let b ← isInstance x (.type "StopIteration"); if b = true then pure Option.none else throw x) Q E s') { s with heap := h' } := by
      intro h' hk
      refine wpAny_bind ?_
      simp only [newExc, newTuple]
      refine wpAny_bind (wpAny_newObj_type ?_ (by size_fits))
      refine wpAny_bind (m := firstArgMember _ _) (wpAny_of_eq (a := Value.none) (by first | rfl | (simp only [firstArgMember]; rfl)) ?_)
      refine wpAny_newObj_type ?_ (by size_fits)
      simp only [raiseNew]
      refine wpAny_bind (wpAny_handled ?_)
      rw [show A.in1.handled = none from hh]
      refine wpAny_bind (wpAny_pure (wpAny_throw ?_))
      refine wpAny_bind (wpAny_isInstance (T := "StopIteration") (b := true) ⟨_, Heap.get?_push_size _ rfl, rfl⟩ isSubtype_stop ?_)
      exact wpAny_pure (hQ _ _ fun b o hb e => Heap.get?_push_of_some _ (Heap.get?_push_of_some _ (hk b o (fun z => hb (by simp [z])) e)))
    unfold pyNext
    refine wpAny_bind (wpAny_attempt (wpAny_callSpecial?_slot (name := Str.ofString "__next__") ty SF.slot_next (wpAny_call_entry SF.slot_next ty SF.entry_next ?_ (SF.args_next _))))
    show wpAny _ _ (fieldsOf (.ref I) >>= _) _ _ s
    refine wpAny_bind (wpAny_fieldsOf h1 rfl ?_)
    show wpAny _ _ (setEntries S >>= _) _ _ s
    refine wpAny_bind (wpAny_setEntries_of h2 h3 hf ?_)
    simp only [bne_self_eq_false, Bool.false_eq_true, if_false]
    rcases h4.kind with ⟨k, rfl⟩ | ⟨T, ps, rfl, ht, hTt, hps, hord⟩
    · show wpAny _ _ (setNext S (Int.toNat (k : Int)) (Int.toNat (ord.length : Int)) (Int.toNat (ep : Int)) >>= _) _ _ s
      simp only [Int.toNat_natCast]
      refine wpAny_bind (setNext_wp h2 h3 hf hled h4 fun k' hk' => ?_)
      rw [hv]
      show wpAny _ _ (setField (.ref I) 2 .none >>= _) _ _ s
      refine wpAny_bind (wpAny_setField_rec h1 (by simp) fun ha ha1 ha2 => ?_)
      refine wpAny_mono (stop ha fun b o hb e => by rw [ha2.2 b hb]; exact e) (fun _ _ z => z.elim) fun x s' z => ?_
      exact z
    · have hpi : ps[ord.length]? = none := by
        have hg := fm_get hps ord.length
        rw [← hord, hv] at hg
        cases hpi : ps[ord.length]? with
        | none => rfl
        | some p =>
          rw [hpi] at hg
          have hp : p < es.size := hps p (List.mem_of_getElem? hpi)
          have hep : es[p]? = some es[p] := by simp [hp]
          have hg' : (none : Option Value) = (es[p]?).map (·.2) := hg
          rw [hep] at hg'
          cases hg'
      show wpAny _ _ (seqItems? (.ref T) >>= _) _ _ s
      obtain ⟨oT, eT, cT, nT, dT⟩ := hTt
      refine wpAny_bind (wpAny_seqItems eT dT ?_)
      dsimp only
      have hpl : ((ps.map fun (p : Nat) => Value.int p 0).toArray)[Int.toNat (ord.length : Int)]? = none := by
        rw [Int.toNat_natCast, List.getElem?_toArray, List.getElem?_map, hpi]; rfl
      rw [hpl]
      show wpAny _ _ (setField (.ref I) 0 (rawInt 0) >>= _) _ _ s
      refine wpAny_bind (wpAny_setField_rec h1 (by simp) fun ha ha1 ha2 => ?_)
      refine wpAny_bind (wpAny_setField_rec ha1 (by simp) fun hb hb1 hb2 => ?_)
      refine wpAny_mono (stop hb fun b o hb' e => by rw [hb2.2 b hb', ha2.2 b hb']; exact e) (fun _ _ z => z.elim) fun x s' z => ?_
      exact z
  self := fun i s Q E st hQ => by
    obtain ⟨first, o, h1, h2, h3, h4, h5⟩ := st
    have ty : s.TypeIs (.ref I) "set_iterator" := ⟨_, h1, rfl⟩
    refine wpAny_pyIter_slot ty SF.slot_self (wpAny_call_entry SF.slot_self ty SF.entry_self ?_ (SF.args_self _))
    show wpAny _ _ (ret (.ref I)) _ _ s
    exact wpAny_pure ⟨_, rfl, "set_iterator", _, ty, SF.slot_next.lookup, hQ⟩

/-- iter(s) of a set of texts: its members in some order -/
theorem pyIter_sset {E : Value → Shared → Prop} {s : Shared} {S : Addr} {ss : List Str} {Q : Value → Shared → Prop} (hS : SSet P w s.heap S ss)
    (h : ∀ (h' : Heap) (d' : Drawn) (I : Addr) (fp : List Addr) (ord : List Value) (St : Nat → Heap → Prop), (∀ b o, s.heap.get? b = some o → h'.get? b = some o) → s.heap.objs.size ≤ I → I ∈ fp → (∀ b ∈ fp, b < h'.objs.size ∧ (b = S ∨ s.heap.objs.size ≤ b)) →
      (∀ A' : Around, A'.handled = none → Walks P w A' I fp [I] ord.length (fun i v => ord[i]? = some v) St) → St 0 h' → (∃ ys, StrsAre ord ys ∧ ys.Perm ss) → Q (.ref I) { s with heap := h', drawn := d' }) :
    wpAny (model P w) A (pyIter (.ref S)) Q E s := by
  obtain ⟨o, es, ep, t, ho, hex, hd, hel, hss, hnd, hb, hf, hled, hpl⟩ := hS
  have ty : s.TypeIs (.ref S) "set" := ⟨o, ho, hex.1⟩
  have hlt : S < s.heap.objs.size := Heap.lt_size ho
  have hstr : ∀ l : List (Int × Value), (∀ e ∈ l, e ∈ es.toList) → StrsAre (l.map (·.2)) (l.map fun e => txtOf e.2) := by
    intro l
    induction l with
    | nil => intro _; exact .nil
    | cons e r ih =>
      intro hm
      obtain ⟨u, hu⟩ := elems_txt hel (hm e (by simp))
      have := StrsAre.cons (txtOf e.2) u (ih fun x hx => hm x (List.mem_cons_of_mem _ hx))
      rw [← hu] at this
      exact this
  refine wpAny_pyIter_slot ty PySem.F.slot_set_iter (wpAny_call_entry PySem.F.slot_set_iter ty SF.entry_set_iter ?_ (PySem.F.args_set_iter_1 _))
  show wpAny _ _ (Builtin.Frozenset.sizeOf S >>= _) _ _ s
  unfold Builtin.Frozenset.sizeOf
  refine wpAny_bind (wpAny_bind (wpAny_setEntries_of ho hd hf (wpAny_pure ?_)))
  unfold setDrawn
  refine wpAny_bind (wpAny_bind (wpAny_setState_of ho hd hf ?_))
  dsimp only
  refine wpAny_bind (byText_wp (wpAny_pure ?_))
  have make : ∀ (first : Value) (T0 : Addr) (ord : List Value) (h1 : Heap) (d1 : Drawn), (∀ b ob, s.heap.get? b = some ob → h1.get? b = some ob) → s.heap.objs.size ≤ h1.objs.size → (∀ T, first = .ref T → T = T0) → T0 < h1.objs.size → (T0 = S ∨ s.heap.objs.size ≤ T0) → Ord w S es ep t h1 first 0 ord → (∃ ys, StrsAre ord ys ∧ ys.Perm ss) →
      Q (.ref h1.objs.size) { s with heap := h1.push (setIt first 0 S es.size ep), drawn := d1 } := by
    intro first T0 ord h1 d1 hk hsz hT hT1 hT2 od hord
    have hne : S ≠ h1.objs.size := Nat.ne_of_lt (Nat.lt_of_lt_of_le hlt hsz)
    have szp : (h1.push (setIt first 0 S es.size ep)).objs.size = h1.objs.size + 1 := Heap.size_push ..
    refine h _ d1 h1.objs.size [h1.objs.size, S, T0] ord (SetSt P w S h1.objs.size T0 es ep t ord) (fun b ob e => Heap.get?_push_of_some _ (hk b ob e)) hsz (by simp) (fun b hb => ?_) (fun A' hA => ?_) ⟨first, o, Heap.get?_push_size _ rfl, Heap.get?_push_of_some _ (hk S o ho), hd, od.keep (fun T ob _ e => Heap.get?_push_of_some _ e), hT⟩ hord
    · rw [szp]
      have hb' : b = h1.objs.size ∨ b = S ∨ b = T0 := by simpa using hb
      rcases hb' with rfl | rfl | rfl
      · exact ⟨Nat.lt_succ_self _, .inr hsz⟩
      · exact ⟨Nat.lt_succ_of_lt (Nat.lt_of_lt_of_le hlt hsz), .inl rfl⟩
      · exact ⟨Nat.lt_succ_of_lt hT1, hT2⟩
    · exact walks_set hA _ (by simp) (by simp) hne hf hled (by simp) (Nat.ne_of_lt hT1)
  have plain0 : ∀ (ord : List Value), Ord w S es ep t s.heap (.int 0 0) 0 ord → (∃ ys, StrsAre ord ys ∧ ys.Perm ss) → Q (.ref s.heap.objs.size) { s with heap := s.heap.push (setIt (.int 0 0) 0 S es.size ep) } := fun ord od hord =>
    make (.int 0 0) S ord s.heap s.drawn (fun _ _ e => e) (Nat.le_refl _) (fun T e => by cases e) hlt (.inl rfl) od hord
  cases hbt : w.params.followText "set-order" with
  | true =>
    simp only [Bool.not_true, Bool.false_and, Bool.false_eq_true, if_false]
    refine wpAny_bind (wpAny_pure (wpAny_bind (wpAny_setEpoch_of ho hd hf ?_)))
    refine wpAny_bind (wpAny_newObj_type (wpAny_pure ⟨_, rfl, "set_iterator", _, ⟨_, Heap.get?_push_size _ rfl, rfl⟩, SF.slot_next.lookup, ?_⟩))
    refine plain0 _ (.text 0 hbt) ⟨_, hstr _ (fun e he => (pick_perm _ es).mem_iff.mp he), ?_⟩
    rw [← hss]; exact (pick_perm _ es).map _
  | false =>
    show wpAny _ _ (if (!false && (!t.plain && decide (es.size > 1))) = true then _ else _) _ _ s
    by_cases h2 : es.size > 1
    · have hp0 : t.plain = false := hpl (by omega)
      rw [if_pos (by simp [hp0, h2])]
      refine wpAny_bind (drawOrder_perm es.size (List.range es.size) s _ (by simp) fun ps d hps => ?_)
      have hpsl : ps.length = es.size := by rw [hps.length_eq, List.length_range]
      refine wpAny_bind (wpAny_newObj_type ?_ ?_)
      · refine (wpAny_bind (wpAny_setEpoch_of (s := { s with heap := s.heap.push _, drawn := d }) (Heap.get?_push_of_some _ ho) hd hf ?_))
        refine wpAny_bind (wpAny_newObj_type (wpAny_pure ⟨_, rfl, "set_iterator", _, ⟨_, Heap.get?_push_size _ rfl, rfl⟩, SF.slot_next.lookup, ?_⟩))
        have hlp : ∀ p ∈ ps, p < es.size := fun p hp => List.mem_range.mp (hps.mem_iff.mp hp)
        refine make (.ref s.heap.objs.size) s.heap.objs.size (ps.filterMap fun p => (es[p]?).map (·.2)) (s.heap.push _) d (fun b ob e => Heap.get?_push_of_some _ e) (by rw [Heap.size_push]; exact Nat.le_succ _) (fun T e => by cases e; rfl) (by rw [Heap.size_push]; exact Nat.lt_succ_self _) (.inr (Nat.le_refl _))
          (.drawn 0 _ ps hbt ⟨_, Heap.get?_push_size _ rfl, rfl, _, rfl⟩ hlp) ?_
        have e1 : (ps.filterMap fun p => (es[p]?).map (·.2)) = (ps.filterMap fun p => es[p]?).map (·.2) := by rw [List.map_filterMap]
        have hpm : (ps.filterMap fun p => es[p]?).Perm es.toList := by
          have := hps.filterMap (fun p => es[p]?)
          have e2 := range_get es.toList
          simp only [Array.getElem?_toList, Array.length_toList] at e2
          rw [e2] at this
          exact this
        refine ⟨_, by rw [e1]; exact hstr _ (fun e he => hpm.mem_iff.mp he), ?_⟩
        rw [← hss]; exact hpm.map _
      · have hz : ps.length ≤ sizeLine := by rw [hpsl]; exact fits_of_scanBound hb
        show (ps.map _).toArray.size ≤ sizeLine
        rw [List.size_toArray, List.length_map]; exact hz
    · rw [if_neg (by simp [h2])]
      refine wpAny_bind (wpAny_pure (wpAny_bind (wpAny_setEpoch_of ho hd hf ?_)))
      refine wpAny_bind (wpAny_newObj_type (wpAny_pure ⟨_, rfl, "set_iterator", _, ⟨_, Heap.get?_push_size _ rfl, rfl⟩, SF.slot_next.lookup, ?_⟩))
      by_cases h1 : es.size = 0
      · refine plain0 [] (.none 0 0 hbt h1) ⟨[], .nil, ?_⟩
        rw [← hss, Array.eq_empty_of_size_eq_zero h1]
        exact List.Perm.refl _
      · obtain ⟨e, he⟩ : ∃ e, es = #[e] := by
          obtain ⟨l⟩ := es
          have hl : l.length = 1 := by
            have a1 : ¬ l.length > 1 := h2
            have a2 : ¬ l.length = 0 := h1
            omega
          match l, hl with
          | [e], _ => exact ⟨e, rfl⟩
        refine plain0 [e.2] (.one0 e hbt he) ⟨[txtOf e.2], hstr [e] (fun x hx => by rw [he]; exact hx), ?_⟩
        rw [← hss, he]
        exact List.Perm.refl _

/-- the members of a set of texts, drawn into a list -/
theorem collect_sset {E : Value → Shared → Prop} {s : Shared} {S : Addr} {ss : List Str} {Q : List Value → Shared → Prop} (hh : A.handled = none) (hS : SSet P w s.heap S ss) (hl : ss.length ≤ sizeLine)
    (h : ∀ (h' : Heap) (d' : Drawn) (tk : Nat) (ord : List Value) (ys : List Str), (∀ b o, s.heap.get? b = some o → h'.get? b = some o) → s.heap.objs.size ≤ h'.objs.size → StrsAre ord ys → ys.Perm ss → Q ord { s with heap := h', drawn := d', toks := tk }) :
    wpAny (model P w) A (collect (.ref S)) Q E s := by
  obtain ⟨o, es, ep, t, ho, hex, hd, hrest⟩ := id hS
  have hlt : S < s.heap.objs.size := Heap.lt_size ho
  unfold collect
  refine wpAny_bind (wpAny_runValue (codeAny_builtin entry_proto_collect' ?_))
  rw [Around.under_plainId PySem.F.plain_proto_collect _]
  show wpAny _ A.in1 (newList [] >>= fun l => again (.builtin "list.__iadd__" ⟨[l, .ref S], []⟩)) _ _ s
  refine wpAny_bind (wpAny_newObj_type ?_)
  refine wpAny_pure ⟨plainId_quiet PySem.F.plain_list_iadd _, codeAny_builtin entry_list_iadd' ?_⟩
  rw [Around.under_plainId PySem.F.plain_list_iadd _]
  generalize hH : s.heap.push { cls := .type "list", data := .seq ([] : List Value).toArray } = H
  have hHs : H.objs.size = s.heap.objs.size + 1 := by rw [← hH, Heap.size_push]
  have old : ∀ b ob, s.heap.get? b = some ob → H.get? b = some ob := fun b ob e => by rw [← hH]; exact Heap.get?_push_of_some _ e
  have hS1 : SSet P w H S ss := hS.at fun o e => old S o e
  have hD : H.get? s.heap.objs.size = some { cls := .type "list", data := .seq #[] } := by rw [← hH]; exact Heap.get?_push_size _ rfl
  show wpAny _ A.in1 (Builtin.List.listExtendWith (.ref s.heap.objs.size) (.ref S) (.ref s.heap.objs.size)) _ _ { s with heap := H }
  unfold Builtin.List.listExtendWith
  refine wpAny_bind (wpAny_typeOf (T := "set") (v := .ref S) (show Shared.TypeIs { s with heap := H } (.ref S) "set" from ⟨o, old S o ho, hex.1⟩) ?_)
  have h1 : Builtin.List.listSameRef (.ref s.heap.objs.size) (.ref S) = false := by simp [Builtin.List.listSameRef, Nat.ne_of_gt hlt]
  have h2 : (Value.type "set" == Value.type "list") = false := by decide
  have h3 : (Value.type "set" == Value.type "tuple") = false := by decide
  simp only [h1, h2, h3, Bool.or_false, Bool.false_eq_true, if_false]
  refine wpAny_bind (pyIter_sset (s := { s with heap := H }) hS1 fun h' d' I fp ord St hk hI hIf hfp W st ⟨ys, hys, hp⟩ => ?_)
  have ty' : Shared.TypeIs { s with heap := h', drawn := d' } (.ref S) "set" := ⟨o, hk S o (old S o ho), hex.1⟩
  refine wpAny_bind (wpAny_holding ?_)
  unfold Builtin.List.listLengthHint
  refine wpAny_bind (wpAny_specialOf (T := "set") (v := .ref S) ty' SF.set_len ?_)
  wp_delta
  refine wpAny_bind (wpAny_isInstance (T := "set") (v := .ref S) (b := true) ty' SF.sub_set ?_)
  show wpAny _ A.in1 (typeOf (Value.ref S) >>= _) _ _ _
  refine wpAny_bind (wpAny_typeOf (T := "set") (v := .ref S) ty' ?_)
  refine wpAny_pure ?_
  have hDI : s.heap.objs.size ≠ I := fun z => by
    have : H.objs.size ≤ I := hI
    rw [hHs] at this
    omega
  have hSf : s.heap.objs.size ∉ fp := fun hb => by
    rcases (hfp _ hb).2 with z | z
    · exact absurd z (Nat.ne_of_gt hlt)
    · have : H.objs.size ≤ s.heap.objs.size := z
      rw [hHs] at this
      omega
  have hlen : ord.length = ss.length := by
    have a1 : ord.length = ys.length := hys.length
    rw [a1, hp.length_eq]
  have key : ∀ (h1 : Heap) (c₁ : Nat), St 0 h1 → (∀ b ob, b ≠ s.heap.objs.size → h'.get? b = some ob → h1.get? b = some ob) → h1.get? s.heap.objs.size = some { cls := .type "list", data := .seq #[] c₁ } →
      codeAny (model P w) A (.builtin "list.extend.loop" ⟨[.ref s.heap.objs.size, .ref I, .ref s.heap.objs.size], []⟩)
        (fun r s' => r = .ok (.ret (.ref s.heap.objs.size)) ∧ ∃ acc' c', s'.heap.get? s.heap.objs.size = some { cls := .type "list", data := .seq acc' c' } ∧ Q acc'.toList s') { s with heap := h1, drawn := d' } := by
    intro h1 c₁ st1 hk1 hD1
    refine codeAny_extend_loopS (W A.in1 hh).toS (by rw [hlen]; exact hl) _ hSf _ ord.length 0 _ #[] c₁ rfl (Nat.zero_le _) st1 hD1 (ItemsOf.nil _) fun s' acc' c' hm hS' hacc => ?_
    refine ⟨rfl, acc', c', hS', ?_⟩
    have eacc : acc'.toList = ord := by
      refine List.ext_getElem? fun i => ?_
      rw [Array.getElem?_toList]
      by_cases hi : i < acc'.size
      · have e : acc'[i]? = some acc'[i] := by simp [hi]
        rw [e, hacc.2 i _ e]
      · have hi' : ord.length ≤ i := by have := hacc.1; omega
        rw [List.getElem?_eq_none hi']
        simp; omega
    have heq : s' = { s with heap := s'.heap, drawn := d', toks := s'.toks } := Moved.eq_with hm
    rw [eacc, heq]
    refine h s'.heap d' s'.toks ord ys (fun b ob e => ?_) (Nat.le_of_lt (Heap.lt_size hS')) hys hp
    have hb1 : b ≠ s.heap.objs.size := Nat.ne_of_lt (Heap.lt_size e)
    have hb2 : b ≠ I := fun z => by
      have hz : H.objs.size ≤ b := by rw [z]; exact hI
      rw [hHs] at hz
      exact Nat.lt_irrefl _ (Nat.lt_of_lt_of_le (Nat.lt_succ_of_lt (Heap.lt_size e)) hz)
    exact hm.heap b ob (by simp [hb1, hb2]) (hk1 b ob hb1 (hk b ob (old b ob e)))
  have hD' : h'.get? s.heap.objs.size = some { cls := .type "list", data := .seq #[] } := hk _ _ hD
  have fin : ∀ (h1 : Heap) (c₁ : Nat), St 0 h1 → (∀ b ob, b ≠ s.heap.objs.size → h'.get? b = some ob → h1.get? b = some ob) → h1.get? s.heap.objs.size = some { cls := .type "list", data := .seq #[] c₁ } → ∀ (R : Result → Shared → Prop),
      (∀ s' acc' c', s'.heap.get? s.heap.objs.size = some { cls := .type "list", data := .seq acc' c' } → Q acc'.toList s' → R (.ok (.ret (.ref s.heap.objs.size))) s') →
      codeAny (model P w) A (.builtin "list.extend.loop" ⟨[.ref s.heap.objs.size, .ref I, .ref s.heap.objs.size], []⟩) R { s with heap := h1, drawn := d' } := by
    intro h1 c₁ a1 a2 a3 R hR
    refine codeAny_mono (key h1 c₁ a1 a2 a3) fun r s' ⟨e, acc', c', q1, q2⟩ => ?_
    subst e
    exact hR s' acc' c' q1 q2
  have last : ∀ (R : Result → Shared → Prop), R = R → True := fun _ _ => trivial
  refine wpAny_ite_split (fun _ => ?_) (fun _ => wpAny_pure ⟨plainId_quiet PySem.F.plain_extend_loop _, fin h' 0 st (fun b ob _ e => e) hD' _ fun s' acc' c' q1 q2 => ?_⟩)
  · refine wpAny_bind (wpAny_rule ?_)
    refine wpAny_bind ?_
    show wpAny _ _ (updateSeq s.heap.objs.size (·.push .none) >>= fun _ => updateSeq s.heap.objs.size (·.pop)) _ _ _
    refine wpAny_bind (wpAny_updateSeq hD' rfl ?_)
    have hS₂ := Heap.get?_update_self (Obj.mapSeq (·.push Value.none)) hD' rfl
    refine wpAny_updateSeq (hz := by seq_fits) hS₂ rfl ?_
    have hS₃ := Heap.get?_update_self (Obj.mapSeq (·.pop)) hS₂ rfl
    refine wpAny_pure ⟨plainId_quiet PySem.F.plain_extend_loop _, fin _ _ ?_ (fun b ob hb e => ?_) hS₃ _ fun s' acc' c' q1 q2 => ?_⟩
    · refine (W A.in1 hh).frame 0 _ _ st fun b hb o e => ?_
      have hbS : b ≠ s.heap.objs.size := fun z => hSf (z ▸ hb)
      exact (Heap.get?_update_other _ _ (Ne.symm hbS)).trans ((Heap.get?_update_other _ _ (Ne.symm hbS)).trans e)
    · exact (Heap.get?_update_other _ _ (Ne.symm hb)).trans ((Heap.get?_update_other _ _ (Ne.symm hb)).trans e)
    · show wpAny _ A (load s.heap.objs.size >>= _) _ _ _
      exact wpAny_bind (wpAny_load q1 (wpAny_pure q2))
  · show wpAny _ A (load s.heap.objs.size >>= _) _ _ _
    exact wpAny_bind (wpAny_load q1 (wpAny_pure q2))

/-- sorted(s) of a set of texts: a new list, each member once, rising -/
theorem sorted_sset {E : Value → Shared → Prop} {s : Shared} {S : Addr} {ss : List Str} {Q : Value → Shared → Prop} (hh : A.handled = none) (hS : SSet P w s.heap S ss) (h64 : ss.length < 64)
    (h : ∀ (h' : Heap) (d' : Drawn) (tk : Nat) (l : Addr) (vs : List Value) (zs : List Str) (e : Nat), (∀ b o, s.heap.get? b = some o → h'.get? b = some o) → s.heap.objs.size ≤ l → h'.get? l = some { cls := .type "list", data := .seq vs.toArray e } → StrsAre vs zs → zs.Perm ss → sortedS zs = true →
      Q (.ref l) { s with heap := h', drawn := d', toks := tk }) :
    wpAny (model P w) A (call (.builtin "sorted") [.ref S]) Q E s := by
  refine Calls.call_function_entry kind_sorted plain_sorted entry_sorted (args_sorted1 _) ?_
  unfold Builtin.«sorted»
  refine wpAny_bind (m := checkCount "sorted" 1 1 _) (wpAny_pure ?_)
  refine wpAny_bind (collect_sset (A := A.in1) (show A.in1.handled = none from hh) hS (by rw [sizeLine_eq]; omega) fun h1 d1 tk1 ord ys hk1 hsz1 hys hp1 => ?_)
  have hn : ord.length < 64 := by
    have : ord.length = ys.length := hys.length
    rw [this, hp1.length_eq]; exact h64
  refine wpAny_bind (wpAny_newList ?_ (by rw [sizeLine_eq]; omega))
  have hoL : (h1.push (seqObj "list" ord.toArray 0)).get? h1.objs.size = some (seqObj "list" ord.toArray 0) := Heap.get?_push_size _ rfl
  show wpAny _ _ _ _ _ { s with heap := h1.push (seqObj "list" ord.toArray 0), drawn := d1, toks := tk1 }
  refine wpAny_bind (wpAny_holding (wpAny_call_entry slot_list_sort ⟨_, hoL, rfl⟩ entry_list_sort (list_sort_treeK strKind_oneLt hoL hys.keysOf (fun v₁ v₂ rest e => keyKind_strs (by rw [← e]; exact hys)) hn fun st' a1 a2 => ⟨_, rfl, ?_⟩) (args_list_sort _)))
  obtain ⟨zs, q1, q2, q3⟩ := sorted_out_str hys a1 a2
  refine wpAny_pure ⟨_, rfl, ?_⟩
  obtain ⟨e, he⟩ := sortedHeap_at (out := (arrOf st').map (·.2)) hoL
  refine h _ d1 tk1 h1.objs.size ((arrOf st').map (·.2)).toList zs e (fun b o q => ?_) hsz1 he q1 (q2.trans hp1) q3
  have hb := Heap.lt_size (hk1 b o q)
  rw [sortedHeap_old (Nat.ne_of_lt hb) (by rw [Heap.size_push]; exact Nat.lt_succ_of_lt hb)]
  exact Heap.get?_push_of_some _ (hk1 b o q)
end

section
variable {X : Cx}
/-- a set of texts, as a tracked thing -/
def SetO (P : Program) (w : World) (a : Addr) (ss : List Str) : HO := .ext fun h => SSet P w h a ss
theorem vals_strs : ∀ {xs : List Str} {us : List Value}, Vals (xs.map V.str) us → StrsAre us xs
  | [], _, h => by cases h; exact .nil
  | x :: r, _, h => by
    cases h with
    | cons h1 h2 => obtain ⟨t, rfl⟩ := h1; exact .cons x t (vals_strs h2)
theorem strs_vals : ∀ {us : List Value} {xs : List Str}, StrsAre us xs → Vals (xs.map V.str) us
  | _, _, .nil => .nil
  | _, _, .cons x t r => .cons ⟨t, rfl⟩ (strs_vals r)
/-- set(xs) of a list of texts -/
theorem call_set (hc : X.calm = true) : CallR X (.type "set") (fun vs H Q => ∃ (a : Addr) (xs : List Str), vs = [.ref a] ∧ SqL X.K H a (xs.map V.str) ∧ xs.length + 1 < scanBound ∧
    ∀ p ss, H p = none → Dd xs ss → Q (.ref p) (upd H p (SetO X.prog X.w p ss))) := by
  intro pins s σ H vs us Q I r h
  obtain ⟨a, xs, rfl, hq, hz, q⟩ := h
  obtain ⟨u, rfl, ru⟩ := r.one
  cases ru
  obtain ⟨its, rv, p, _⟩ := I.list hq
  have hs := vals_strs rv
  have hl : its.length = xs.length := hs.length
  refine call_set_strs (I.ok.hd hc) p.isList (by simpa using hs) (by rw [List.size_toArray, hl]; exact hz) fun h' tk ss hS hd hk => ?_
  have fr : H s.heap.objs.size = none := I.hok.fresh (Nat.le_refl _)
  refine ⟨.ref s.heap.objs.size, upd H s.heap.objs.size (SetO X.prog X.w s.heap.objs.size ss), I.laid (t' := tk) (fun b o e => hk b o (Heap.lt_size e) e) (Nat.le_refl _) ⟨hS, ?_, fun h1 h2 h3 k => ?_⟩, rfl, q _ ss fr hd⟩
  · obtain ⟨o, _, _, _, ho, _⟩ := hS; exact ⟨o, ho⟩
  · exact SSet.at h3 k
/-- sorted(s) of a set of texts -/
theorem call_sorted_set (hc : X.calm = true) : CallR X (.builtin "sorted") (fun vs H Q => ∃ (a : Addr) (ss : List Str), vs = [.ref a] ∧ H a = some (SetO X.prog X.w a ss) ∧ ss.length < 64 ∧
    ∀ p zs, H p = none → zs.Perm ss → sortedS zs = true → Q (.ref p) (upd H p (.lst (zs.map V.str)))) := by
  intro pins s σ H vs us Q I r h
  obtain ⟨a, ss, rfl, hq, hz, q⟩ := h
  obtain ⟨u, rfl, ru⟩ := r.one
  cases ru
  have hS : SSet X.prog X.w s.heap a ss := (I.hok a _ hq).1
  refine sorted_sset (I.ok.hd hc) hS hz fun h' d' tk l ws zs e hk hl hget hs hp hso => ?_
  have fr : H l = none := I.hok.fresh hl
  have hzl : zs.length < 64 := by rw [hp.length_eq]; exact hz
  have ok' : HOk X.prog X.w (upd H l (.lst (zs.map V.str))) h' := I.hok.laid (a := l) (o := .lst (zs.map V.str)) hk hl ⟨by rw [List.length_map]; exact Nat.le_of_lt (small1000 (by omega)), ws, e, strs_vals hs, hget⟩
  have un : Un (frs X.stack) [] H (upd H l (.lst (zs.map V.str))) s.heap h' := Un.laid hk hl fr
  exact ⟨.ref l, _, I.call (g' := s.gens) (d' := d') (t' := tk) (ch := []) un ok' I.bare (fun b z => absurd z (by simp)), rfl, q l zs fr hp hso⟩
end
end L2

set_option Elab.async false
set_option linter.all false
set_option maxRecDepth 100000
set_option maxHeartbeats 4000000
/-! EXCEPTIONS over the hand layer: raise of an own class, through calls, try .. except C as n -/
namespace L2
open PySem PySem.Spec PyProof.Rows

/-- an exception in flight behind a call: the frames of outer are still to be left. B: all that stays as it is while it flies -/
def CXE (P : Program) (w : World) (base : Heap) : CXT := fun outer H s E e s' =>
  ∃ (a : Addr) (cls a0 : Value) (H' : Hp) (B : Heap), e = .ref a ∧ s'.os = s.os ∧ AllBare s'.gens ∧ Un (frs outer) [] H H' s.heap s'.heap ∧ HOk P w H' s'.heap ∧ H' a = none ∧ s.heap.get? a = none ∧
    Heap.FlyingW B outer a cls a0 s'.heap ∧ (∀ b o, s.heap.get? b = some o → H b = none → b ∉ frs outer → B.get? b = some o) ∧ (∀ b u, H' b = some u → ∀ o, s'.heap.get? b = some o → B.get? b = some o) ∧
    (∀ b o, s.heap.get? b = some o → b ∉ frs outer → ∃ o', B.get? b = some o') ∧ E cls none H'

theorem ObjOk.there {P : Program} {w : World} {H : Hp} {h : Heap} {a : Addr} {o : HO} (x : ObjOk P w H h a o) : ∃ ob, h.get? a = some ob := by
  cases o with
  | lst xs => obtain ⟨_, _, _, _, e⟩ := x; exact ⟨_, e⟩
  | tup xs => obtain ⟨_, _, _, o, e, _⟩ := x; exact ⟨_, e⟩
  | dK kvs => obtain ⟨_, _, _, _, o, _, _, e, _⟩ := x; exact ⟨_, e⟩
  | dT kvs => obtain ⟨_, _, _, _, o, _, _, e, _⟩ := x; exact ⟨_, e⟩
  | set S n => obtain ⟨o, _, _, _, e, _⟩ := x; exact ⟨_, e⟩
  | ins C dx fs => obtain ⟨_, _, _, e, _⟩ := x; exact ⟨_, e⟩
  | own y => obtain ⟨_, e⟩ := x; exact ⟨_, e⟩
  | xd fs => obtain ⟨_, ⟨_, _, _, e, _⟩, _⟩ := x; exact ⟨_, e⟩
  | rng lo hi => obtain ⟨_, _, _, e⟩ := x; exact ⟨_, e⟩
  | frz ob u => obtain ⟨e, _⟩ := x; exact ⟨_, e⟩
  | tbl ps => exact ⟨_, (show h.get? a = some _ from x)⟩
  | met f y => exact ⟨_, (show h.get? a = some _ from x)⟩
  | ext φ => obtain ⟨_, e, _⟩ := x; exact e
section
variable {P : Program} {w : World} {K : PySem.W.Frag} {mg : Str → Option Value} {base : Heap} {N : List Str} {qual : Str} {scope : Scope} {f : Addr} {cd : Value} {A : Around} {outer : List Env} {s₀ : Shared} {H₀ : Hp} {E : XK}
/-- tracked objects that stay keep their description -/
theorem HOk.stays {H : Hp} {h h' B : Heap} (ok : HOk P w H h) (hB : ∀ b u, H b = some u → ∀ o, h.get? b = some o → B.get? b = some o) (st : B.StaysIn h') : HOk P w H h' := fun a o e =>
  (ok a o e).stay (fun b u hb q => by
    rcases hb with rfl | hb
    · exact st b u (hB b o e u q)
    · exact st b u (hB b _ hb u q)) (fun _ q => q) fun _ _ q => q
/-- an exception of a callee passes through a def's body and leaves its frame -/
theorem pass_cx (hk : scope.kind = .function) : Passes (CXE P w base) (cxOf (CXE P w base) P w K mg base N qual scope f cd A outer s₀ H₀ E) E := by
  intro pins σ H s e s' I c
  obtain ⟨a, cls, a0, H', B, rfl, hos, hbare, un, hok, hna, hsz, fl, old, trk, thr, hE⟩ := c
  have hlt : s₀.heap.objs.size ≤ s.heap.objs.size := I.sz
  show wpAny (model P w) (A.deeper (envOfC qual scope s₀.heap.objs.size f cd)) (leaving (envOfC qual scope s₀.heap.objs.size f cd) (.ref a)) _ _ s'
  refine wpAny_leaves_onW (L := s₀.heap.objs.size) (I.ok.frames) rfl fl fun h' fl' sm => ?_
  have st : B.StaysIn h' := fl'.1
  have newA : s₀.heap.get? a = none := by
    cases q : s₀.heap.get? a with
    | none => rfl
    | some o =>
      obtain ⟨o', e'⟩ := I.base.there a o q (fun z => absurd (show a ∈ ([] : List Addr) from z) (by simp))
      rw [hsz] at e'; cases e'
  have nofr : ∀ b o, s₀.heap.get? b = some o → b ∉ frs outer → b ∉ frs (cxOf (CXE P w base) P w K mg base N qual scope f cd A outer s₀ H₀ E).stack := fun b o e hb z => by
    rcases List.mem_cons.mp (I.stkSub b z) with q | q
    · have : b = s₀.heap.objs.size := q
      exact absurd (Heap.lt_size e) (by rw [this]; exact Nat.lt_irrefl _)
    · exact hb q
  have nex : ∀ b, b ∉ (cxOf (CXE P w base) P w K mg base N qual scope f cd A outer s₀ H₀ E).ex := fun b z => absurd (show b ∈ ([] : List Addr) from z) (by simp)
  have inB : ∀ b o, s₀.heap.get? b = some o → H₀ b = none → b ∉ frs outer → B.get? b = some o := fun b o e n hb => old b o (I.base.keep b o e n hb (nex b)) (I.base.free b o e n (nex b)) (nofr b o e hb)
  have slots : ∀ b o, s₀.heap.get? b = some o → H₀ b = none → b ∈ frs outer → ∃ sl, h'.get? b = some { o with slots := sl } := fun b o e n hb => by
    obtain ⟨sl, e1⟩ := I.base.slot b o e n hb (nex b)
    have hin : b ∈ frs (cxOf (CXE P w base) P w K mg base N qual scope f cd A outer s₀ H₀ E).stack := by
      show b ∈ List.filterMap (·.frame) (envOfC qual scope s₀.heap.objs.size f cd :: outer)
      exact List.mem_filterMap.mpr (by
        obtain ⟨x, hx, hf⟩ := List.mem_filterMap.mp hb
        exact ⟨x, List.mem_cons_of_mem _ hx, hf⟩)
    obtain ⟨sl2, e2⟩ := un.slot b _ e1 (I.base.free b o e n (nex b)) hin (by simp)
    have hnf : ∀ vs, o.data ≠ .fields vs := by
      obtain ⟨_, o', ho', hd'⟩ := I.ok.funs.mem hb
      have ho'' : s₀.heap.get? b = some o' := ho'
      rw [e] at ho''; cases ho''
      exact hd'
    obtain ⟨sl3, e3⟩ := sm b _ e2 (by intro vs z; exact hnf vs z)
    exact ⟨sl3, e3⟩
  refine ⟨a, cls, a0, H', B, rfl, hos.trans I.os, hbare, ⟨fun b o e n hb _ => st b o (inB b o e n hb), fun b o e n hb _ => ?_, fun b o e n _ => un.free b _ (Classical.choose_spec (I.base.there b o e (nex b))) (I.base.free b o e n (nex b)) (by simp), fun b o e _ => ?_, fun b xs e => un.tups b xs (I.base.tups b xs e), fun b o xs e => un.frzs b o xs (I.base.frzs b o xs e), fun b ps e => ?_⟩,
    HOk.stays hok trk st, hna, newA, fl', inB, fun b u e o ho => ?_, fun b o e hb => ?_, hE⟩
  · exact slots b o e n hb
  · obtain ⟨o1, e1⟩ := I.base.there b o e (nex b)
    by_cases hb : b ∈ frs outer
    · obtain ⟨sl, e2⟩ := slots b o e (I.ok.frf b hb) hb
      exact ⟨_, e2⟩
    · obtain ⟨o2, e2⟩ := thr b o1 e1 (nofr b o e hb)
      exact ⟨o2, st b o2 e2⟩
  · obtain ⟨m1, e1⟩ := I.base.tbls b ps e
    obtain ⟨m2, e2⟩ := un.tbls b _ e1
    exact ⟨m1 ++ m2, by rw [e2, Array.append_assoc]⟩
  · have h1 := (hok b u e).lt
    obtain ⟨o1, ho1⟩ := (hok b u e).there
    have h3 := trk b u e o1 ho1
    have h4 := st b o1 h3
    have ho' : h'.get? b = some o := ho
    rw [h4] at ho'; cases ho'
    exact h3
  · obtain ⟨o1, e1⟩ := I.base.there b o e (nex b)
    exact thr b o1 e1 (nofr b o e hb)
end

/-- what a raise of an own class wants -/
def Raises (X : Cx) (E : XK) : Prop := ∀ (pins : List (Addr × Obj)) (σ : St) (H : Hp) (s : Shared) (h' : Heap) (e : Addr) (cls : Value) (vs : List Value), Inv X pins σ H s → Heap.MadeExcOf s.heap h' e cls vs → E cls none H → X.xe (.ref e) { s with heap := h' }
section
variable {P : Program} {w : World} {K : PySem.W.Frag} {mg : Str → Option Value} {base : Heap} {N : List Str} {qual : Str} {scope : Scope} {f : Addr} {cd : Value} {A : Around} {outer : List Env} {s₀ : Shared} {H₀ : Hp} {E : XK}
theorem hide_get {h : Heap} {as : List Addr} {b : Addr} {o : Obj} (e : (PySem.W.hideAll h as).get? b = some o) : h.get? b = some o ∧ b ∉ as := by
  refine ⟨PySem.W.of_hideAll _ e, fun hm => ?_⟩
  rw [PySem.W.hideAll_none as hm] at e
  cases e
theorem raises_cx : Raises (cxOf (CXE P w base) P w K mg base N qual scope f cd A outer s₀ H₀ E) E := by
  intro pins σ H s h' e cls vs I mk hE
  have hnew : s.heap.get? e = none := mk.new
  have stack : (cxOf (CXE P w base) P w K mg base N qual scope f cd A outer s₀ H₀ E).stack = envOfC qual scope s₀.heap.objs.size f cd :: outer := rfl
  have hin : ∀ env ∈ (envOfC qual scope s₀.heap.objs.size f cd :: outer), ∀ b, env.frame = some b → b ∈ frs (envOfC qual scope s₀.heap.objs.size f cd :: outer) := fun env he b hb => List.mem_filterMap.mpr ⟨env, he, hb⟩
  have hfn : ∀ b ∈ frs (envOfC qual scope s₀.heap.objs.size f cd :: outer), H b = none := fun b hb => I.stkFree b hb
  have nex : ∀ b, b ∉ (cxOf (CXE P w base) P w K mg base N qual scope f cd A outer s₀ H₀ E).ex := fun b z => absurd (show b ∈ ([] : List Addr) from z) (by simp)
  have newE : s₀.heap.get? e = none := by
    cases q : s₀.heap.get? e with
    | none => rfl
    | some o =>
      obtain ⟨o', e'⟩ := I.base.there e o q (nex e)
      rw [hnew] at e'; cases e'
  have hHe : H e = none := by
    cases q : H e with
    | none => rfl
    | some u =>
      obtain ⟨o', e'⟩ := (I.hok e u q).there
      rw [hnew] at e'; cases e'
  show wpAny (model P w) (A.deeper (envOfC qual scope s₀.heap.objs.size f cd)) (leaving (envOfC qual scope s₀.heap.objs.size f cd) (.ref e)) _ _ { s with heap := h' }
  refine wpAny_leaves_madeW (s := { s with heap := h' }) (base := PySem.W.hideAll s.heap (frs (envOfC qual scope s₀.heap.objs.size f cd :: outer))) (h := s.heap) (L := s₀.heap.objs.size) I.ok.frames rfl (fun b o q => (hide_get q).1)
    (PySem.W.funFrames_hide I.stack hin) mk fun h2 t fl tup tn sm => ?_
  have st : (PySem.W.hideAll s.heap (frs (envOfC qual scope s₀.heap.objs.size f cd :: outer))).StaysIn h2 := fl.1
  have nofr : ∀ b o, s₀.heap.get? b = some o → b ∉ frs outer → b ∉ frs (envOfC qual scope s₀.heap.objs.size f cd :: outer) := fun b o q hb z => by
    rcases List.mem_cons.mp (I.stkSub b z) with p | p
    · have : b = s₀.heap.objs.size := p
      exact absurd (Heap.lt_size q) (by rw [this]; exact Nat.lt_irrefl _)
    · exact hb p
  have trk : ∀ b u, H b = some u → ∀ o, s.heap.get? b = some o → (PySem.W.hideAll s.heap (frs (envOfC qual scope s₀.heap.objs.size f cd :: outer))).get? b = some o := fun b u q o ho => PySem.W.hideAll_get _ ho fun z => by
    rw [hfn b z] at q; cases q
  have inB : ∀ b o, s₀.heap.get? b = some o → H₀ b = none → b ∉ frs outer → (PySem.W.hideAll s.heap (frs (envOfC qual scope s₀.heap.objs.size f cd :: outer))).get? b = some o := fun b o q n hb =>
    PySem.W.hideAll_get _ (I.base.keep b o q n hb (nex b)) (nofr b o q hb)
  have slots : ∀ b o, s₀.heap.get? b = some o → H₀ b = none → b ∈ frs outer → ∃ sl, h2.get? b = some { o with slots := sl } := fun b o q n hb => by
    obtain ⟨sl, e1⟩ := I.base.slot b o q n hb (nex b)
    have hnf : ∀ vs, o.data ≠ .fields vs := by
      obtain ⟨_, o', ho', hd'⟩ := I.ok.funs.mem hb
      have ho'' : s₀.heap.get? b = some o' := ho'
      rw [q] at ho''; cases ho''
      exact hd'
    obtain ⟨sl3, e3⟩ := sm b _ (mk.keeps b _ e1) (by intro vs z; exact hnf vs z)
    exact ⟨sl3, e3⟩
  have thr : ∀ b o, s₀.heap.get? b = some o → b ∉ frs outer → ∃ o', (PySem.W.hideAll s.heap (frs (envOfC qual scope s₀.heap.objs.size f cd :: outer))).get? b = some o' := fun b o q hb => by
    obtain ⟨o1, e1⟩ := I.base.there b o q (nex b)
    exact ⟨o1, PySem.W.hideAll_get _ e1 (nofr b o q hb)⟩
  refine ⟨e, cls, .ref t, H, _, rfl, I.os, I.bare, ⟨fun b o q n hb _ => st b o (inB b o q n hb), fun b o q n hb _ => slots b o q n hb, fun b o q n _ => I.base.free b o q n (nex b), fun b o q _ => ?_, I.base.tups, I.base.frzs, I.base.tbls⟩,
    HOk.stays I.hok trk st, hHe, newE, fl, inB, fun b u q o ho => ?_, thr, hE⟩
  · by_cases hb : b ∈ frs outer
    · obtain ⟨sl, e2⟩ := slots b o q (I.ok.frf b hb) hb
      exact ⟨_, e2⟩
    · obtain ⟨o2, e2⟩ := thr b o q hb
      exact ⟨o2, st b o2 e2⟩
  · obtain ⟨o1, ho1⟩ := (I.hok b u q).there
    have h3 := trk b u q o1 ho1
    have h4 := st b o1 h3
    have ho' : h2.get? b = some o := ho
    rw [h4] at ho'; cases ho'
    exact h3
end

/-- an own exception class, as the written part has it -/
theorem own_obj {K : PySem.W.Frag} {h : Heap} {C : Addr} {bmB : List Value} {newId : String} (X : K.In h) (q : PySem.W.excIn K C bmB newId = true) :
    ∃ bm N nm q bs hdct sn sub ab col dd k0 k1 k2 k3 k5 mN, h.get? C = some (excClassObj nm q C N bs bm hdct sn sub ab col dd k0 k1 k2 k3 k5 newId) ∧ h.Ns N mN ∧ mN "__init__" = none ∧ OwnTail h bmB bm := by
  unfold PySem.W.excIn at q
  split at q
  · rename_i dd cd sl ho
    split at q
    · rename_i C' bm k0 k1 k2 k3 n k5 hm hs
      simp only [Bool.and_eq_true, beq_iff_eq, Bool.not_eq_true'] at q
      obtain ⟨⟨⟨⟨⟨rfl, rfl⟩, hdel⟩, ht⟩, hok⟩, hni⟩ := q
      obtain ⟨nm, bs, mro, ns, qn, hd, sn, sub, ab, col, del⟩ := cd
      dsimp only at hm hdel hok hni
      subst hm hdel
      have hsl : sl = #[k0, k1, k2, k3, some (.builtin n), k5] := by
        obtain ⟨l⟩ := sl
        simp only at hs
        rw [hs]
      subst hsl
      exact ⟨bm, ns, nm, qn, bs, hd, sn, sub, ab, col, dd, k0, k1, k2, k3, k5, _, X _ _ ho, .of_isNs (PySem.W.isNs_of_in X hok), PySem.W.nsMap_none_of_in X hok hni, PySem.W.tail_of_in X ht⟩
    · cases q
  · cases q

def tRaise (C : Addr) (E : XK) (t : TA) : TS := fun _ σ H => t σ H fun vs H1 => vs.length ≤ sizeLine ∧ E (.ref C) none H1
section
variable {X : Cx} {E : XK} {x : Str} {C : Addr} {B newId initId : String} {bmB : List Value} {np cpos pos : Pos} {e : Expr} {es : List Expr} {t : TA}
/-- raise C(e, ..) of an own class without __init__ -/
theorem ps_raise (hR : Raises X E) (hc : X.calm = true) (FB : ExcBaseFacts B newId initId bmB) (hg : Gl X x) (hm : X.mg x = some (.ref C)) (hC : PySem.W.excIn X.K C bmB newId = true) (ha : PA X (e :: es) t)
    (hdb : (x == ("__debug__" : Str)) = false := by decide) (he : starEach (e :: es) X.env = (false, eval e X.env) :: starEach es X.env := by rfl) (hpl : (backTo cpos (starEach es X.env)).any (·.1) = false := by rfl) :
    PS X (.Raise (some (.Call (.Name x np) (e :: es) [] cpos)) none pos) (tRaise C E t) := by
  intro pins s σ H D I h
  obtain ⟨tl, N, nm, q, bs, hdct, sn, sub, ab, col, dd, k0, k1, k2, k3, k5, mN, hCo, hN, hni, T⟩ := own_obj I.ok.mod.kin hC
  refine wpAny_Raise_call_subT (C := C) (nm := nm) (q := q) (N := N) (bs := bs) (bm := tl) (hdct := hdct) (sn := sn) (sub := sub) (ab := ab) (col := col) (dd := dd) (k0 := k0) (k1 := k1) (k2 := k2) (k3 := k3) (k5 := k5)
    FB (mN := mN) (T.hasType FB.hasBase) (I.ok.hd hc) (by rw [he]; show (false || (backTo cpos (starEach es X.env)).any (·.1)) = false; rw [hpl]; rfl) hni (ld_glob I hg hm ⟨rfl, ?_⟩ hdb)
  have key := ha cpos pins s σ H _ I h
  rw [he] at key ⊢
  refine Calls.evalArgs_plain (wpAny_mono key (fun us s2 h2 => ?_) fun _ _ y => y)
  obtain ⟨vs, H1, I1, r, hz, hE⟩ := h2
  exact ⟨rfl, by rw [← r.length]; exact hz, I1.bk _ _ hCo, hN.keeps I1.bk, T.keeps I1.bk, fun h' ea mk => hR pins σ H1 s2 h' ea _ _ I1 mk hE⟩
end
end L2

set_option Elab.async false
set_option linter.all false
set_option maxRecDepth 100000
set_option maxHeartbeats 4000000
/-! try .. except C as n -/
namespace L2
open PySem PySem.Spec PyProof.Rows

/-- a caught exception: its class -/
def ExcO (a : Addr) (cls : Value) : HO := .ext fun h => ∃ oe vs, h.get? a = some oe ∧ oe.cls = cls ∧ oe.data = .fields vs
def tryW (X : Cx) (pins₀ : List (Addr × Obj)) (E : XK) : Value → Shared → Prop := fun e s' =>
  ∃ pins σ H s, Inv { X with pn := X.pn ++ pins₀ } pins σ H s ∧ CXE X.prog X.w X.base X.stack H s E e s'
def tryX (X : Cx) (pins₀ : List (Addr × Obj)) (E : XK) : Cx := { X with pn := X.pn ++ pins₀, xe := tryW X pins₀ E }
def sutX (X : Cx) (pins₀ : List (Addr × Obj)) (a : Addr) : Cx := { X with A := X.A.mark (some (.ref a)), calm := false, pn := X.pn ++ pins₀, xe := fun _ _ => False }

section
variable {X : Cx} {pins₀ : List (Addr × Obj)} {E : XK}
/-- a thing that came since the entry and was not tracked is tracked -/
theorem Inv.track {Y : Cx} {pins : List (Addr × Obj)} {σ : St} {H : Hp} {s : Shared} {a : Addr} {o : HO} (I : Inv Y pins σ H s) (hn : H a = none) (h0 : Y.s₀.heap.get? a = none) (hL : a ≠ Y.env.locals) (hc : ∀ x c, Y.env.cells.lookup x = some c → c ≠ a)
    (hp : ∀ p ∈ Y.pn ++ pins, p.1 ≠ a) (ho : ObjOk Y.prog Y.w (upd H a o) s.heap a o) : Inv Y pins σ (upd H a o) s := by
  have keep : ∀ b u, H b = some u → upd H a o b = some u := fun b u e => by rw [upd_ne (ne_of_none e hn)]; exact e
  refine ⟨I.ok, I.os, I.bare, ⟨I.base.keep, I.base.slot, fun b ob e n hx => ?_, I.base.there, fun b xs e => keep b _ (I.base.tups b xs e), fun b ob xs e => keep b _ (I.base.frzs b ob xs e), fun b ps e => ?_⟩, I.loc, I.cell, ?_, fun x c e => ?_, fun p q => ?_, fun b u e => ?_, I.len⟩
  · have : b ≠ a := fun z => by rw [z, h0] at e; cases e
    rw [upd_ne this]; exact I.base.free b ob e n hx
  · obtain ⟨m, e'⟩ := I.base.tbls b ps e
    exact ⟨m, keep b _ e'⟩
  · rw [upd_ne (Ne.symm hL)]; exact I.free
  · rw [upd_ne (hc x c e)]; exact I.freeC x c e
  · obtain ⟨p1, p2, p3⟩ := I.pin p q
    exact ⟨p1, by rw [upd_ne (hp p q)]; exact p2, p3⟩
  · by_cases hb : b = a
    · subst hb; rw [upd_same] at e; cases e; exact ho
    · rw [upd_ne hb] at e
      exact (I.hok b u e).stay (fun _ _ _ q => q) (fun c q => keep c _ q) fun c xs q => keep c _ q
end

/-- the handler's names: all forgotten but the exception's -/
def onlyAt (n i : Nat) (v : V) : St := (List.replicate n none).set i (some v)
def tTry (X : Cx) (C : Addr) (i : Nat) (E : XK) (tb ts : TS) : TS := fun D σ H => tb D σ H ∧ ∀ a cls H', E cls none H' → H' a = none → PySem.W.exmOne X.K cls (.ref C) = some true ∧
  ts { nx := fun σ' H'' => D.nx (σ'.set i none) H'', rt := D.rt, bk := fun σ' H'' => D.bk (σ'.set i none) H'', ct := fun σ' H'' => D.ct (σ'.set i none) H'' } (onlyAt X.N.length i (.ref a)) (upd H' a (ExcO a cls))

section
variable {X : Cx} {E : XK} {c n : Str} {C : Addr} {i : Nat} {body suite : List Stmt} {b₀ : Stmt} {tb ts : TS} {np hpos pos : Pos}
end
end L2

set_option Elab.async false
set_option linter.all false
set_option maxRecDepth 100000
set_option maxHeartbeats 4000000
/-! isinstance of a caught exception; == and != of data at any depth -/
namespace L2
open PySem PySem.Spec PyProof.Rows PySem.Builtin PySem.Builtin.ObjectAttr PySem.Builtin.Getset_descriptor
section
variable {prog : Program} {w : World} {A : Around} {E : Value → Shared → Prop} {h : Heap} {g : Array GenState} {d : Drawn} {t : Nat} {os : OsState} {K : PySem.W.Frag} {a C : Addr} {o : Obj}
/-- what an own exception class must have -/
structure ExcK (K : PySem.W.Frag) (C : Addr) : Prop where
  ga : PySem.W.findIn K (.ref C) "__getattribute__" = some (some (.builtin "BaseException.__getattribute__"))
  cl : PySem.W.findIn K (.ref C) "__class__" = some (some (.builtin "object.__class__"))
  no : PySem.W.findIn K (.ref C) "__getattr__" = some none
  ob : PySem.W.mroIn K C (.type "object") = some true
  be : PySem.W.mroIn K C (.type "BaseException") = some true
  it : (PySem.W.clsIn K C).isSome = true
end
def ExcAt (a : Addr) (cls : Value) (h : Heap) : Prop := ∃ oe vs, h.get? a = some oe ∧ oe.cls = cls ∧ oe.data = .fields vs
section
variable {X : Cx}
end
end L2

set_option Elab.async false
set_option linter.all false
set_option maxRecDepth 100000
set_option maxHeartbeats 4000000
/-! == and != of data at any depth -/
namespace L2
open PySem PySem.Spec PyProof.Rows
mutual
inductive Dp (K : PySem.W.Frag) (H : Hp) : V → PyData → Prop
  | non : Dp K H .non .none
  | bl (b : Bool) : Dp K H (.bl b) (.bool b)
  | int (i : Int) : Dp K H (.int i) (.int i)
  | str (x : Str) : Dp K H (.str x) (.str x)
  | lst {a : Addr} {xs : List V} {ds : List PyData} : SqL K H a xs → DpAll K H xs ds → Dp K H (.ref a) (.list ds)
  | tup {a : Addr} {xs : List V} {ds : List PyData} : SqT K H a xs → DpAll K H xs ds → Dp K H (.ref a) (.tuple ds)
inductive DpAll (K : PySem.W.Frag) (H : Hp) : List V → List PyData → Prop
  | nil : DpAll K H [] []
  | cons {v : V} {vs : List V} {d : PyData} {ds : List PyData} : Dp K H v d → DpAll K H vs ds → DpAll K H (v :: vs) (d :: ds)
end
section
variable {X : Cx} {pins : List (Addr × Obj)} {σ : St} {H : Hp} {s : Shared}
mutual
theorem Dp.reads (I : Inv X pins σ H s) : ∀ {v : V} {d : PyData}, Dp X.K H v d → ∀ {u : Value}, RelV v u → ∃ as, Reads s.heap u d as
  | _, _, .non, _, r => by cases r; exact ⟨_, .none⟩
  | _, _, .bl b, _, r => by cases r; exact ⟨_, .bool b⟩
  | _, _, .int i, _, r => by obtain ⟨t, rfl⟩ := r; exact ⟨_, .int i t⟩
  | _, _, .str x, _, r => by obtain ⟨t, rfl⟩ := r; exact ⟨_, .str x t⟩
  | _, _, .lst hs ha, _, r => by
    cases r
    obtain ⟨its, rv, ⟨o, n, e, hc, _, hd⟩, _⟩ := I.list hs
    obtain ⟨as, ra⟩ := DpAll.reads I ha rv
    exact ⟨_, .list e hc hd (by simpa using ra)⟩
  | _, _, .tup hs ha, _, r => by
    cases r
    obtain ⟨its, rv, ⟨o, e, hc, n, hd⟩, _⟩ := I.tuple hs
    obtain ⟨as, ra⟩ := DpAll.reads I ha rv
    exact ⟨_, .tuple e hc hd (by simpa using ra)⟩
theorem DpAll.reads (I : Inv X pins σ H s) : ∀ {vs : List V} {ds : List PyData}, DpAll X.K H vs ds → ∀ {us : List Value}, Vals vs us → ∃ as, ReadsAll s.heap us ds as
  | _, _, .nil, _, r => by cases r; exact ⟨_, .nil⟩
  | _, _, .cons h1 h2, _, r => by
    cases r with
    | cons r1 r2 =>
      obtain ⟨as, q1⟩ := Dp.reads I h1 r1
      obtain ⟨bs, q2⟩ := DpAll.reads I h2 r2
      exact ⟨_, .cons q1 q2⟩
end
end
/-- data that == tells apart as data does -/
def EqOk (d : PyData) : Prop := d.canLay0 = true ∧ d.depth ≤ 16
section
variable {X : Cx}
def rEqD (K : PySem.W.Frag) : R2 := fun x y H Q => ∃ dx dy, Dp K H x dx ∧ Dp K H y dy ∧ EqOk dx ∧ EqOk dy ∧ Q (.bl (PyData.eqv dx dy)) H
def rNeD (K : PySem.W.Frag) : R2 := fun x y H Q => ∃ dx dy, Dp K H x dx ∧ Dp K H y dy ∧ EqOk dx ∧ EqOk dy ∧ Q (.bl (!PyData.eqv dx dy)) H
theorem op_neD (hu : X.A.units + 32 < cLine) : OpR X (compareOp .NotEq) (rNeD X.K) := by
  intro pins s σ H x y v u Q I rx ry h
  obtain ⟨dx, dy, h1, h2, o1, o2, q⟩ := h
  obtain ⟨as, ra⟩ := Dp.reads I h1 rx
  obtain ⟨bs, rb⟩ := Dp.reads I h2 ry
  exact SeqAt.compareNe_reads ra rb o1.1 o2.1 (by have := o1.2; have := Nat.min_le_left dx.depth dy.depth; omega) ⟨.bl _, H, I, rfl, q⟩
end
/-! ### rows of texts, tellings -/
def dStrs (r : List Str) : List PyData := r.map .str
def dRow (r : List Str) : PyData := .tuple (dStrs r)
def RowAt (K : PySem.W.Frag) (H : Hp) (a : Addr) (r : List Str) : Prop := SqT K H a (r.map V.str)
def RowsAt (K : PySem.W.Frag) (H : Hp) (a : Addr) (rs : List (List Str)) : Prop := ∃ as : List Addr, H a = some (.lst (as.map V.ref)) ∧ Paired (fun b r => RowAt K H b r) as rs
def TellAt (K : PySem.W.Frag) (H : Hp) (a : Addr) (rss : List (List (List Str))) : Prop := ∃ as : List Addr, SqT K H a (as.map V.ref) ∧ Paired (fun b rs => RowsAt K H b rs) as rss
theorem Same.seqT {K : PySem.W.Frag} {H H' : Hp} {a : Addr} {xs : List V} (e : Same H H') (h : SqT K H a xs) : SqT K H' a xs := by
  rcases h with (h | ⟨o, h⟩) | h
  · exact .inl (.inl (e _ _ h))
  · exact .inl (.inr ⟨o, e _ _ h⟩)
  · exact .inr h
theorem RowAt.same {K : PySem.W.Frag} {H H' : Hp} {a : Addr} {r : List Str} (h : RowAt K H a r) (e : Same H H') : RowAt K H' a r := e.seqT h
theorem RowsAt.same {K : PySem.W.Frag} {H H' : Hp} {a : Addr} {rs : List (List Str)} (h : RowsAt K H a rs) (e : Same H H') : RowsAt K H' a rs := by
  obtain ⟨as, h1, h2⟩ := h
  exact ⟨as, e _ _ h1, Paired.mapP h2 fun b r z => z.same e⟩
theorem TellAt.same {K : PySem.W.Frag} {H H' : Hp} {a : Addr} {rss : List (List (List Str))} (h : TellAt K H a rss) (e : Same H H') : TellAt K H' a rss := by
  obtain ⟨as, h1, h2⟩ := h
  exact ⟨as, e.seqT h1, Paired.mapP h2 fun b r z => z.same e⟩
theorem dp_strs {K : PySem.W.Frag} {H : Hp} : ∀ r : List Str, DpAll K H (r.map V.str) (dStrs r)
  | [] => .nil
  | x :: r => .cons (.str x) (dp_strs r)
theorem RowAt.dp {K : PySem.W.Frag} {H : Hp} {a : Addr} {r : List Str} (h : RowAt K H a r) : Dp K H (.ref a) (dRow r) := .tup h (dp_strs r)
theorem same_new {H : Hp} {p : Addr} (h : H p = none) (o : HO) : Same H (upd H p o) := fun b u q => by rw [upd_ne (ne_of_none q h)]; exact q
end L2

set_option Elab.async false
set_option linter.all false
set_option maxRecDepth 100000
set_option maxHeartbeats 4000000
namespace L2
open PySem PySem.Spec PyProof.Rows
/-- a dict of the module's own, its keys texts -/
def KDict (K : PySem.W.Frag) (w : World) (a : Addr) (kvs : List (Str × V)) : Prop :=
  ∃ es n, K.lookup a = some ⟨.type "dict", none, .dict es n, #[]⟩ ∧ PySem.W.KeysLit w.params es.toList ∧ (a == sysModules) = false ∧ ∀ x, RelO (kvs.lookup x) (findBy Value.isStrOf es x)
def tKGet (X : Cx) (to : TE) (t : TA) : TE := fun σ H Q => to σ H fun x H1 => ∃ a kvs, x = .ref a ∧ KDict X.K X.w a kvs ∧ t σ H1 fun ys H2 => ∃ z, ys = [.str z] ∧ Q ((kvs.lookup z).getD .non) H2
section
variable {X : Cx} {o e : Expr} {to : TE} {t : TA} {apos cpos : Pos}
theorem pe_kget (ho : PE X o to) (ha : PA X [e] t)
    (hbase : attributeBase o "get" X.env (eval o X.env) = eval o X.env := by rfl)
    (hfew : ((backTo cpos (starEach [e] X.env)).all (fun x => !x.1) && (backToKw cpos (keywordEach [] X.env)).all (fun x => x.1.isSome)
      && decide ([e].length + ([] : List Keyword).length + (if ([] : List Keyword).isEmpty then 0 else 1) < 30)) = true := by rfl)
    (hline : (apos.endLine == cpos.line) = true := by rfl) (hs : starEach [e] X.env = (false, eval e X.env) :: starEach [] X.env := by rfl) (hplain : (backTo cpos (starEach [] X.env)).any (·.1) = false := by rfl) :
    PE X (.Call (.Attribute o "get" apos) [e] [] cpos) (tKGet X to t) := by
  intro pins s σ H Q I h
  refine wpAny_Call_method_late hbase hfew hline rfl (thn (ho pins s σ H _ I h) fun v s1 ⟨x, H1, I1, r1, a, kvs, ex, hd, q1⟩ => ?_)
  subst ex
  cases r1
  obtain ⟨es, n, hl, hk, hno, hv⟩ := hd
  have mp : ∀ s' : Shared, X.K.In s'.heap → s'.heap.MapOf (strKind X.prog X.w) a (fun k => findBy Value.isStrOf es k) := fun s' kin => PySem.W.mapOf_K kin hl hk
  have mp1 := mp s1 I1.kIn
  refine ⟨"dict", "dict.get", PySem.F.plainAttrs_dict, PySem.F.slot_dict_get, PySem.F.type_dict_get, mp1.typeIs, mp1.noDict, ?_⟩
  have hA := ha cpos pins s1 σ H1 _ I1 q1
  rw [hs] at hA ⊢
  refine Calls.callWith_builtin (by show (false || (backTo cpos (starEach [] X.env)).any (·.1)) = false; rw [hplain] <;> rfl) (Calls.evalArgs_plain ?_)
  refine thn hA fun us s2 ⟨vs, H2, I2, r2, z, ez, q2⟩ => ?_
  subst ez
  obtain ⟨u, rfl, ru⟩ := r2.one
  obtain ⟨t', rfl⟩ := ru
  have mp2 := mp s2 I2.kIn
  refine call_meetsIn PySem.F.slot_dict_get mp2.typeIs PySem.F.entry_dict_get (PySem.F.args_dict_get_2 _ _) (meets_dict_get (strKind X.prog X.w) a (strKind_is _ _ z t') hno) ⟨_, mp2, ?_⟩
  have hz := hv z
  refine ⟨(kvs.lookup z).getD .non, H2, I2.tok _, ?_, q2⟩
  cases e1 : kvs.lookup z with
  | none =>
    rw [e1] at hz
    cases e2 : findBy Value.isStrOf es z with
    | none => rfl
    | some u => rw [e2] at hz; exact hz.elim
  | some v =>
    rw [e1] at hz
    cases e2 : findBy Value.isStrOf es z with
    | none => rw [e2] at hz; exact hz.elim
    | some u => rw [e2] at hz; exact hz
end
end L2

set_option Elab.async false
set_option linter.all false
set_option maxRecDepth 100000
set_option maxHeartbeats 4000000
/-! slices of texts, a sign in a text -/
namespace L2
open PySem PySem.Spec PyProof.Rows PySem.Builtin PySem.Builtin.Str
def cutS (z : Str) (lo hi : Option Int) : Str := ⟨((z.cps.toList.drop (HT.sIx z.length 0 lo)).take (HT.sIx z.length z.length hi - HT.sIx z.length 0 lo)).toArray⟩
theorem sIx_le (n d : Nat) (hd : d ≤ n) (v : Option Int) (hv : ∀ i, v = some i → -(n : Int) ≤ i ∨ 0 ≤ i ∨ True) : HT.sIx n d v ≤ n := by
  cases v with
  | none => exact hd
  | some i =>
    show (if i < 0 then (i + (n : Int)).toNat else min i.toNat n) ≤ n
    split <;> omega
theorem clip_sIx (n d : Nat) (hd : d ≤ n) (v : Option Int) : (match v with | none => (d : Int) | some i => max 0 (min (if i < 0 then i + (n : Int) else i) (n : Int))) = ((HT.sIx n d v : Nat) : Int) := by
  cases v with
  | none => rfl
  | some i =>
    show max 0 (min (if i < 0 then i + (n : Int) else i) (n : Int)) = ((if i < 0 then (i + (n : Int)).toNat else min i.toNat n : Nat) : Int)
    split <;> omega
theorem idx_sIx (lo hi : Option Int) (n : Nat) : strSliceIndices lo hi 1 n = (List.range (HT.sIx n n hi - HT.sIx n 0 lo)).map (fun k => HT.sIx n 0 lo + k) := by
  have e1 := clip_sIx n 0 (Nat.zero_le _) lo
  have e2 := clip_sIx n n (Nat.le_refl _) hi
  have key : strSliceIndices lo hi 1 n = sliceRange ((HT.sIx n 0 lo : Nat) : Int) ((HT.sIx n n hi : Nat) : Int) 1 := by
    rw [← e1, ← e2]
    cases lo <;> cases hi <;> rfl
  rw [key]
  generalize HT.sIx n 0 lo = a
  generalize HT.sIx n n hi = b
  unfold sliceRange
  simp only [show ((1 : Int) > 0) = True from by simp, if_true]
  by_cases h : (a : Int) < b
  · rw [if_pos h]
    have e3 : (((b : Int) - a + 1 - 1) / 1).toNat = b - a := by omega
    rw [e3]
    refine List.map_congr_left fun k _ => ?_
    omega
  · rw [if_neg h]
    have e4 : b - a = 0 := by omega
    rw [e4]
    rfl
theorem picks_cut (z : Str) (lo hi : Option Int) : ((strSliceIndices lo hi 1 z.length).filterMap (z.cps[·]?)) = (z.cps.toList.drop (HT.sIx z.length 0 lo)).take (HT.sIx z.length z.length hi - HT.sIx z.length 0 lo) := by
  rw [idx_sIx]
  have hz : z.length = z.cps.toList.length := by simp [Str.length]
  have hb : HT.sIx z.length z.length hi ≤ z.length := sIx_le _ _ (Nat.le_refl _) hi fun _ _ => .inr (.inr trivial)
  generalize HT.sIx z.length 0 lo = a at *
  generalize HT.sIx z.length z.length hi = b at *
  by_cases h : a ≤ b
  · have := StrLaws.picks z.cps.toList (b - a) a (by omega)
    simpa using this
  · have e : b - a = 0 := by omega
    rw [e]
    simp
section
variable {X : Cx}
def rSlS : V → Option Int → Option Int → Hp → VK → Prop := fun x lo hi H Q => ∃ z, x = .str z ∧ z.length ≤ sizeLine ∧ Q (.str (cutS z lo hi)) H
theorem sl_str : SlR X rSlS := by
  intro pins s σ H x v vl vu lo hi sl Q I rx hs pl pu h
  obtain ⟨z, rfl, hz, q⟩ := h
  obtain ⟨t, rfl⟩ := rx
  refine ⟨"str", _, PySem.F.slot_str_getitem.lookup, typeIs_str s z t, ?_⟩
  obtain ⟨l, hl, el⟩ : ∃ l : Option (Int × Tok), partValue l = vl ∧ l.map (·.1) = lo := by
    cases pl with
    | none => exact ⟨none, rfl, rfl⟩
    | int i t => exact ⟨some (i, t), rfl, rfl⟩
  obtain ⟨u, hu, eu⟩ : ∃ u : Option (Int × Tok), partValue u = vu ∧ u.map (·.1) = hi := by
    cases pu with
    | none => exact ⟨none, rfl, rfl⟩
    | int i t => exact ⟨some (i, t), rfl, rfl⟩
  have hS : s.heap.IsSlice sl l u none := by
    obtain ⟨o, ho, hc, hd⟩ := hs
    exact ⟨o, ho, hc, by rw [hd, hl, hu]; rfl⟩
  refine getItem_meets (typeIs_str s z t) (by decide) PySem.F.slot_str_getitem PySem.F.entry_str_getitem (PySem.F.args_str_getitem_2 _ _) (meets_str_getitem_slice z t sl l u none (by decide)) ⟨hS, ?_⟩
  have epick : slicePicked z l u none = strSliceIndices lo hi 1 z.length := by
    unfold slicePicked
    rw [el, eu]
    rfl
  have ecut : ((slicePicked z l u none).filterMap (z.cps[·]?)) = (z.cps.toList.drop (HT.sIx z.length 0 lo)).take (HT.sIx z.length z.length hi - HT.sIx z.length 0 lo) := by rw [epick]; exact picks_cut z lo hi
  unfold sliceMade
  split
  · rename_i hw
    have hlen : (slicePicked z l u none).length = z.length := by simpa using hw
    have eq : cutS z lo hi = z := by
      have e1 : ((z.cps.toList.drop (HT.sIx z.length 0 lo)).take (HT.sIx z.length z.length hi - HT.sIx z.length 0 lo)) = z.cps.toList := by
        rw [epick, idx_sIx, List.length_map, List.length_range] at hlen
        have hb : HT.sIx z.length z.length hi ≤ z.length := sIx_le _ _ (Nat.le_refl _) hi fun _ _ => .inr (.inr trivial)
        rcases Nat.eq_zero_or_pos z.length with h0 | h0
        · have : z.cps.toList = [] := by
            have : z.cps.toList.length = 0 := by simpa [Str.length] using h0
            exact List.eq_nil_of_length_eq_zero this
          rw [this]; simp
        · have ea : HT.sIx z.length 0 lo = 0 := by omega
          have eb : HT.sIx z.length z.length hi = z.length := by omega
          rw [ea, eb, List.drop_zero, Nat.sub_zero]
          exact List.take_of_length_le (by simp [Str.length])
      unfold cutS
      rw [e1]
    rw [eq] at q
    exact ⟨.str z, H, I, ⟨t, rfl⟩, q⟩
  · show (Made.str _).post _ s
    rw [ecut]
    refine ⟨?_, .str (cutS z lo hi), H, I.tok _, ⟨_, rfl⟩, q⟩
    refine Nat.le_trans ?_ hz
    show ((z.cps.toList.drop (HT.sIx z.length 0 lo)).take (HT.sIx z.length z.length hi - HT.sIx z.length 0 lo)).toArray.size ≤ z.cps.size
    rw [List.size_toArray, List.length_take, List.length_drop, Array.length_toList]
    omega
/-- a sign in a text -/
theorem op_in_sign : OpR X (compareOp .In) (fun x y H Q => ∃ (c : Nat) (z : Str), x = .str ⟨#[c]⟩ ∧ y = .str z ∧ Q (.bl (decide (c ∈ z.cps.toList))) H) := by
  intro pins s σ H x y v u Q I rx ry h
  obtain ⟨c, z, rfl, rfl, q⟩ := h
  refine op_in_str pins s σ H _ _ v u Q I rx ry ⟨_, _, rfl, rfl, ?_⟩
  rw [StrLaws.found_one]
  exact q
end
end L2

set_option Elab.async false
set_option linter.all false
set_option maxRecDepth 100000
set_option maxHeartbeats 4000000
/-! short words -/
namespace L2
open PySem PySem.Spec PyProof.Rows
/-- a module's name and its value -/
def Glob (mg : Str → Option Value) (x : Str) (v : V) : Prop := ∃ u, mg x = some u ∧ RelV v u
theorem pe_g {X : Cx} {x : Str} {v : V} {pos : Pos} (h : Glob X.mg x v) (hg : Gl X x := by rfl) (hd : (x == ("__debug__" : Str)) = false := by decide) : PE X (.Name x pos) (tC v) := by
  obtain ⟨u, hm, r⟩ := h
  exact pe_glob hg hm r hd
theorem relabel_none {sc : Scope} {env : Env} (hfree : ∀ y ∈ sc.names, y.2 ≠ .free) (hcell : ∀ y ∈ sc.names, y.2 ≠ .cell) (y : Str) (h : (relabel sc env).names.lookup y = some .cell ∨ (relabel sc env).names.lookup y = some .free) : False := by
  have key : ∀ k, (relabel sc env).names.lookup y = some k → ∃ z ∈ sc.names, z.2 = k ∨ z.2 = .free := fun k e => by
    have hm := PySem.mem_of_lookup e
    obtain ⟨z, hz, ez⟩ := List.mem_map.mp hm
    refine ⟨z, hz, ?_⟩
    obtain ⟨n, kk⟩ := z
    dsimp only at ez
    split at ez
    · rename_i hc
      simp only [Bool.and_eq_true, beq_iff_eq] at hc
      exact .inr hc.1.1
    · exact .inl (congrArg Prod.snd ez)
  rcases h with h | h
  · obtain ⟨z, hz, q | q⟩ := key _ h
    · exact hcell z hz q
    · exact hfree z hz q
  · obtain ⟨z, hz, q | q⟩ := key _ h
    · exact hfree z hz q
    · exact hfree z hz q
/-- a comprehension that names nothing of the def's own -/
theorem pe_comp0 {X : Cx} {elt iter : Expr} {x : Str} {px pos : Pos} {ifs : List Expr} {sc : Scope} {wi : TI} {tc : TT} {te : TE} (hi : PI X (.Name x px) iter wi) (hif : ∀ s H C ex, PTs (blk X [x] s H sc [] C ex) ifs tc) (he : ∀ s H C ex, PE (blk X [x] s H sc [] C ex) elt te)
    (hc : X.calm = true := by rfl) (hkind : sc.kind = .function := by rfl) (hx : sc.names.lookup x = some .local := by decide +kernel) (hfree : ∀ y ∈ sc.names, y.2 ≠ .free := by decide +kernel) (hcell : ∀ y ∈ sc.names, y.2 ≠ .cell := by decide +kernel)
    (hnames : ∀ y ∈ sc.names, y.2 = .local → sc.names.lookup y.1 = some .local := by decide +kernel) (hs : ∀ x, foldedSetIterable iter X.env x = pure x := by intro _; rfl) :
    PE X (.ListComp elt [⟨.Name x px, iter, ifs, 0⟩] sc pos) (tComp [] wi tc te) :=
  pe_comp [x] hc hi hif he hkind rfl (by simp) hx (PySem.closureFor_none hfree) hcell hnames (fun y c e => by simp at e) (fun y h => (relabel_none hfree hcell y h).elim) (fun j hj => by simp at hj) hs
/-- an iterator that tells xs, as long as I0 holds of the heap -/
structure JSeq (J : It) (I0 : Hp → Prop) (xs : List V) : Prop where
  go : ∀ i H, I0 H → i < xs.length → J.go i H
  stop : ∀ i H, I0 H → xs.length ≤ i → J.stop i H
  yld : ∀ i H x H', i < xs.length → I0 H → J.yld i H x H' → H' = H ∧ xs[i]? = some x
  stay : ∀ H H', I0 H → Same H H' → I0 H'
theorem jseq_tup {K : PySem.W.Frag} {a : Addr} {xs : List V} : JSeq (Itt K a) (fun H => SqT K H a xs) xs where
  go := fun i H h hi => ⟨xs, xs[i], h, by simp [hi]⟩
  stop := fun i H h hi => ⟨xs, h, hi⟩
  yld := fun i H x H' _ h y => ⟨y.1, y.2 xs h⟩
  stay := fun H H' h e => e.seqT h
theorem jseq_list {K : PySem.W.Frag} {a : Addr} {xs : List V} : JSeq (Itl K a) (fun H => SqL K H a xs) xs where
  go := fun i H h hi => ⟨xs, xs[i], h, by simp [hi]⟩
  stop := fun i H h hi => ⟨xs, h, hi⟩
  yld := fun i H x H' _ h y => ⟨y.1, y.2 xs h⟩
  stay := fun H H' h e => e.seq h
def signs (z : Str) : List V := z.cps.toList.map fun c => V.str ⟨#[c]⟩
theorem jseq_str {z : Str} : JSeq (Its z) (fun _ => True) (signs z) where
  go := fun i H _ hi => by simpa [signs, Its] using hi
  stop := fun i H _ hi => by simpa [signs, Its] using hi
  yld := fun i H x H' _ _ y => by
    obtain ⟨e, c, hc, rfl⟩ := y
    refine ⟨e, ?_⟩
    unfold signs
    rw [List.getElem?_map, Array.getElem?_toList, hc]; rfl
  stay := fun _ _ _ _ => trivial
def nums (lo : Int) (n : Nat) : List V := (List.range n).map fun i => V.int (lo + (i : Nat))
theorem jseq_rng {lo : Int} {n : Nat} : JSeq (Itr lo n) (fun _ => True) (nums lo n) where
  go := fun i H _ hi => by simpa [nums, Itr] using hi
  stop := fun i H _ hi => by simpa [nums, Itr] using hi
  yld := fun i H x H' hi _ y => by
    refine ⟨y.1, ?_⟩
    have hi' : i < n := by simpa [nums] using hi
    have e : x = .int (lo + i) := y.2
    unfold nums
    rw [List.getElem?_map, List.getElem?_range hi', e]; rfl
  stay := fun _ _ _ _ => trivial
theorem Paired.snocP {α β : Type} {F : α → β → Prop} {x : α} {y : β} : ∀ {l₁ : List α} {l₂ : List β}, Paired F l₁ l₂ → F x y → Paired F (l₁ ++ [x]) (l₂ ++ [y])
  | _, _, .nil, h => .cons h .nil
  | _, _, .cons h₁ t, h => .cons h₁ (Paired.snocP t h)
/-- all but D stays -/
def SameX (D : Addr) (H H' : Hp) : Prop := ∀ b u, H b = some u → b ≠ D → H' b = some u
theorem Same.x {H H' : Hp} (e : Same H H') (D : Addr) : SameX D H H' := fun b u q _ => e b u q
/-- a comprehension, item by item: R what an item's value is, by the heap; D the list that is made -/
theorem comp_rel {J : It} {H1 : Hp} {σ : St} {ix : List Nat} {tc : TT} {te : TE} {Q : VK} {I0 : Hp → Prop} (xs : List V) (p : V → Bool) (R : Addr → V → V → Hp → Prop) (hJ : JSeq J I0 xs) (h0 : I0 H1) (hz : xs.length ≤ sizeLine) (hR : ∀ D x y H H', R D x y H → SameX D H H' → R D x y H')
    (hc : ∀ x ∈ xs, ∀ H2, Same H1 H2 → ∀ Q' : Bool → Hp → Prop, (∀ H3, Same H2 H3 → Q' (p x) H3) → tc (some x :: frees σ ix) H2 Q')
    (he : ∀ D, ∀ x ∈ xs, p x = true → ∀ H2, Same H1 H2 → H2 D ≠ none → ∀ Q' : VK, (∀ y H3, Same H2 H3 → R D x y H3 → Q' y H3) → te (some x :: frees σ ix) H2 Q')
    (hQ : ∀ D H' ys, H1 D = none → Same H1 H' → H' D = some (.lst ys) → Paired (fun x y => R D x y H') (xs.filter p) ys → Q (.ref D) H') :
    CompGo J H1 σ ix tc te Q := by
  intro D hD
  have put : ∀ H ys, Same H1 H → Same H1 (upd H D (.lst ys)) := fun H ys e b u q => by rw [upd_ne (ne_of_none q hD)]; exact e b u q
  refine ⟨fun i m H => i ≤ xs.length ∧ m = xs.length - i ∧ Same H1 H ∧ ∃ ys, H D = some (.lst ys) ∧ Paired (fun x y => R D x y H) ((xs.take i).filter p) ys, ⟨xs.length, Nat.zero_le _, rfl, put _ _ (Same.refl _), [], upd_same, by simpa using Paired.nil⟩, ?_⟩
  rintro i m H ⟨hi, rfl, e, ys, hy, hp⟩
  have hI := hJ.stay _ _ h0 e
  by_cases hlt : i < xs.length
  · refine .inr ⟨hJ.go i H hI hlt, fun x H' hy' => ?_⟩
    obtain ⟨rfl, hx⟩ := hJ.yld i H x H' hlt hI hy'
    have hm : x ∈ xs := List.mem_of_getElem? hx
    have ht : xs.take (i + 1) = xs.take i ++ [x] := by rw [List.take_add_one, hx]; rfl
    have hlen : ys.length ≤ i := by
      have h1 := Paired.length hp
      have h2 := List.length_filter_le p (xs.take i)
      rw [List.length_take] at h2
      omega
    refine hc x hm _ e _ fun H3 e3 => ?_
    cases hpx : p x with
    | false =>
      rw [if_neg Bool.false_ne_true]
      refine ⟨xs.length - (i + 1), by omega, hlt, rfl, e.trans e3, ys, e3 _ _ hy, ?_⟩
      rw [ht, List.filter_append]
      simp only [List.filter_cons, hpx, List.filter_nil, List.append_nil, Bool.false_eq_true, if_false]
      exact Paired.mapP hp fun x y z => hR _ _ _ _ _ z (e3.x D)
    | true =>
      rw [if_pos rfl]
      refine he D x hm hpx _ (e.trans e3) (by rw [e3 _ _ hy]; simp) _ fun y H4 e4 hr => ?_
      have e5 : SameX D H4 (upd H4 D (.lst (ys ++ [y]))) := fun b u q hb => by rw [upd_ne hb]; exact q
      refine ⟨ys, e4 _ _ (e3 _ _ hy), by omega, xs.length - (i + 1), by omega, hlt, rfl, put _ _ (e.trans (e3.trans e4)), ys ++ [y], upd_same, ?_⟩
      rw [ht, List.filter_append]
      simp only [List.filter_cons, hpx, List.filter_nil, if_true]
      exact Paired.snocP (Paired.mapP hp fun x y z => hR _ _ _ _ _ (hR _ _ _ _ _ z ((e3.trans e4).x D)) e5) (hR _ _ _ _ _ hr e5)
  · have hi' : i = xs.length := by omega
    subst hi'
    refine .inl ⟨hJ.stop _ H hI (Nat.le_refl _), ?_⟩
    rw [List.take_length] at hp
    exact hQ D H ys hD e hy hp
theorem paired_map {α β : Type} {f : α → β} : ∀ {l : List α} {l' : List β}, Paired (fun x y => y = f x) l l' → l' = l.map f
  | _, _, .nil => rfl
  | _, _, .cons h t => by rw [h, paired_map t]; rfl
/-- .. whose items' values are told by the item alone -/
theorem comp_map {J : It} {H1 : Hp} {σ : St} {ix : List Nat} {tc : TT} {te : TE} {Q : VK} {I0 : Hp → Prop} (xs : List V) (p : V → Bool) (f : V → V) (hJ : JSeq J I0 xs) (h0 : I0 H1) (hz : xs.length ≤ sizeLine)
    (hc : ∀ x ∈ xs, ∀ H2, Same H1 H2 → ∀ Q' : Bool → Hp → Prop, (∀ H3, Same H2 H3 → Q' (p x) H3) → tc (some x :: frees σ ix) H2 Q')
    (he : ∀ x ∈ xs, p x = true → ∀ H2, Same H1 H2 → ∀ Q' : VK, (∀ H3, Same H2 H3 → Q' (f x) H3) → te (some x :: frees σ ix) H2 Q')
    (hQ : ∀ D H', H1 D = none → Same H1 H' → H' D = some (.lst ((xs.filter p).map f)) → Q (.ref D) H') :
    CompGo J H1 σ ix tc te Q :=
  comp_rel xs p (fun _ x y _ => y = f x) hJ h0 hz (fun _ _ _ _ _ h _ => h) hc (fun _ x hx hp H2 e _ Q' q => he x hx hp H2 e Q' fun H3 e3 => q _ H3 e3 rfl) fun D H' ys hD e hy hp => hQ D H' hD e (by rw [hy, paired_map hp])

/-- a comprehension without a test, its values by the turn -/
theorem comp_ix {J : It} {H1 : Hp} {σ : St} {ix : List Nat} {te : TE} {Q : VK} {I0 : Hp → Prop} (xs : List V) (ws : List V) (hJ : JSeq J I0 xs) (h0 : I0 H1) (hz : xs.length ≤ sizeLine) (hl : ws.length = xs.length)
    (he : ∀ (i : Nat) (x y : V), xs[i]? = some x → ws[i]? = some y → ∀ H2, Same H1 H2 → ∀ Q' : VK, (∀ H3, Same H2 H3 → Q' y H3) → te (some x :: frees σ ix) H2 Q')
    (hQ : ∀ D H', H1 D = none → Same H1 H' → H' D = some (.lst ws) → Q (.ref D) H') : CompGo J H1 σ ix tYes te Q := by
  intro D hD
  have put : ∀ H ys, Same H1 H → Same H1 (upd H D (.lst ys)) := fun H ys e b u q => by rw [upd_ne (ne_of_none q hD)]; exact e b u q
  refine ⟨fun i m H => i ≤ xs.length ∧ m = xs.length - i ∧ Same H1 H ∧ H D = some (.lst (ws.take i)), ⟨xs.length, Nat.zero_le _, rfl, put _ _ (Same.refl _), by rw [upd_same, List.take_zero]⟩, ?_⟩
  rintro i m H ⟨hi, rfl, e, hy⟩
  have hI := hJ.stay _ _ h0 e
  by_cases hlt : i < xs.length
  · refine .inr ⟨hJ.go i H hI hlt, fun x H' hy' => ?_⟩
    obtain ⟨rfl, hx⟩ := hJ.yld i H x H' hlt hI hy'
    have hw : ws[i]? = some ws[i] := List.getElem?_eq_getElem (by omega)
    unfold tYes
    dsimp only
    rw [if_pos rfl]
    refine he i x ws[i] hx hw _ e _ fun H3 e3 => ?_
    refine ⟨ws.take i, e3 _ _ hy, by rw [List.length_take]; omega, xs.length - (i + 1), by omega, hlt, rfl, put _ _ (e.trans e3), ?_⟩
    rw [upd_same, List.take_add_one, hw]; rfl
  · have hi' : i = xs.length := by omega
    subst hi'
    refine .inl ⟨hJ.stop _ H hI (Nat.le_refl _), hQ D H hD e ?_⟩
    rw [hy, List.take_of_length_le (by omega)]
/-- .. of truths -/
theorem comp_all {α : Type} {J : It} {H1 : Hp} {σ : St} {ix : List Nat} {te : TE} {Q : VK} {I0 : Hp → Prop} (xs : List V) (rs : List α) (p : α → Bool) (hJ : JSeq J I0 xs) (h0 : I0 H1) (hz : xs.length ≤ 1000) (hl : rs.length = xs.length)
    (he : ∀ (i : Nat) (x : V) (r : α), xs[i]? = some x → rs[i]? = some r → ∀ H2, Same H1 H2 → ∀ Q' : VK, (∀ H3, Same H2 H3 → Q' (.bl (p r)) H3) → te (some x :: frees σ ix) H2 Q')
    (hQ : ∀ D H', H1 D = none → Same H1 H' → H' D = some (.lst ((rs.map p).map V.bl)) → Q (.ref D) H') : CompGo J H1 σ ix tYes te Q :=
  comp_ix xs ((rs.map p).map V.bl) hJ h0 (Nat.le_of_lt (small1000 hz)) (by simp [hl]) (fun i x y hx hy H2 e Q' q => by
    rw [List.getElem?_map, List.getElem?_map] at hy
    cases hr : rs[i]? with
    | none => rw [hr] at hy; cases hy
    | some r =>
      rw [hr] at hy
      have : y = .bl (p r) := (Option.some.inj hy).symm
      subst this
      exact he i x r hx hr H2 e Q' q) hQ
theorem all_id {α : Type} (l : List α) (p : α → Bool) : (l.map p).all id = l.all p := by rw [List.all_map]; rfl
theorem str_at {l : List Str} {i : Nat} {x : V} {r : Str} (hx : (l.map V.str)[i]? = some x) (hr : l[i]? = some r) : x = .str r := by
  rw [List.getElem?_map, hr] at hx
  exact (Option.some.inj hx).symm
end L2

set_option Elab.async false
set_option linter.all false
set_option maxRecDepth 100000
set_option maxHeartbeats 4000000
/-! sep.join(list or tuple of texts), text.split(sep) -/
namespace L2
open PySem PySem.Spec PyProof.Rows
theorem strsAre_vals : ∀ {ys : List Str} {us : List Value}, Vals (ys.map V.str) us → StrsAre us ys
  | [], _, h => by cases h; exact .nil
  | y :: ys, _, h => by
    cases h with
    | cons h1 h2 =>
      obtain ⟨t, rfl⟩ := h1
      exact .cons _ _ (strsAre_vals h2)
theorem vals_strValues : ∀ (l : List (Str × Tok)), Vals ((l.map (·.1)).map V.str) (strValues l)
  | [] => .nil
  | p :: l => .cons ⟨p.2, rfl⟩ (vals_strValues l)
section
variable {X : Cx}
def rJoin (K : PySem.W.Frag) : V → List V → Hp → VK → Prop := fun x vs H Q => ∃ sep p ys, x = .str sep ∧ vs = [.ref p] ∧ (SqL K H p (ys.map V.str) ∨ SqT K H p (ys.map V.str)) ∧ (ys.map (·.length)).sum + ys.length * sep.length ≤ 16777216 ∧ Q (.str (Txt.join sep ys)) H
theorem mt_join : MtR X "str.join" (rJoin X.K) := by
  intro pins s σ H x vs v us Q I rx rv h
  obtain ⟨sep, p, ys, rfl, rfl, hs, hz, q⟩ := h
  obtain ⟨t, rfl⟩ := rx
  obtain ⟨u, rfl, ru⟩ := rv.one
  cases ru
  rcases hs with hs | hs
  · obtain ⟨its, r, pl, _⟩ := I.list hs
    exact join_list (items := its.toArray) pl.isList (by simpa using strsAre_vals r) hz fun t' k => ⟨.str _, H, I.tok k, ⟨t', rfl⟩, q⟩
  · obtain ⟨its, r, pl, _⟩ := I.tuple hs
    exact join_tuple (items := its.toArray) pl (by simpa using strsAre_vals r) hz fun t' k => ⟨.str _, H, I.tok k, ⟨t', rfl⟩, q⟩
def rSplit : V → List V → Hp → VK → Prop := fun x vs H Q => ∃ z y, x = .str z ∧ vs = [.str y] ∧ (y.length == 0) = false ∧ z.length ≤ sizeLine ∧ (Txt.split z y).length ≤ sizeLine ∧ ∀ p, H p = none → Q (.ref p) (upd H p (.lst ((Txt.split z y).map V.str)))
theorem mt_split : MtR X "str.split" rSplit := by
  intro pins s σ H x vs v us Q I rx rv h
  obtain ⟨z, y, rfl, rfl, hy, hz, hn, q⟩ := h
  obtain ⟨t, rfl⟩ := rx
  obtain ⟨u, rfl, ru⟩ := rv.one
  obtain ⟨t2, rfl⟩ := ru
  have fin : ∀ (l : List (Str × Tok)) (k : Nat), l.map (·.1) = Txt.split z y → EP X pins σ Q (.ref s.heap.objs.size) { s with heap := s.heap.push { cls := .type "list", data := .seq (strValues l).toArray }, toks := k } := fun l k e => by
    have hv : Vals ((Txt.split z y).map V.str) (strValues l) := by rw [← e]; exact vals_strValues l
    exact ⟨.ref s.heap.objs.size, _, I.lnew hv (by rw [List.length_map]; exact hn), rfl, q _ I.fresh⟩
  cases h1 : (decide (z.length < y.length) || decide (Builtin.Str.strKind z < Builtin.Str.strKind y))
  · cases hf : (Builtin.Str.occurrences z y 0 z.length (z.length + 1)).isEmpty
    · have es : Txt.split z y = Builtin.Str.partsBetween z (Builtin.Str.occurrences z y 0 z.length (z.length + 1)) y.length := (if_neg (ne_true_of_eq_false h1)).trans (if_neg (ne_true_of_eq_false hf))
      refine call_meets F.slot_str_split (typeIs_str _ _ _) F.entry_str_split (F.args_str_split_2 _ _) (meets_str_split_sep z y t t2 h1 hy hf hz (by rw [← es]; exact hn)) ?_
      show wants (EP X pins σ Q) X.xe _ { s with toks := _, heap := s.heap.push { cls := .type "list", data := .seq (strsFrom s.toks (Builtin.Str.partsBetween z (Builtin.Str.occurrences z y 0 z.length (z.length + 1)) y.length)).toArray } }
      rw [strsFrom_eq]
      exact fin (numbered s.toks _) _ ((numbered_texts _ _).trans es.symm)
    · exact call_meets F.slot_str_split (typeIs_str _ _ _) F.entry_str_split (F.args_str_split_2 _ _) (meets_str_split_not_found z y t t2 h1 hy hf) (fin [(z, t)] s.toks ((if_neg (ne_true_of_eq_false h1)).trans (if_pos hf)).symm)
  · exact call_meets F.slot_str_split (typeIs_str _ _ _) F.entry_str_split (F.args_str_split_2 _ _) (meets_str_split_cannot_occur z y t t2 h1) (fin [(z, t)] s.toks (if_pos h1).symm)
end
end L2

set_option Elab.async false
set_option linter.all false
set_option maxRecDepth 100000
set_option maxHeartbeats 4000000
/-! argument lists whose items are written: the rest stays a variable, so that nothing is unfolded twice -/
namespace L2
open PySem PySem.Spec PyProof.Rows
section
variable {X : Cx} {es es1 : List Expr} {t t1 : TA} {te : TE} {x : Str} {j : Nat} {pos pos2 : Pos}
theorem pa_str {j} (hr : PA X es t) : PA X (.Constant (.str x) j pos :: es) (tCons (tC (.str x)) t) := pa_cons pe_str hr rfl
theorem pa_int {i : Int} {j} (hr : PA X es t) : PA X (.Constant (.int i) j pos :: es) (tCons (tC (.int i)) t) := pa_cons pe_int hr rfl
theorem pa_nm (h : PE X (.Name x pos) te) (hr : PA X es t) : PA X (.Name x pos :: es) (tCons te t) := pa_cons h hr rfl
theorem pa_tp {x1} (h : PA X es1 t1) (hr : PA X es t) : PA X (.Tuple es1 x1 pos :: es) (tCons (tTup t1) t) := pa_cons (pe_tup h) hr rfl
theorem pa_ls (h : PA X es1 t1) (hr : PA X es t) : PA X (.List es1 pos :: es) (tCons (tLst t1) t) := pa_cons (pe_lst h) hr rfl
theorem pa_sub {a b : Expr} (h : PE X (.Subscript a b pos) te) (hr : PA X es t) : PA X (.Subscript a b pos :: es) (tCons te t) := pa_cons h hr rfl
theorem pa_call {f : Expr} {as : List Expr} {ks : List Keyword} (h : PE X (.Call f as ks pos) te) (hr : PA X es t) : PA X (.Call f as ks pos :: es) (tCons te t) := pa_cons h hr rfl
theorem pa_bop {a b : Expr} {op : Operator} (h : PE X (.BinOp a op b pos) te) (hr : PA X es t) : PA X (.BinOp a op b pos :: es) (tCons te t) := pa_cons h hr rfl
end
end L2

set_option Elab.async false
set_option linter.all false
set_option maxRecDepth 100000
set_option maxHeartbeats 4000000
/-! the judgements sealed in structures: what elaborates a rule then never runs the program's text -/
namespace L2
open PySem PySem.Spec PyProof.Rows
structure QE (X : Cx) (e : Expr) (t : TE) : Prop where
  run : PE X e t
structure QT (X : Cx) (e : Expr) (t : TT) : Prop where
  run : PT X e t
structure QW (X : Cx) (e : Expr) (t : TT) : Prop where
  run : PW X e t
structure QA (X : Cx) (es : List Expr) (t : TA) : Prop where
  run : PA X es t
structure QS (X : Cx) (st : Stmt) (t : TS) : Prop where
  run : PS X st t
structure QB (X : Cx) (st : List Stmt) (t : TS) : Prop where
  run : PSs X st t
structure QI (X : Cx) (tg iter : Expr) (wi : TI) : Prop where
  run : PI X tg iter wi
structure QG (X : Cx) (target : Expr) (t : TG) : Prop where
  run : PG X target t
structure QO (X : Cx) (e : Option Expr) (t : TO) : Prop where
  run : PO X e t
structure QTs (X : Cx) (ifs : List Expr) (t : TT) : Prop where
  run : PTs X ifs t
theorem QW.qt {X : Cx} {e : Expr} {t : TT} (h : QW X e t) : QT X e t := ⟨PW.pt h.run⟩
section
variable {st : Stmt} {id : String} {lo hi : Option Expr}
set_option autoImplicit true
set_option relaxedAutoImplicit true
theorem qb_nil  : QB X [] tNext := ⟨pss_nil ⟩
theorem qb_cons {rest : List Stmt} (h1 : QS X st t) (h2 : QB X rest u) : QB X (st :: rest) (tSeq t u) := ⟨pss_cons h1.run h2.run⟩
theorem qb_one (h1 : QS X st t) : QB X [st] t := ⟨pss_one h1.run⟩
theorem qs_if {c : Expr} {a b : List Stmt} {tc : TT} (hc : QT X c tc) (ha : QB X a t) (hb : QB X b u) : QS X (.If c a b pos) (tIfS tc t u) := ⟨ps_if hc.run ha.run hb.run⟩
theorem qs_set {i : Nat} {x : Str} {e : Expr} {te : TE} {pos' : Pos} (hN : X.N.Nodup) (hi : X.N[i]? = some x) (hx : Loc X.env.scope x) (he : QE X e te) (hs : swapsWith e (some (.Name x pos')) pos.line X.env = pure false := by rfl) (hf : X.fn x = true ∨ X.env.scope.names.lookup x = some .local := by first | exact .inl rfl | exact .inr rfl | assumption) :     QS X (.Assign [.Name x pos'] e pos) (tAsg te (gName i)) := ⟨ps_set hN hi hx he.run hs hf⟩
theorem qs_ret (he : QE X e te) : QS X (.Return (some e) pos) (tRet te) := ⟨ps_ret he.run⟩
theorem qs_expr (he : QE X e te) (hs : swapsWith e none pos.line X.env = pure false := by rfl) : QS X (.Expr e pos) (tDrop te) := ⟨ps_expr he.run hs⟩
theorem qs_for {iter : Expr} {body : List Stmt} {wi : TI} {g : TG} {tb : TS} {pos : Pos} (hp : PassesOwn (model X.prog X.w) X.A X.env X.xe) (hc : X.calm = true) (hi : QI X tg iter wi) (hg : QG X tg g) (hb : QB X body tb) (hs : ∀ x, foldedSetIterable iter X.env x = pure x := by intro _; rfl) : QS X (.For tg iter body [] pos) (tFor wi g tb) := ⟨ps_for hp hc hi.run hg.run hb.run hs⟩
theorem qs_asg {tg e : Expr} {te : TE} {g : TG} (he : QE X e te) (hg : QG X tg g) (hs : swapsWithSole [tg] e pos.line X.env = pure false := by rfl) (hw : swappedStores [tg] e X.env = pure none := by rfl) (h1 : (assignEach [tg] X.env).map (·.2) = [assign tg X.env] := by rfl) : QS X (.Assign [tg] e pos) (tAsg te g) := ⟨ps_asg he.run hg.run hs hw h1⟩
theorem qe_int {i j pos} : QE X (.Constant (.int i) j pos) (tC (.int i)) := ⟨pe_int ⟩
theorem qe_bl {b j pos} : QE X (.Constant (.bool b) j pos) (tC (.bl b)) := ⟨pe_bl ⟩
theorem qe_str {x j pos} : QE X (.Constant (.str x) j pos) (tC (.str x)) := ⟨pe_str ⟩
theorem qv (i : Nat) {x : Str} {pos : Pos} (hN : X.N[i]? = some x := by rfl) (hv : Vis X.env.scope x := by first | exact Or.inl rfl | exact Or.inr (Or.inl rfl) | exact Or.inr (Or.inr rfl)) (hd : (x == ("__debug__" : Str)) = false := by decide) (hcd : (x == ("__classdict__" : Str)) = false := by decide) : QE X (.Name x pos) (tVar i) := ⟨pv i hN hv hd hcd⟩
theorem qe_g {X : Cx} {x : Str} {v : V} {pos : Pos} (h : Glob X.mg x v) (hg : Gl X x := by rfl) (hd : (x == ("__debug__" : Str)) = false := by decide) : QE X (.Name x pos) (tC v) := ⟨pe_g h hg hd⟩
theorem qe_op {op : Operator} {r : R2} (ho : OpR X (binaryOp op) r) (ha : QE X a ta) (hb : QE X b tb) : QE X (.BinOp a op b pos) (tOp r ta tb) := ⟨pe_op ho ha.run hb.run⟩
theorem qe_cmpR {op : CmpOp} {r : R2} (ho : OpR X (compareOp op) r) (ha : QE X a ta) (hb : QE X b tb) (hm : behindInMarks op b = false) : QE X (.Compare a [op] [b] pos) (tOp r ta tb) := ⟨pe_cmpR ho ha.run hb.run hm⟩
theorem qt_cmpR {op : CmpOp} {r : R2} (ho : OpR X (compareOp op) r) (ha : QE X a ta) (hb : QE X b tb) (hm : behindInMarks op b = false) : QT X (.Compare a [op] [b] pos) (tTest (tOp r ta tb)) := ⟨pt_cmpR ho ha.run hb.run hm⟩
theorem qt_val {e : Expr} {t : TE} (h : QE X e t) (he : ∀ whole, isTrue e X.env whole = (do let v ← whole; standAt e.pos; holding [v] (truthy v)) := by intro _; rfl) : QT X e (tB t) := ⟨pt_val h.run he⟩
theorem qt_not (ha : QT X a tA) : QT X (.UnaryOp .Not a pos) (tNot tA) := ⟨pt_not ha.run⟩
theorem qw_and1 (ha : QT X a tA) : QW X (.BoolOp .And [a] pos) tA := ⟨pw_and1 ha.run⟩
theorem qw_or1 (ha : QT X a tA) : QW X (.BoolOp .Or [a] pos) tA := ⟨pw_or1 ha.run⟩
theorem qw_and {rest : List Expr} (ha : QT X a tA) (hb : QW X (.BoolOp .And (b :: rest) pos) tB') : QW X (.BoolOp .And (a :: b :: rest) pos) (tAnd tA tB') := ⟨pw_and ha.run hb.run⟩
theorem qw_or {rest : List Expr} (ha : QT X a tA) (hb : QW X (.BoolOp .Or (b :: rest) pos) tB') : QW X (.BoolOp .Or (a :: b :: rest) pos) (tOr tA tB') := ⟨pw_or ha.run hb.run⟩
theorem qe_one {op} {t : TE} (h : QE X a t) : QE X (.BoolOp op [a] pos) t := ⟨pe_one h.run⟩
theorem qe_and {rest : List Expr} (ha : QE X a ta) (hb : QE X (.BoolOp .And (b :: rest) pos) tb) : QE X (.BoolOp .And (a :: b :: rest) pos) (tAndV ta tb) := ⟨pe_and ha.run hb.run⟩
theorem qe_ifExp {c : Expr} (hc : QT X c tA) (ha : QE X a ta) (hb : QE X b tb) : QE X (.IfExp c a b pos) (tIf tA ta tb) := ⟨pe_ifExp hc.run ha.run hb.run⟩
theorem qe_ix {r : R2} (hr : IxR X r) (ha : QE X a ta) (hb : QE X b tb) (hs : PlainIx b) : QE X (.Subscript a b pos) (tOp r ta tb) := ⟨pe_ix hr ha.run hb.run hs⟩
theorem qe_slice {r : V → Option Int → Option Int → Hp → VK → Prop} (hr : SlR X r) (he : QE X e te) (hl : QO X lo tl) (hu : QO X hi th) : QE X (.Subscript e (.Slice lo hi none p2) pos) (tSl r te tl th) := ⟨pe_slice hr he.run hl.run hu.run⟩
theorem qo_none  : QO X none tNoPart := ⟨po_none ⟩
theorem qo_some (h : QE X e te) : QO X (some e) (tPart te) := ⟨po_some h.run⟩
theorem qe_tup {x1} (h : QA X es t) : QE X (.Tuple es x1 pos) (tTup t) := ⟨pe_tup h.run⟩
theorem qe_lst (h : QA X es t) : QE X (.List es pos) (tLst t) := ⟨pe_lst h.run⟩
theorem qe_call (F : FnOk X.prog X.w X.K X.mg X.base CX k f fd ps sp) (hr : Room k X.A) (hg : Gl X x) (hm : X.mg x = some (.ref f)) (hk : PySem.W.keepIn X.K (.ref f) = true) (hb : Binds X.K fd ps ds) (hd : Vals dvs ds) (hx : Passes CX X E) (ha : QA X (e :: es) t) (hdb : (x == ("__debug__" : Str)) = false := by decide) (he : starEach (e :: es) X.env = (false, eval e X.env) :: starEach es X.env := by rfl) (hpl : (backTo pos (starEach es X.env)).any (·.1) = false := by rfl) :     QE X (.Call (.Name x p) (e :: es) [] pos) (tCall sp dvs E t) := ⟨pe_call F hr hg hm hk hb hd hx ha.run hdb he hpl⟩
theorem qe_callB (hc : CallR X (.builtin id) r) (hg : Gl X x) (hm : X.mg x = none) (hv : bootBuiltins x = some (.builtin id)) (ha : QA X (e :: es) t) (hn : x ≠ "__name__" := by decide) (hdb : (x == ("__debug__" : Str)) = false := by decide) (he : starEach (e :: es) X.env = (false, eval e X.env) :: starEach es X.env := by rfl) (hpl : (backTo pos (starEach es X.env)).any (·.1) = false := by rfl) : QE X (.Call (.Name x p) (e :: es) [] pos) (tCB r t) := ⟨pe_callB hc hg hm hv ha.run hn hdb he hpl⟩
theorem qe_callTy (hc : CallR X (.type T) r) (hg : Gl X x) (hm : X.mg x = none) (hv : bootBuiltins x = some (.type T)) (ha : QA X (e :: es) t) (hn : x ≠ "__name__" := by decide) (hdb : (x == ("__debug__" : Str)) = false := by decide) (he : starEach (e :: es) X.env = (false, eval e X.env) :: starEach es X.env := by rfl) (hpl : (backTo pos (starEach es X.env)).any (·.1) = false := by rfl) : QE X (.Call (.Name x p) (e :: es) [] pos) (tCB r t) := ⟨pe_callTy hc hg hm hv ha.run hn hdb he hpl⟩
theorem qe_bm0 (pa : PlainAttrs T) (slot : Slot T name id) (hty : typeOf (.builtin id) = pure (.type "method_descriptor")) (hm : MtR X id r) (ho : QE X o to) (hbase : attributeBase o name X.env (eval o X.env) = eval o X.env := by rfl) (hline : (apos.endLine == cpos.line) = true := by rfl) : QE X (.Call (.Attribute o name apos) [] [] cpos) (tBM0 X.K T r to) := ⟨pe_bm0 pa slot hty hm ho.run hbase hline⟩
theorem qe_comp0 {X : Cx} {elt iter : Expr} {x : Str} {px pos : Pos} {ifs : List Expr} {sc : Scope} {wi : TI} {tc : TT} {te : TE} (hi : QI X (.Name x px) iter wi) (hif : ∀ s H C ex, QTs (blk X [x] s H sc [] C ex) ifs tc) (he : ∀ s H C ex, QE (blk X [x] s H sc [] C ex) elt te) (hc : X.calm = true := by rfl) (hkind : sc.kind = .function := by rfl) (hx : sc.names.lookup x = some .local := by decide +kernel) (hfree : ∀ y ∈ sc.names, y.2 ≠ .free := by decide +kernel) (hcell : ∀ y ∈ sc.names, y.2 ≠ .cell := by decide +kernel) (hnames : ∀ y ∈ sc.names, y.2 = .local → sc.names.lookup y.1 = some .local := by decide +kernel) (hs : ∀ x, foldedSetIterable iter X.env x = pure x := by intro _; rfl) :     QE X (.ListComp elt [⟨.Name x px, iter, ifs, 0⟩] sc pos) (tComp [] wi tc te) := ⟨pe_comp0 hi.run (fun z0 z1 z2 z3 => (hif z0 z1 z2 z3).run) (fun z0 z1 z2 z3 => (he z0 z1 z2 z3).run) hc hkind hx hfree hcell hnames hs⟩
theorem qi_list {l : Expr} {tl : TE} (hl : QE X l tl) : QI X tg l (iList X.K tl) := ⟨pi_list hl.run⟩
theorem qi_tup {l : Expr} {tl : TE} (hl : QE X l tl) : QI X tg l (iTup X.K tl) := ⟨pi_tup hl.run⟩
theorem qi_range1 {a : Expr} {ta : TA} {p pos : Pos} (hg : Gl X "range") (hm : X.mg "range" = none) (ha : QA X [a] ta) (hs : starEach [a] X.env = [(false, eval a X.env)] := by rfl) : QI X tg (.Call (.Name "range" p) [a] [] pos) (iRng1 ta) := ⟨pi_range1 hg hm ha.run hs⟩
theorem qg_name {i : Nat} {x : Str} (hN : X.N.Nodup) (hi : X.N[i]? = some x) (hx : Loc X.env.scope x) (hf : X.fn x = true ∨ X.env.scope.names.lookup x = some .local := by first | exact .inl rfl | exact .inr rfl | assumption) : QG X (.Name x pos) (gName i) := ⟨pg_name hN hi hx hf⟩
theorem qa_nil  : QA X [] tNil := ⟨pa_nil ⟩
theorem qa_cons (ha : QE X e te) (hr : QA X es t) (hs : starEach (e :: es) X.env = (false, eval e X.env) :: starEach es X.env := by rfl) : QA X (e :: es) (tCons te t) := ⟨pa_cons ha.run hr.run hs⟩
theorem qa_str {j} (hr : QA X es t) : QA X (.Constant (.str x) j pos :: es) (tCons (tC (.str x)) t) := ⟨pa_str hr.run⟩
theorem qa_int {i : Int} {j} (hr : QA X es t) : QA X (.Constant (.int i) j pos :: es) (tCons (tC (.int i)) t) := ⟨pa_int hr.run⟩
theorem qa_nm (h : QE X (.Name x pos) te) (hr : QA X es t) : QA X (.Name x pos :: es) (tCons te t) := ⟨pa_nm h.run hr.run⟩
theorem qa_tp {x1} (h : QA X es1 t1) (hr : QA X es t) : QA X (.Tuple es1 x1 pos :: es) (tCons (tTup t1) t) := ⟨pa_tp h.run hr.run⟩
theorem qa_ls (h : QA X es1 t1) (hr : QA X es t) : QA X (.List es1 pos :: es) (tCons (tLst t1) t) := ⟨pa_ls h.run hr.run⟩
theorem qa_sub {a b : Expr} (h : QE X (.Subscript a b pos) te) (hr : QA X es t) : QA X (.Subscript a b pos :: es) (tCons te t) := ⟨pa_sub h.run hr.run⟩
theorem qa_call {f : Expr} {as : List Expr} {ks : List Keyword} (h : QE X (.Call f as ks pos) te) (hr : QA X es t) : QA X (.Call f as ks pos :: es) (tCons te t) := ⟨pa_call h.run hr.run⟩
theorem qa_bop {a b : Expr} {op : Operator} (h : QE X (.BinOp a op b pos) te) (hr : QA X es t) : QA X (.BinOp a op b pos :: es) (tCons te t) := ⟨pa_bop h.run hr.run⟩
theorem qts_nil {X : Cx} : QTs X [] tYes := ⟨pts_nil ⟩
theorem qts_one {X : Cx} {c : Expr} {t : TT} (h : QT X c t) : QTs X [c] t := ⟨pts_one h.run⟩
end
theorem qg_sub {X : Cx} {o i : Expr} {to ti : TE} {t : TSet} {pos : Pos} (ho : QE X o to) (hi : QE X i ti) (hs : PSet X t)
    (ha : ∀ v, assign (.Subscript o i pos) X.env v = (do
      let ov ← holding [v] (eval o X.env)
      let iv ← holding [v, ov] (eval i X.env)
      standAt pos
      holding [v, ov, iv] (setItem ov iv v)
      release [v, ov, iv] []) := by intro _; rfl) : QG X (.Subscript o i pos) (gSub to ti t) := ⟨pg_sub ho.run hi.run hs ha⟩
theorem qe_weak {X : Cx} {e : Expr} {t t' : TE} (h : QE X e t) (w : ∀ σ H Q, t' σ H Q → t σ H Q) : QE X e t' := ⟨fun pins s σ H Q I q => h.run pins s σ H Q I (w σ H Q q)⟩
theorem Fun.okQ {P : Program} {w : World} {K : PySem.W.Frag} {mg : Str → Option Value} {base : Heap} {x qual : Str} {st : Stmt} {f : Addr} {fd : FuncData} {N ps : List Str} {k : Nat} {sp : Sp} (F : Fun K x qual st f fd) (S : FnScope N ps (defScope st)) (len : ∀ vs H Q E, sp vs H Q E → vs.length = ps.length)
    (hbody : ∀ (cdv : Value) (A : Around) (outer : List Env) (s : Shared) (H : Hp) (vs : List V) (Q : VK) (E : XK), Room k (A.deeper (envOfC qual (defScope st) s.heap.objs.size f cdv)) → sp vs H Q E →
      ∃ t, QB (cxOf CX0 P w K mg base N qual (defScope st) f cdv A outer s H E).nox (defBody st) t ∧ t { nx := fun _ H' => Q .non H', rt := Q } (start N vs) H) : FnOk P w K mg base CX0 (k + 1) f fd ps sp :=
  F.ok S len fun cdv A outer s H vs Q E hr h => by
    obtain ⟨t, h1, h2⟩ := hbody cdv A outer s H vs Q E hr h
    exact ⟨t, h1.run, h2⟩
end L2

set_option Elab.async false
set_option linter.all false
set_option maxRecDepth 100000
set_option maxHeartbeats 4000000
namespace L2
open PySem PySem.Spec PyProof.Rows
section
variable {X : Cx} {st : Stmt} {t : TS} {e : Expr} {te : TE}
theorem PS.nox (h : PS X.nox st t) : PS X st t := fun pins s σ H D I hw =>
  wpAny_mono (h pins s σ H D (I.wish _) hw) (fun _ _ q => q.unwish) fun _ _ z => False.elim z
/-- a statement that raises nothing, in a def that may raise -/
theorem qs_nox (h : QS X.nox st t) : QS X st t := ⟨PS.nox h.run⟩
def tTruth (K : PySem.W.Frag) (ta : TE) : TT := fun σ H Q => ta σ H fun x H' => ∃ k, TruV K x H' k ∧ Q k H'
theorem mtJoin {K : PySem.W.Frag} (hK : X.K = K) : MtR X "str.join" (rJoin K) := by subst hK; exact mt_join
end
theorem Fun.okEQ {P : Program} {w : World} {K : PySem.W.Frag} {mg : Str → Option Value} {base : Heap} {x qual : Str} {st : Stmt} {f : Addr} {fd : FuncData} {N ps : List Str} {k : Nat} {sp : Sp} (F : Fun K x qual st f fd) (S : FnScope N ps (defScope st)) (len : ∀ vs H Q E, sp vs H Q E → vs.length = ps.length)
    (hbody : ∀ (cdv : Value) (A : Around) (outer : List Env) (s : Shared) (H : Hp) (vs : List V) (Q : VK) (E : XK), Room k (A.deeper (envOfC qual (defScope st) s.heap.objs.size f cdv)) → sp vs H Q E →
      ∃ t, QB (cxOf (CXE P w base) P w K mg base N qual (defScope st) f cdv A outer s H E) (defBody st) t ∧ t { nx := fun _ H' => Q .non H', rt := Q } (start N vs) H) : FnOk P w K mg base (CXE P w base) (k + 1) f fd ps sp := by
  obtain ⟨oc, od, kV, doc, pm, an, cdv, ct, osl, rfl, lk, hcd⟩ := F.ex
  exact fn_of lk hcd S len fun A outer s H vs Q E hr hsp => by
    obtain ⟨t, h1, h2⟩ := hbody cdv A outer s H vs Q E hr hsp
    exact ⟨t, h1.run, h2⟩
/-- a comprehension of texts, its values by the turn -/
theorem comp_str {α : Type} {J : It} {H1 : Hp} {σ : St} {ix : List Nat} {te : TE} {Q : VK} {I0 : Hp → Prop} (xs : List V) (rs : List α) (f : α → Str) (hJ : JSeq J I0 xs) (h0 : I0 H1) (hz : xs.length ≤ 1000) (hl : rs.length = xs.length)
    (he : ∀ (i : Nat) (x : V) (r : α), xs[i]? = some x → rs[i]? = some r → ∀ H2, Same H1 H2 → ∀ Q' : VK, (∀ H3, Same H2 H3 → Q' (.str (f r)) H3) → te (some x :: frees σ ix) H2 Q')
    (hQ : ∀ D H', H1 D = none → Same H1 H' → H' D = some (.lst ((rs.map f).map V.str)) → Q (.ref D) H') : CompGo J H1 σ ix tYes te Q :=
  comp_ix xs ((rs.map f).map V.str) hJ h0 (Nat.le_of_lt (small1000 hz)) (by simp [hl]) (fun i x y hx hy H2 e Q' q => by
    rw [List.getElem?_map, List.getElem?_map] at hy
    cases hr : rs[i]? with
    | none => rw [hr] at hy; cases hy
    | some r =>
      rw [hr] at hy
      have : y = .str (f r) := (Option.some.inj hy).symm
      subst this
      exact he i x r hx hr H2 e Q' q) hQ
section
variable {id : String}
set_option autoImplicit true
set_option relaxedAutoImplicit true
/-- a method of a built-in, where the fragment is known -/
theorem qe_bmK {K : PySem.W.Frag} (hK : X.K = K) (pa : PlainAttrs T) (slot : Slot T name id) (hty : typeOf (.builtin id) = pure (.type "method_descriptor")) (hm : MtR X id r) (ho : QE X o to) (ha : QA X (e :: es) t) (hbase : attributeBase o name X.env (eval o X.env) = eval o X.env := by rfl) (hfew : ((backTo cpos (starEach (e :: es) X.env)).all (fun x => !x.1) && (backToKw cpos (keywordEach [] X.env)).all (fun x => x.1.isSome)       && decide ((e :: es).length + ([] : List Keyword).length + (if ([] : List Keyword).isEmpty then 0 else 1) < 30)) = true := by rfl) (hline : (apos.endLine == cpos.line) = true := by rfl) (hs : starEach (e :: es) X.env = (false, eval e X.env) :: starEach es X.env := by rfl) (hplain : (backTo cpos (starEach es X.env)).any (·.1) = false := by rfl) : QE X (.Call (.Attribute o name apos) (e :: es) [] cpos) (tBM K T r to t) := by
  subst hK
  exact ⟨pe_bm pa slot hty hm ho.run ha.run hbase hfew hline hs hplain⟩
end
end L2

set_option Elab.async false
set_option linter.all false
set_option maxRecDepth 100000
set_option maxHeartbeats 4000000
namespace L2
open PySem PySem.Spec PyProof.Rows
theorem has_one {x y : Str} {c : Addr} {names : List (Str × NameKind)} (hn : names = [((".0" : Str), NameKind.local), (x, NameKind.local), (y, NameKind.cell)]) (z : Str) (h : names.lookup z = some .cell ∨ names.lookup z = some .free) : ∃ c', ([(y, c)] : List (Str × Addr)).lookup z = some c' := by
  subst hn
  simp only [List.lookup_cons, List.lookup_nil] at h ⊢
  cases h1 : z == (".0" : Str) with
  | true => rw [h1] at h; simp at h
  | false =>
    cases h2 : z == x with
    | true => rw [h1, h2] at h; simp at h
    | false =>
      cases h3 : z == y with
      | true => exact ⟨c, rfl⟩
      | false => rw [h1, h2, h3] at h; simp at h
/-- a comprehension whose block has one name of the def's, which stands at place j -/
theorem qe_comp1 {X : Cx} {elt iter : Expr} {x y : Str} {px pos : Pos} {ifs : List Expr} {sc : Scope} {c : Addr} {wi : TI} {tc : TT} {te : TE} (j : Nat) (hi : QI X (.Name x px) iter wi)
    (hif : ∀ s H C ex, QTs (blk X [x, y] s H sc [(y, c)] C ex) ifs tc) (he : ∀ s H C ex, QE (blk X [x, y] s H sc [(y, c)] C ex) elt te)
    (hn : sc.names = [((".0" : Str), NameKind.local), (x, NameKind.local), (y, NameKind.free)] := by rfl) (hrel : (relabel sc X.env).names = [((".0" : Str), NameKind.local), (x, NameKind.local), (y, NameKind.cell)] := by rfl) (hcl : closureFor sc X.env = pure [(y, c)] := by rfl) (hcs : X.env.cells = [(y, c)] := by rfl)
    (hk : X.env.kindOf y = some .cell := by rfl) (hj : X.N[j]? = some y := by rfl) (hnd : ([x, y] : List Str).Nodup := by decide +kernel) (hx : sc.names.lookup x = some .local := by decide +kernel) (hcell : ∀ z ∈ sc.names, z.2 ≠ .cell := by decide +kernel)
    (hnames : ∀ z ∈ sc.names, z.2 = .local → sc.names.lookup z.1 = some .local := by decide +kernel) (hy : ([((".0" : Str), NameKind.local), (x, NameKind.local), (y, NameKind.cell)] : List (Str × NameKind)).lookup y = some .cell := by decide +kernel)
    (hc : X.calm = true := by rfl) (hkind : sc.kind = .function := by rfl) (hs : ∀ x, foldedSetIterable iter X.env x = pure x := by intro _; rfl) :
    QE X (.ListComp elt [⟨.Name x px, iter, ifs, 0⟩] sc pos) (tComp [j] wi tc te) := by
  have hN : ([x, y] : List Str) = x :: [j].map fun j => (X.N[j]?).getD "" := by simp [hj]
  exact ⟨pe_comp [x, y] hc hi.run (fun s H C ex => (hif s H C ex).run) (fun s H C ex => (he s H C ex).run) hkind hN hnd hx hcl hcell hnames (fun z c' e => by rw [hcs]; exact e)
    (fun z h => has_one hrel z h) (fun j' hj' => by
      have : j' = j := by simpa using hj'
      subst this
      exact ⟨y, hj, hk, by rw [hrel]; exact hy⟩) hs⟩
theorem rep_fold (c : Nat) : ∀ (k : Nat) (acc : Array Nat), (List.replicate k (#[c] : Array Nat)).foldl (· ++ ·) acc = acc ++ (List.replicate k c).toArray
  | 0, acc => by simp
  | k + 1, acc => by
    rw [List.replicate_succ, List.foldl_cons, rep_fold c k (acc ++ #[c]), List.replicate_succ, Array.append_assoc]
    congr 1
    apply Array.toList_inj.mp
    simp
/-- one sign, n times -/
def reps (c : Nat) (n : Int) : Str := ⟨(List.replicate n.toNat c).toArray⟩
theorem op_mul_sign {X : Cx} : OpR X (binaryOp .Mult) (fun x y H Q => ∃ (c : Nat) (n : Int), x = .str ⟨#[c]⟩ ∧ y = .int n ∧ 0 ≤ n ∧ n ≤ 1000 ∧ Q (.str (reps c n)) H) := by
  intro pins s σ H x y v u Q I rx ry h
  obtain ⟨c, n, rfl, rfl, h0, h1, q⟩ := h
  obtain ⟨t, rfl⟩ := rx
  obtain ⟨t2, rfl⟩ := ry
  have hl : (⟨#[c]⟩ : Str).length = 1 := rfl
  refine PySem.P.mul_str (by
      have h2 : ¬ n < -(2 ^ 63 : Int) := by omega
      have h3 : ¬ n ≥ 2 ^ 63 := by omega
      rw [decide_eq_false h2, decide_eq_false h3]; rfl) (fun _ _ => ?_) (fun _ _ => ?_) ?_
  · rw [hl]
    have : (1 : Int) ≤ (2 ^ 63 - 1) / n := by
      rw [Int.le_ediv_iff_mul_le (by omega)]
      omega
    show ¬ ((1 : Nat) : Int) > _
    omega
  · rw [hl, Nat.one_mul]
    unfold Builtin.Str.tooLong
    exact decide_eq_false (by have : sizeLine = 16777216 := sizeLine_eq; omega)
  · by_cases hn : n < 1
    · rw [if_pos hn]
      have e : n = 0 := by omega
      subst e
      exact ⟨by decide, .str (reps c 0), H, I.tok _, ⟨_, rfl⟩, q⟩
    · rw [if_neg hn]
      by_cases hn1 : n = 1
      · subst hn1
        rw [if_pos (by rfl)]
        exact ⟨.str (reps c 1), H, I, ⟨_, rfl⟩, q⟩
      · have e : (n == 1 || (⟨#[c]⟩ : Str).length == 0) = false := by
          rw [hl]; simp [hn1]
        rw [if_neg (by rw [e]; exact Bool.false_ne_true)]
        have e2 : (⟨(List.replicate n.toNat (#[c] : Array Nat)).foldl (· ++ ·) #[]⟩ : Str) = reps c n := by
          rw [rep_fold, Array.empty_append]; rfl
        rw [e2]
        refine ⟨?_, .str (reps c n), H, I.tok _, ⟨_, rfl⟩, q⟩
        show (List.toArray _).size ≤ _
        rw [List.size_toArray, List.length_replicate]
        exact Nat.le_trans (show n.toNat ≤ 1000 by omega) (by decide)
end L2

set_option Elab.async false
set_option linter.all false
set_option maxRecDepth 100000
set_option maxHeartbeats 4000000
/-! for a, b in zip(l1, l2): two lists of ours -/
namespace L2
open PySem PySem.Spec PyProof.Rows
section
variable {X : Cx} {pins : List (Addr × Obj)} {σ : St} {H : Hp} {s : Shared} {h' : Heap}
/-- untracked records of ours have turned -/
theorem Inv.turnedL {t' : Nat} {ch : List Addr} (I : Inv X pins σ H s) (k : ∀ b o, b ∉ ch → s.heap.get? b = some o → h'.get? b = some o) (hc : ∀ b ∈ ch, FpOk X pins H b) : Inv X pins σ H { s with heap := h', toks := t' } := by
  have nit : ∀ b u, H b = some u → b ∉ ch := fun b u e z => by rw [(hc b z).1] at e; cases e
  refine I.step (g' := s.gens) (d' := s.drawn) (ch := ch) (fun b hb => ⟨(hc b hb).2.2.2.1, (hc b hb).2.1, (hc b hb).2.2.2.2.1, (hc b hb).2.2.2.2.2⟩) (fun b o _ _ hn e _ => k b o hn e) (fun b o _ _ hn e _ => ⟨o.slots, k b o hn e⟩) (fun _ _ _ _ n => n)
    (fun b o hn e => ⟨o, k b o hn e⟩) (fun _ _ e => e) (fun _ _ _ e => e) (fun b ps e => ⟨#[], by rw [e]; simp⟩) (fun m hm => ?_) (fun b u e => ?_) I.bare
  · obtain ⟨o, es, ep, ho, r⟩ := hm
    exact ⟨o, es, ep, k _ o (fun z => (hc _ z).2.1 rfl) ho, r⟩
  · refine (I.hok b u e).stay (fun c v hcv q => k c v ?_ q) (fun _ q => q) fun _ _ q => q
    rcases hcv with z | z
    · rw [z]; exact nit b u e
    · exact nit c _ z
end
/-- pairs of the items of two lists -/
def Itz (l1 l2 : Addr) : It where
  go := fun i H => ∃ xs ys x y, H l1 = some (.lst xs) ∧ H l2 = some (.lst ys) ∧ xs[i]? = some x ∧ ys[i]? = some y
  yld := fun i H v H' => ∃ xs ys x y p, H l1 = some (.lst xs) ∧ H l2 = some (.lst ys) ∧ xs[i]? = some x ∧ ys[i]? = some y ∧ H p = none ∧ H' = upd H p (.tup [x, y]) ∧ v = .ref p
  stop := fun i H => ∃ xs ys, H l1 = some (.lst xs) ∧ H l2 = some (.lst ys) ∧ (xs.length ≤ i ∨ ys.length ≤ i)
def zipFp (n : Addr) : List Addr := [n + 4, n + 2, n + 3, n, n + 1]
def zipTn (n l1 l2 : Addr) (i : Nat) (h : Heap) : Prop := IsZip h (n + 4) (n + 2) (n + 3) .none ∧ IsPair h (n + 2) (.ref n) (.ref (n + 1)) ∧ (∃ a b, IsPair h (n + 3) a b) ∧ h.IsListIter n l1 i ∧ h.IsListIter (n + 1) l2 i
theorem zipApart_of {n l1 l2 : Nat} (h1 : l1 ∉ zipFp n) (h2 : l2 ∉ zipFp n) : ZipApart (n + 4) (n + 2) (n + 3) n (n + 1) l1 l2 := by
  unfold zipFp at h1 h2
  simp only [List.mem_cons, List.not_mem_nil, or_false, not_or] at h1 h2
  have nn : ∀ a b : Nat, a ≠ b → n + a ≠ n + b := fun a b h => by omega
  have n0 : ∀ a : Nat, a ≠ 0 → n ≠ n + a := fun a h => by omega
  exact ⟨nn 2 4 (by decide), nn 3 4 (by decide), n0 4 (by decide), nn 1 4 (by decide), nn 2 3 (by decide), (n0 2 (by decide)).symm, nn 2 1 (by decide), (n0 3 (by decide)).symm, nn 3 1 (by decide), n0 1 (by decide), h1.1, h1.2.2.1, h1.2.2.2.1, h1.2.2.2.2, h2.1, h2.2.2.1, h2.2.2.2.1, h2.2.2.2.2⟩
theorem turn_zip {P : Program} {w : World} {K : PySem.W.Frag} {elts : List Expr} {x1} {pos : Pos} (n l1 l2 : Addr) : Turn P w K (.Tuple elts x1 pos) (Itz l1 l2) (zipFp n) (n + 4) (zipTn n l1 l2) where
  mem := by simp [zipFp]
  obj := fun i h st b hb => by
    obtain ⟨hz, hTI, ⟨a, c, hTO⟩, ⟨o1, e1, c1, d1⟩, ⟨o2, e2, c2, d2⟩⟩ := st
    unfold zipFp at hb
    simp only [List.mem_cons, List.not_mem_nil, or_false] at hb
    rcases hb with rfl | rfl | rfl | rfl | rfl
    · exact ⟨_, hz, fun v z => by cases z⟩
    · exact ⟨_, hTI, fun v z => by cases z⟩
    · exact ⟨_, hTO, fun v z => by cases z⟩
    · exact ⟨o1, e1, fun v z => by rw [d1] at z; cases z⟩
    · exact ⟨o2, e2, fun v z => by rw [d2] at z; cases z⟩
  keep := fun i h h' st k => by
    obtain ⟨hz, hTI, ⟨a, c, hTO⟩, h1, h2⟩ := st
    exact ⟨k _ (by simp [zipFp]) _ hz, k _ (by simp [zipFp]) _ hTI, ⟨a, c, k _ (by simp [zipFp]) _ hTO⟩, h1.at fun o e => k _ (by simp [zipFp]) o e, h2.at fun o e => k _ (by simp [zipFp]) o e⟩
  item := by
    intro X hP hw hK hc i pins s σ H E I hf st hg
    subst hP hw hK
    obtain ⟨hz, hTI, ⟨a, c, hTO⟩, h1, h2⟩ := st
    obtain ⟨xs, ys, x, y, q1, q2, hx, hy⟩ := hg
    obtain ⟨_, its1, n1, r1, _, e1⟩ := I.lstM q1
    obtain ⟨_, its2, n2, r2, _, e2⟩ := I.lstM q2
    have L1 : s.heap.IsList l1 its1.toArray := ⟨_, e1, rfl, _, rfl⟩
    have L2 : s.heap.IsList l2 its2.toArray := ⟨_, e2, rfl, _, rfl⟩
    obtain ⟨u, hu, ru⟩ := r1.get hx
    obtain ⟨v, hv, rv⟩ := r2.get hy
    have D : ZipApart (n + 4) (n + 2) (n + 3) n (n + 1) l1 l2 := zipApart_of (fun z => by rw [(hf _ z).1] at q1; cases q1) (fun z => by rw [(hf _ z).1] at q2; cases q2)
    refine wpAny_pyNext_zip_item D hz hTI hTO h1 h2 L1 L2 (x := u) (y := v) (by simpa using hu) (by simpa using hv) fun h' a1 a2 a3 a4 a5 a6 hk => ?_
    have I1 : Inv X pins σ H { s with heap := h' } := I.turnedL (ch := zipFp n) (t' := s.toks) (fun b o hb e => by
      unfold zipFp at hb
      simp only [List.mem_cons, List.not_mem_nil, or_false, not_or] at hb
      exact hk b o hb.1 hb.2.2.1 hb.2.2.2.1 hb.2.2.2.2 e) hf
    refine ⟨.ref s.heap.objs.size, rfl, wpAny_letOwnedTupleGo_zip a1 fun h2' hz' hs' => ?_⟩
    have I2 : Inv X pins σ H { s with heap := h2' } := I1.turnedL (s := { s with heap := h' }) (ch := zipFp n) (t' := s.toks) (fun b o hb e => by
      unfold zipFp at hb
      simp only [List.mem_cons, List.not_mem_nil, or_false, not_or] at hb
      exact hs'.extBut _ _ hb.1 e) hf
    have fresh : H s.heap.objs.size = none := I.hok.fresh (Nat.le_refl _)
    have pz : s.heap.objs.size ≠ n + 4 := Nat.ne_of_gt (Heap.lt_size hz)
    have I3 : Inv X pins σ (upd H s.heap.objs.size (.tup [x, y])) { s with heap := h2' } := by
      refine I2.track fresh ?_ (Nat.ne_of_gt I.lt) (fun z c' e e2' => ?_) (fun p hp e2' => ?_) ?_
      · cases q : X.s₀.heap.get? s.heap.objs.size with
        | none => rfl
        | some o => exact absurd (Nat.lt_of_lt_of_le (Heap.lt_size q) I.sz) (Nat.lt_irrefl _)
      · obtain ⟨v', q⟩ := I.cell z c' e
        exact absurd (e2' ▸ q.lt) (Nat.lt_irrefl _)
      · exact absurd (e2' ▸ Heap.lt_size (I.pin p hp).1) (Nat.lt_irrefl _)
      · exact ⟨by show 2 ≤ sizeLine; decide, [u, v], .cons ru (.cons rv .nil), ⟨_, hs'.extBut _ _ pz a5, rfl, _, rfl⟩⟩
    have hpn : ∀ b ∈ zipFp n, b ≠ s.heap.objs.size := fun b hb e => by
      have q3 : ∃ o, s.heap.get? b = some o := by
        unfold zipFp at hb
        simp only [List.mem_cons, List.not_mem_nil, or_false] at hb
        obtain ⟨o1, g1, _⟩ := h1
        obtain ⟨o2, g2, _⟩ := h2
        rcases hb with rfl | rfl | rfl | rfl | rfl
        · exact ⟨_, hz⟩
        · exact ⟨_, hTI⟩
        · exact ⟨_, hTO⟩
        · exact ⟨_, g1⟩
        · exact ⟨_, g2⟩
      obtain ⟨o, q3⟩ := q3
      exact absurd (e ▸ Heap.lt_size q3) (Nat.lt_irrefl _)
    have hTI' : IsPair h' (n + 2) (.ref n) (.ref (n + 1)) := hk _ _ D.TIz D.TITO D.TIi1 D.TIi2 hTI
    refine ⟨.ref s.heap.objs.size, _, I3, rfl, ⟨xs, ys, x, y, _, q1, q2, hx, hy, fresh, rfl, rfl⟩, ⟨hz', hs'.extBut _ _ D.TIz hTI', ⟨_, _, hs'.extBut _ _ D.TOz a2⟩, a3.extBut hs'.extBut D.i1z, a4.extBut hs'.extBut D.i2z⟩, fun b hb => ?_⟩
    rw [upd_ne (hpn b hb)]; exact (hf b hb).1
  done := by
    intro X hP hw hK hc i pins s σ H E I hf st hg
    subst hP hw hK
    obtain ⟨hz, hTI, ⟨a, c, hTO⟩, h1, h2⟩ := st
    obtain ⟨xs, ys, q1, q2, hl⟩ := hg
    obtain ⟨_, its1, n1, r1, l1', e1⟩ := I.lstM q1
    obtain ⟨_, its2, n2, r2, l2', e2⟩ := I.lstM q2
    have L1 : s.heap.IsList l1 its1.toArray := ⟨_, e1, rfl, _, rfl⟩
    have L2 : s.heap.IsList l2 its2.toArray := ⟨_, e2, rfl, _, rfl⟩
    have D : ZipApart (n + 4) (n + 2) (n + 3) n (n + 1) l1 l2 := zipApart_of (fun z => by rw [(hf _ z).1] at q1; cases q1) (fun z => by rw [(hf _ z).1] at q2; cases q2)
    refine wpAny_pyNext_zip_end (I.ok.hd hc) D hz hTI hTO h1 h2 L1 L2 ?_ fun h' hk => ⟨rfl, I.turnedL (ch := zipFp n) (t' := s.toks) (fun b o hb e => ?_) hf⟩
    · rcases hl with h | h
      · exact .inl (by rw [List.getElem?_toArray, List.getElem?_eq_none (by omega)])
      · exact .inr (by rw [List.getElem?_toArray, List.getElem?_eq_none (by omega)])
    · unfold zipFp at hb
      simp only [List.mem_cons, List.not_mem_nil, or_false, not_or] at hb
      exact hk b o hb.1 hb.2.2.1 hb.2.2.2.1 hb.2.2.2.2 e
  self := fun _ _ _ _ _ st h => wpAny_pyIter_zip st.1 h
section
variable {X : Cx}
def iZip (ta : TA) : TI := fun σ H R => ta σ H fun vs H1 => ∃ l1 l2 xs ys, vs = [.ref l1, .ref l2] ∧ H1 l1 = some (.lst xs) ∧ H1 l2 = some (.lst ys) ∧ R (Itz l1 l2) H1
theorem pi_zip {a b : Expr} {ta : TA} {p pos tpos : Pos} {elts : List Expr} {x1} (hg : Gl X "zip") (hm : X.mg "zip" = none) (ha : PA X [a, b] ta) (hs : starEach [a, b] X.env = [(false, eval a X.env), (false, eval b X.env)]) (hs2 : starEach [b] X.env = [(false, eval b X.env)]) :
    PI X (.Tuple elts x1 tpos) (.Call (.Name "zip" p) [a, b] [] pos) (iZip ta) := by
  intro pins s σ H R I h
  refine Call_ (ld_blt I hg hm boot_zip (PyProof.Rows.callWith_type1 (thn (ha pos pins s σ H _ I h) fun us s1 ⟨vs, H1, I1, r1, q1⟩ => ?_) (by rw [hs, hs2]) (by rw [hs2]; rfl)))
  obtain ⟨l1, l2, xs, ys, e, q1, q2, q⟩ := q1
  subst e
  cases r1 with
  | cons r rr =>
    cases rr with
    | cons r' rr =>
      cases rr
      cases r
      cases r'
      obtain ⟨_, its1, n1, v1, _, e1⟩ := I1.lstM q1
      obtain ⟨_, its2, n2, v2, _, e2⟩ := I1.lstM q2
      refine call_zip_2 (xs := its1.toArray) (ys := its2.toArray) ⟨_, e1, rfl, _, rfl⟩ ⟨_, e2, rfl, _, rfl⟩ fun h' g1 g2 g3 g4 g5 g6 hk => ?_
      have I2 : Inv X pins σ H1 { s1 with heap := h' } := I1.kept (t' := s1.toks) fun b o e => hk b o e
      refine wpAny_pyIter_zip (s := { s1 with heap := h' }) g1 ?_
      refine ⟨s1.heap.objs.size + 4, zipFp s1.heap.objs.size, zipTn s1.heap.objs.size l1 l2, Itz l1 l2, H1, rfl, I2, turn_zip _ _ _, ⟨g1, g2, ⟨_, _, g3⟩, g4, g5⟩, fun b hb => ?_, q⟩
      have hge : s1.heap.objs.size ≤ b := by
        unfold zipFp at hb
        simp only [List.mem_cons, List.not_mem_nil, or_false] at hb
        rcases hb with rfl | rfl | rfl | rfl | rfl
        · exact Nat.le_add_right _ 4
        · exact Nat.le_add_right _ 2
        · exact Nat.le_add_right _ 3
        · exact Nat.le_refl _
        · exact Nat.le_add_right _ 1
      have f0 := I1.fpOk (H' := H1) hge (I1.hok.fresh hge)
      exact f0
theorem qi_zip {a b : Expr} {ta : TA} {p pos tpos : Pos} {elts : List Expr} {x1} (hg : Gl X "zip") (hm : X.mg "zip" = none) (ha : QA X [a, b] ta) (hs : starEach [a, b] X.env = [(false, eval a X.env), (false, eval b X.env)] := by rfl) (hs2 : starEach [b] X.env = [(false, eval b X.env)] := by rfl) :
    QI X (.Tuple elts x1 tpos) (.Call (.Name "zip" p) [a, b] [] pos) (iZip ta) := ⟨pi_zip hg hm ha.run hs hs2⟩
end
/-- over two lists that the body leaves as they are -/
theorem for_zip {l1 l2 : Addr} {xs ys : List V} {g : TG} {tb : TS} {D : Ends} {σ : St} {H : Hp} (Pv : Nat → St → Hp → Prop) (h0 : Pv 0 σ H) (hl : ∀ i σ H, Pv i σ H → H l1 = some (.lst xs) ∧ H l2 = some (.lst ys)) (hxy : xs.length = ys.length)
    (hs : ∀ i x y σ H p, xs[i]? = some x → ys[i]? = some y → Pv i σ H → H p = none → g (.ref p) σ (upd H p (.tup [x, y])) fun σ2 H2 => tb { D with nx := Pv (i + 1), ct := Pv (i + 1), bk := D.nx } σ2 H2) (hd : ∀ σ H, Pv xs.length σ H → D.nx σ H) :
    ∃ W : Nat → Nat → St → Hp → Prop, (∃ m, W 0 m σ H) ∧ ∀ i m σ H, W i m σ H →
      ((Itz l1 l2).stop i H ∧ D.nx σ H) ∨ ((Itz l1 l2).go i H ∧ ∃ N : St → Hp → Prop, (∀ σ' H', N σ' H' → ∃ m', m' < m ∧ W (i + 1) m' σ' H') ∧ ∀ x H', (Itz l1 l2).yld i H x H' → g x σ H' fun σ2 H2 => tb { D with nx := N, ct := N, bk := D.nx } σ2 H2) := by
  refine ⟨fun i m σ H => m = xs.length - i ∧ i ≤ xs.length ∧ Pv i σ H, ⟨xs.length, by simp, Nat.zero_le _, h0⟩, ?_⟩
  rintro i m σ H ⟨rfl, hi, p⟩
  obtain ⟨q1, q2⟩ := hl i σ H p
  by_cases hlt : i < xs.length
  · refine .inr ⟨⟨xs, ys, xs[i], ys[i], q1, q2, by simp [hlt], by simp [show i < ys.length by omega]⟩, Pv (i + 1), fun σ' H' p' => ⟨xs.length - (i + 1), by omega, rfl, hlt, p'⟩, fun x H' y => ?_⟩
    obtain ⟨xs', ys', x', y', p', g1, g2, hx, hy, hn, rfl, rfl⟩ := y
    rw [q1] at g1
    rw [q2] at g2
    cases g1
    cases g2
    exact hs i x' y' σ H p' hx hy p hn
  · have e : i = xs.length := by omega
    subst e
    exact .inl ⟨⟨xs, ys, q1, q2, .inl (Nat.le_refl _)⟩, hd σ H p⟩
end L2

set_option Elab.async false
set_option linter.all false
set_option maxRecDepth 100000
set_option maxHeartbeats 4000000
/-! x = [.. for ..] on one row: the store comes ahead of the block's end -/
namespace L2
open PySem PySem.Spec PyProof.Rows
section
variable {X : Cx}
theorem ps_setcomp {elt iter : Expr} {x yv : Str} {px pos py pos2 : Pos} {iy : Nat} {ifs : List Expr} {sc : Scope} {cl : List (Str × Addr)} {ix : List Nat} {wi : TI} {tc : TT} {te : TE} (N : List Str) (hNd : X.N.Nodup) (hiy : X.N[iy]? = some yv) (hyv : Loc X.env.scope yv) (hsw : swapsWith (.ListComp elt [⟨.Name x px, iter, ifs, 0⟩] sc pos) (some (.Name yv py)) pos2.line X.env = pure true) (hfy : X.fn yv = true ∨ X.env.scope.names.lookup yv = some .local)
    (hc : X.calm = true) (hi : PI X (.Name x px) iter wi) (hif : ∀ s H C ex, PTs (blk X N s H sc cl C ex) ifs tc) (he : ∀ s H C ex, PE (blk X N s H sc cl C ex) elt te)
    (hkind : sc.kind = .function) (hN : N = x :: ix.map fun j => (X.N[j]?).getD "") (hnd : N.Nodup) (hx : sc.names.lookup x = some .local)
    (hcl : closureFor sc X.env = pure cl) (hcell : ∀ y ∈ sc.names, y.2 ≠ .cell) (hnames : ∀ y ∈ sc.names, y.2 = .local → sc.names.lookup y.1 = some .local)
    (hsub : ∀ y c, cl.lookup y = some c → X.env.cells.lookup y = some c) (hhas : ∀ y, ((relabel sc X.env).names.lookup y = some .cell ∨ (relabel sc X.env).names.lookup y = some .free) → ∃ c, cl.lookup y = some c)
    (hix : ∀ j ∈ ix, ∃ y, X.N[j]? = some y ∧ X.env.kindOf y = some .cell ∧ (relabel sc X.env).names.lookup y = some .cell)
    (hs : ∀ x, foldedSetIterable iter X.env x = pure x := by intro _; rfl) :
    PS X (.Assign [.Name yv py] (.ListComp elt [⟨.Name x px, iter, ifs, 0⟩] sc pos) pos2) (tAsg (tComp ix wi tc te) (gName iy)) := by
  intro pins s σ H D0 I h
  rw [exec_Assign_Name_used _ _ _ _ hsw]
  refine wpAny_bind (wpAny_standAt (wpAny_bind ?_))
  show wpAny _ _ (comprehension _ _ _ _ _ _ _ _ >>= _) _ _ _
  refine wpAny_bind (wpAny_mono (Q := fun _ s' => SP X pins D0 .next s') (wpAny_comprehension_free (use := some (assign (.Name yv py) X.env)) rfl hs hcl hkind hnames ?_) (fun _ s' q => wpAny_pure (wpAny_pure q)) fun _ _ y => y)
  refine thn (hi pins s σ H _ I h) fun v s1 h1 => thn h1 fun itv s2 h2 => ?_
  obtain ⟨it, fp, tn, J, H2, e, I2, T, st2, f2, q2⟩ := h2
  subst e
  have fr2 : H2 s2.heap.objs.size = none := I2.hok.fresh (Nat.le_refl _)
  obtain ⟨W, ⟨m0, w0⟩, turn⟩ := q2 s2.heap.objs.size fr2
  refine wpAny_newObj_type ?_
  have I3 : Inv X pins σ (upd H2 s2.heap.objs.size (.lst [])) { s2 with heap := s2.heap.push { cls := .type "list", dict := none, data := .seq ([] : List Value).toArray } } := by
    exact I2.lnew (its := []) (ys := []) (t' := s2.toks) .nil (Nat.zero_le _)
  have lt2 : ∀ b ∈ fp, b < s2.heap.objs.size := fun b hb => by
    obtain ⟨o, ho, _⟩ := T.obj _ _ st2 b hb
    exact Heap.lt_size ho
  have f3 : ∀ b ∈ fp, FpOk X pins (upd H2 s2.heap.objs.size (.lst [])) b := fun b hb => ⟨by rw [upd_ne (Nat.ne_of_lt (lt2 b hb))]; exact (f2 b hb).1, (f2 b hb).2⟩
  generalize hs3 : ({ s2 with heap := s2.heap.push { cls := .type "list", dict := none, data := .seq ([] : List Value).toArray } } : Shared) = s3 at I3
  have hsz3 : s2.heap.objs.size ≤ s3.heap.objs.size := by rw [← hs3]; show _ ≤ (s2.heap.push _).objs.size; rw [Heap.size_push]; exact Nat.le_succ _
  have tn3 : tn 0 s3.heap := T.keep _ _ _ st2 fun b _ o e => by rw [← hs3]; exact Heap.get?_push_of_some _ e
  have lt3 : ∀ b ∈ fp, b < s3.heap.objs.size := fun b hb => Nat.lt_of_lt_of_le (lt2 b hb) hsz3
  refine wpAny_newFunctionEnv hcell (by intro y hy; simp at hy) (fun h4 hns4 hsb4 => ?_) hkind
  have old : ∀ b o, s3.heap.get? b = some o → h4.get? b = some o := fun b o e => hsb4.extBut b o (Nat.ne_of_lt (Heap.lt_size e)) (Heap.get?_push_of_some _ e)
  have I4 := inv_blk (m := _) (tk := s3.toks + ([] : List (Str × Value)).length) (N := N) I3 hkind hN hsub hhas hix f3 lt3 hns4 old
  have tn4 : tn 0 h4 := T.keep _ _ _ tn3 fun b _ o e => old b o e
  have fpB : ∀ {H' : Hp}, (∀ b ∈ fp, H' b = none) → ∀ b ∈ fp, FpOk (blk X N s3 (upd H2 s2.heap.objs.size (.lst [])) sc cl s3.heap.objs.size fp) [] H' b := fun {H'} hn b hb =>
    ⟨hn b hb, Nat.ne_of_lt (lt3 b hb), I4.ok.exfs b hb, .inl hb, fun y c e => (I4.ok.exf b hb).2 y c e, fun p hp => absurd (show p ∈ ([] : List (Addr × Obj)) from hp) (by simp)⟩
  have loop : codeAny (model X.prog X.w) X.A (.compLoop (.ListComp elt [⟨.Name x px, iter, ifs, 0⟩] sc pos) 0 (.ref it) (.ref s2.heap.objs.size) (compEnvC sc cl s3.heap.objs.size X.env))
      (compPost (model X.prog X.w) X.A X.xe (some (assign (.Name yv py) X.env)) (fun _ s' => SP X pins D0 .next s') (.ref s2.heap.objs.size) s3.heap.objs.size) { s3 with heap := h4, toks := s3.toks + ([] : List (Str × Value)).length } := by
    refine compLoop_go (fun n s' => ∃ i v0 H', Inv (blk X N s3 (upd H2 s2.heap.objs.size (.lst [])) sc cl s3.heap.objs.size fp) [] (v0 :: frees σ ix) H' s' ∧ tn i s'.heap ∧ (∀ b ∈ fp, H' b = none) ∧ W i n H') ?_ m0
      ⟨0, none, _, I4, tn4, fun b hb => (f3 b hb).1, w0⟩
    rintro n s5 ⟨i, v0, H5, I5, st5, fr5, w5⟩
    rcases turn i n H5 w5 with ⟨stop, qn⟩ | ⟨go, step⟩
    · refine thn (T.done (blk X N s3 (upd H2 s2.heap.objs.size (.lst [])) sc cl s3.heap.objs.size fp) rfl rfl rfl hc i [] s5 _ H5 _ I5 (fpB fr5) st5 stop) fun r s6 ⟨hr, I6⟩ => ?_
      subst hr
      obtain ⟨mm, hm, _⟩ := I6.loc
      have I7 : Inv X pins σ H5 s6 := by
        have hC : H5 s3.heap.objs.size = none := I6.free
        have hc3 : s3.heap.get? s3.heap.objs.size = none := Heap.get?_none_of_le (Nat.le_refl _)
        have up : ∀ b o, b ≠ s3.heap.objs.size → s6.heap.get? b = some o → s6.heap.get? b = some o := fun b o hb e => e
        have neC : ∀ b o, s3.heap.get? b = some o → b ≠ s3.heap.objs.size := fun b o e => Nat.ne_of_lt (Heap.lt_size e)
        have u := I6.base
        refine I3.call' (s' := s6) (ch := fp) I6.os ⟨fun b o e n hb hx => ?_, fun b o e n hb hx => ?_, fun b o e n hx => u.free b o e n hx, fun b o e hx => ?_, u.tups, u.frzs, u.tbls⟩ (fun b o e => ?_) I6.bare fun b hb => ⟨(f3 b hb).2.2.2.1, (f3 b hb).2.1, (f3 b hb).2.2.2.2.1, (f3 b hb).2.2.2.2.2⟩
        · exact up b o (neC b o e) (u.keep b o e n hb hx)
        · obtain ⟨sl, e1⟩ := u.slot b o e n hb hx
          exact ⟨sl, up b _ (neC b o e) e1⟩
        · obtain ⟨o', e1⟩ := u.there b o e hx
          exact ⟨o', up b _ (neC b o e) e1⟩
        · refine (I6.hok b o e).stay (fun c v hc' q => up c v ?_ q) (fun _ q => q) fun _ _ q => q
          rintro rfl
          rcases hc' with z | z
          · rw [← z, hC] at e; cases e
          · rw [hC] at z; cases z
      have hCn : H5 s3.heap.objs.size = none := I6.free
      have hCl : s3.heap.objs.size ≠ X.env.locals := Nat.ne_of_gt I3.lt
      have hCc : ∀ z c, X.env.cells.lookup z = some c → c ≠ s3.heap.objs.size := fun z c e e2 => by
        obtain ⟨v', q⟩ := I3.cell z c e
        exact absurd (e2 ▸ q.lt) (Nat.lt_irrefl _)
      refine wpAny_assign_Name (store_ok2 I7 hNd hiy hyv (show RelV (V.ref s2.heap.objs.size) (Value.ref s2.heap.objs.size) from rfl) (fun s8 I8 hsb => ?_) hfy)
      obtain ⟨a8, sb8, ha8⟩ := hsb
      have hna : s3.heap.objs.size ≠ a8 := by
        rcases ha8 with z | z
        · rw [z]; exact hCl
        · exact Ne.symm (hCc _ _ z)
      obtain ⟨oC, esC, epC, hoC, rC⟩ := hm
      refine ⟨mm, ⟨oC, esC, epC, sb8.extBut _ _ hna hoC, rC⟩, fun h9 sb9 => ?_⟩
      refine ⟨_, H5, I8.turned (t' := s8.toks) (it := s3.heap.objs.size) (fun b o hb e => sb9.extBut b o hb e) hCn hCl (.inr I3.sz) hCc (fun p hp e2 => ?_), qn⟩
      exact absurd (e2 ▸ Heap.lt_size (I3.pin p hp).1) (Nat.lt_irrefl _)
    · refine thn (T.item (blk X N s3 (upd H2 s2.heap.objs.size (.lst [])) sc cl s3.heap.objs.size fp) rfl rfl rfl hc i [] s5 _ H5 _ I5 (fpB fr5) st5 go) fun r s6 ⟨u, hr, h6⟩ => ?_
      subst hr
      refine thn h6 fun _ s7 ⟨y, H7, I7, r7, y7, st7, fr7⟩ => ?_
      have I7' := I7.pinned (fpB fr7) (T.obj _ _ st7)
      refine wpAny_assign_Name (store_ok (i := 0) I7' hnd (by show N[0]? = some x; rw [hN]; rfl) (.inl (lookup_relabel_local hx)) r7 (fun s8 I8 => ?_) (.inr (lookup_relabel_local hx)))
      have I8' : Inv (blk X N s3 (upd H2 s2.heap.objs.size (.lst [])) sc cl s3.heap.objs.size fp) ([] ++ pinsAt fp s7.heap) (some y :: frees σ ix) H7 s8 := I8
      refine thn (hif _ _ _ _ _ s8 _ H7 _ I8' (step y H7 y7)) fun ok s9 ⟨H9, I9, q9⟩ => ?_
      have again : ∀ {H' : Hp} {s' : Shared} {m' : Nat}, Inv (blk X N s3 (upd H2 s2.heap.objs.size (.lst [])) sc cl s3.heap.objs.size fp) ([] ++ pinsAt fp s7.heap) (some y :: frees σ ix) H' s' → m' < n → W (i + 1) m' H' →
          ∃ m, m < n ∧ ∃ i v0 H', Inv (blk X N s3 (upd H2 s2.heap.objs.size (.lst [])) sc cl s3.heap.objs.size fp) [] (v0 :: frees σ ix) H' s' ∧ tn i s'.heap ∧ (∀ b ∈ fp, H' b = none) ∧ W i m H' := fun {H' s' m'} Ia hm wa => by
        refine ⟨m', hm, i + 1, some y, H', Ia.unpinned, T.keep _ _ _ st7 fun b hb o e => (Ia.pin (b, o) (List.mem_append_right _ (List.mem_append_right _ (mem_pinsAt hb e)))).1, fun b hb => ?_, wa⟩
        obtain ⟨o, e, d⟩ := T.obj _ _ st7 b hb
        exact (Ia.pin (b, o) (List.mem_append_right _ (List.mem_append_right _ (mem_pinsAt hb e)))).2.1
      cases ok with
      | false =>
        rw [if_neg Bool.false_ne_true] at q9 ⊢
        obtain ⟨m', hm, wa⟩ := q9
        exact again I9 hm wa
      | true =>
        rw [if_pos rfl] at q9 ⊢
        refine thn (he _ _ _ _ _ s9 _ H9 _ I9 q9) fun v10 s10 ⟨z, H10, I10, r10, ys, hD, hl, m', hm, wa⟩ => ?_
        exact thn (mt_append _ s10 _ H10 (.ref s2.heap.objs.size) [z] (.ref s2.heap.objs.size) [v10] (fun _ H' => H' = upd H10 s2.heap.objs.size (.lst (ys ++ [z]))) I10 rfl (.cons r10 .nil) ⟨_, ys, z, rfl, rfl, hD, hl, rfl⟩)
          fun _ s11 ⟨_, H11, I11, _, e11⟩ => again I11 hm (by rw [e11]; exact wa)
  subst hs3
  exact codeAny_compStart_list loop (T.self _ 0 _ _ _ tn4 loop)
end
end L2

set_option Elab.async false
set_option linter.all false
set_option maxRecDepth 100000
set_option maxHeartbeats 4000000
/-! zip over two tuples: one draw of a tuple's iterator, one turn of the zip -/
namespace L2
open PySem PySem.Spec PyProof.Rows
section
variable {prog : Program} {w : World} {A : Around} {E : Value → Shared → Prop} {u : Shared}
/-- the next item of a tuple's iterator -/
theorem drawT {j q : Addr} {k : Nat} {vals : Array Value} {v : Value} {R : Value → Shared → Prop} (a1 : u.heap.IsTupleIter j q k) (a2 : u.heap.IsTuple q vals) (a3 : vals[k]? = some v)
    (hR : ∀ g, g.IsTupleIter j q (k + 1) → Heap.SameBut j u.heap g → R v { u with heap := g }) : wpAny (model prog w) A (Builtin.SmallTypes.nextOf (.ref j)) R E u := by
  obtain ⟨o, b1, b2, b3⟩ := id a1
  obtain ⟨p, c1, c0, m, c2⟩ := a2
  have ty := a1.typeIs
  unfold Builtin.SmallTypes.nextOf
  refine wpAny_bind (wpAny_callSpecial?_slot ty F.slot_tuple_iterator_next (wpAny_call_entry F.slot_tuple_iterator_next ty F.entry_tuple_iterator_next ?_ (F.args_tuple_iterator_next_1 _)))
  show wpAny (model prog w) _ (field (.ref j) 0 >>= _) _ _ u
  refine wpAny_bind (wpAny_field b1 b3 (x := .ref q) rfl ?_)
  have nn : ¬ (Value.ref q == Value.none) = true := Bool.false_ne_true
  show wpAny (model prog w) _ (if (Value.ref q == Value.none) = true then _ else _) _ _ u
  rw [if_neg nn]
  show wpAny (model prog w) _ (field (.ref j) 1 >>= _) _ _ u
  refine wpAny_bind (wpAny_field b1 b3 (x := .int k 0) rfl ?_)
  show wpAny (model prog w) _ (seqItems? (.ref q) >>= _) _ _ u
  refine wpAny_bind (wpAny_seqItems c1 c2 ?_)
  simp only [Int.toNat_natCast, a3]
  have kept : ∀ f : Array Value → Array Value, (u.heap.update j (Obj.mapFields f)).get? j = some (Obj.mapFields f o) := fun f => Heap.get?_update_self _ b1 (Obj.isFreed_of_fields (Obj.data_mapFields b3 _))
  refine wpAny_bind (wpAny_setField b1 b3 (by simp) (wpAny_pure ⟨v, rfl, wpAny_pure (hR _ ⟨_, kept _, ?_, ?_⟩ (Heap.SameBut.update ..))⟩))
  · rw [Obj.cls_mapFields]; exact b2
  · rw [Obj.data_mapFields b3]; simp [rawInt]
/-- a tuple's iterator at its end -/
theorem drawT_end {j q : Addr} {k : Nat} {vals : Array Value} {R : Value → Shared → Prop} (hh : A.handled = none) (a1 : u.heap.IsTupleIter j q k) (a2 : u.heap.IsTuple q vals) (a3 : vals[k]? = none)
    (hE : ∀ g e, Heap.ExtBut j u.heap g → (∃ o, g.get? e = some o ∧ o.cls = .type "StopIteration") → E (.ref e) { u with heap := g }) : wpAny (model prog w) A (Builtin.SmallTypes.nextOf (.ref j)) R E u := by
  obtain ⟨o, b1, b2, b3⟩ := id a1
  obtain ⟨p, c1, c0, m, c2⟩ := a2
  have ty := a1.typeIs
  unfold Builtin.SmallTypes.nextOf
  refine wpAny_bind (wpAny_callSpecial?_slot ty F.slot_tuple_iterator_next (wpAny_call_entry F.slot_tuple_iterator_next ty F.entry_tuple_iterator_next ?_ (F.args_tuple_iterator_next_1 _)))
  show wpAny (model prog w) _ (field (.ref j) 0 >>= _) _ _ u
  refine wpAny_bind (wpAny_field b1 b3 (x := .ref q) rfl ?_)
  have nn : ¬ (Value.ref q == Value.none) = true := Bool.false_ne_true
  show wpAny (model prog w) _ (if (Value.ref q == Value.none) = true then _ else _) _ _ u
  rw [if_neg nn]
  show wpAny (model prog w) _ (field (.ref j) 1 >>= _) _ _ u
  refine wpAny_bind (wpAny_field b1 b3 (x := .int k 0) rfl ?_)
  show wpAny (model prog w) _ (seqItems? (.ref q) >>= _) _ _ u
  refine wpAny_bind (wpAny_seqItems c1 c2 ?_)
  simp only [Int.toNat_natCast, a3]
  refine wpAny_bind (wpAny_rule (wpAny_bind (wpAny_setField b1 b3 (by simp) ?_)))
  show wpAny (model prog w) _ (newExc (.type "StopIteration") [] >>= _) _ _ _
  refine wpAny_bind ?_
  unfold newExc newTuple
  refine wpAny_bind (wpAny_newObj_type ?_ (by size_fits))
  refine wpAny_bind (m := firstArgMember _ _) (wpAny_of_eq (a := Value.none) (by simp only [firstArgMember]; rfl) (wpAny_newObj_type ?_ (by size_fits)))
  refine wpAny_raiseNew_none ?_ ?_
  · exact hh
  · exact hE _ _ (((Heap.SameBut.update ..).extBut.push _).push _) ⟨_, Heap.get?_push_size _ rfl, rfl⟩
/-- .. where the first tuple is at its end -/
theorem zipT_end {z ti to j1 j2 q1 q2 : Addr} {k1 : Nat} {xs : Array Value} {R : Option Value → Shared → Prop} (hh : A.handled = none) (D : ZipApart z ti to j1 j2 q1 q2) (g1 : IsZip u.heap z ti to .none) (g2 : IsPair u.heap ti (.ref j1) (.ref j2))
    (t1 : u.heap.IsTupleIter j1 q1 k1) (v1 : u.heap.IsTuple q1 xs) (hx : xs[k1]? = none) (hR : ∀ g, (∀ c o, c ≠ z → c ≠ j1 → u.heap.get? c = some o → g.get? c = some o) → R none { u with heap := g }) : wpAny (model prog w) A (pyNext (.ref z)) R E u := by
  have ty : u.TypeIs (.ref z) "zip" := ⟨_, g1, rfl⟩
  unfold pyNext
  refine wpAny_bind (wpAny_attempt (wpAny_callSpecial?_slot ty F.slot_zip_next (wpAny_call_entry F.slot_zip_next ty F.entry_zip_next ?_ (F.args_zip_next_1 _))))
  show wpAny (model prog w) _ (field (.ref z) 2 >>= _) _ _ u
  refine wpAny_bind (wpAny_field g1 rfl (x := .bool false) rfl ?_)
  show wpAny (model prog w) _ (field (.ref z) 3 >>= _) _ _ u
  refine wpAny_bind (wpAny_field g1 rfl (x := .ref ti) rfl (wpAny_bind (wpAny_seqItems g2 rfl ?_)))
  show wpAny (model prog w) _ (Builtin.SmallTypes.ownedTupleIsFree (.ref z) >>= _) _ _ u
  refine wpAny_bind ?_
  unfold Builtin.SmallTypes.ownedTupleIsFree
  refine wpAny_bind (wpAny_field g1 rfl (x := .none) rfl (wpAny_pure ?_))
  simp only [if_true]
  refine wpAny_bind (wpAny_rule (wpAny_bind (wpAny_field g1 rfl (x := .ref to) rfl (wpAny_bind (wpAny_setField_rec g1 (by simp) fun m1 y1 d1 => ?_)))))
  have z1 : IsZip m1 z ti to .ellipsis := y1
  refine wpAny_bind ?_
  simp only [List.zipIdx_cons, List.zipIdx_nil, List.forIn_cons, List.forIn_nil]
  refine wpAny_bind (wpAny_bind (wpAny_onRaise ?_))
  show wpAny (model prog w) _ (Builtin.SmallTypes.nextOf (.ref j1) >>= _) _ _ _
  refine wpAny_bind (drawT_end hh (t1.extBut d1.extBut D.i1z) (v1.extBut d1.extBut D.l1z) hx fun m2 e d2 he => ?_)
  obtain ⟨oe, e1, e2⟩ := he
  have z2 : IsZip m2 z ti to .ellipsis := d2 _ _ D.i1z.symm z1
  have ne : e ≠ z := fun q => by
    subst q
    rw [z2] at e1
    cases e1
    simp at e2
  refine wpAny_setField_rec z2 (by simp) fun m3 _ d3 => ?_
  refine wpAny_bind (wpAny_isInstance (T := "StopIteration") (b := true) ⟨oe, d3.extBut _ _ ne e1, e2⟩ isSubtype_stop ?_)
  exact wpAny_pure (hR m3 fun c o n1 n3 q => d3.extBut _ _ n1 (d2 _ _ n3 (d1.extBut _ _ n1 q)))
end
/-- pairs of the items of two tuples -/
def Ity (K : PySem.W.Frag) (l1 l2 : Addr) : It where
  go := fun i H => ∃ xs ys x y, SqT K H l1 xs ∧ SqT K H l2 ys ∧ xs[i]? = some x ∧ ys[i]? = some y
  yld := fun i H v H' => ∃ x y p, (∀ xs, SqT K H l1 xs → xs[i]? = some x) ∧ (∀ ys, SqT K H l2 ys → ys[i]? = some y) ∧ H p = none ∧ H' = upd H p (.tup [x, y]) ∧ v = .ref p
  stop := fun i H => ∃ xs ys, SqT K H l1 xs ∧ SqT K H l2 ys ∧ xs.length ≤ i
/-- a tuple is no record of an iterator's -/
theorem sq_fp {X : Cx} {pins : List (Addr × Obj)} {σ : St} {H : Hp} {s : Shared} {l : Addr} {xs : List V} (I : Inv X pins σ H s) (h : SqT X.K H l xs) (f : FpOk X pins H l) : False := by
  rcases h with (q | ⟨o, q⟩) | ⟨o, its, n, q, _⟩
  · rw [f.1] at q; cases q
  · rw [f.1] at q; cases q
  · have e := I.ok.mod.kin _ _ q
    rcases f.2.2.2.1 with z | z
    · exact I.ok.noex l o e z
    · exact absurd (Nat.lt_of_lt_of_le (Heap.lt_size e) (Nat.le_trans I.ok.bsz z)) (Nat.lt_irrefl _)
def zipTt (n l1 l2 : Addr) (i : Nat) (h : Heap) : Prop := IsZip h (n + 4) (n + 2) (n + 3) .none ∧ IsPair h (n + 2) (.ref n) (.ref (n + 1)) ∧ (∃ a b, IsPair h (n + 3) a b) ∧ h.IsTupleIter n l1 i ∧ h.IsTupleIter (n + 1) l2 i
section
variable {X : Cx}
def iZipT (K : PySem.W.Frag) (ta : TA) : TI := fun σ H R => ta σ H fun vs H1 => ∃ l1 l2 xs ys, vs = [.ref l1, .ref l2] ∧ SqT K H1 l1 xs ∧ SqT K H1 l2 ys ∧ R (Ity K l1 l2) H1
end
end L2

set_option Elab.async false
set_option linter.all false
set_option maxRecDepth 100000
set_option maxHeartbeats 4000000
/-! zip over a tuple and a list -/
namespace L2
open PySem PySem.Spec PyProof.Rows
section
variable {prog : Program} {w : World} {A : Around} {E : Value → Shared → Prop} {u : Shared}
/-- one turn of a zip over two tuples -/
theorem zipU_item {z ti to j1 j2 q1 q2 : Addr} {k1 k2 : Nat} {xs ys : Array Value} {x y a b : Value} {R : Option Value → Shared → Prop} (D : ZipApart z ti to j1 j2 q1 q2) (g1 : IsZip u.heap z ti to .none) (g2 : IsPair u.heap ti (.ref j1) (.ref j2)) (g3 : IsPair u.heap to a b)
    (t1 : u.heap.IsTupleIter j1 q1 k1) (t2 : u.heap.IsListIter j2 q2 k2) (v1 : u.heap.IsTuple q1 xs) (v2 : u.heap.IsList q2 ys) (hx : xs[k1]? = some x) (hy : ys[k2]? = some y)
    (hR : ∀ g, IsZip g z ti to (rawInt u.heap.objs.size) → IsPair g to x y → g.IsTupleIter j1 q1 (k1 + 1) → g.IsListIter j2 q2 (k2 + 1) → IsPair g u.heap.objs.size x y →
      (∀ c o, c ≠ z → c ≠ to → c ≠ j1 → c ≠ j2 → u.heap.get? c = some o → g.get? c = some o) → R (some (.ref u.heap.objs.size)) { u with heap := g }) : wpAny (model prog w) A (pyNext (.ref z)) R E u := by
  have ty : u.TypeIs (.ref z) "zip" := ⟨_, g1, rfl⟩
  unfold pyNext
  refine wpAny_bind (wpAny_attempt (wpAny_callSpecial?_slot ty F.slot_zip_next (wpAny_call_entry F.slot_zip_next ty F.entry_zip_next ?_ (F.args_zip_next_1 _))))
  show wpAny (model prog w) _ (field (.ref z) 2 >>= _) _ _ u
  refine wpAny_bind (wpAny_field g1 rfl (x := .bool false) rfl ?_)
  show wpAny (model prog w) _ (field (.ref z) 3 >>= _) _ _ u
  refine wpAny_bind (wpAny_field g1 rfl (x := .ref ti) rfl (wpAny_bind (wpAny_seqItems g2 rfl ?_)))
  show wpAny (model prog w) _ (Builtin.SmallTypes.ownedTupleIsFree (.ref z) >>= _) _ _ u
  refine wpAny_bind ?_
  unfold Builtin.SmallTypes.ownedTupleIsFree
  refine wpAny_bind (wpAny_field g1 rfl (x := .none) rfl (wpAny_pure ?_))
  simp only [if_true]
  refine wpAny_bind (wpAny_rule (wpAny_bind (wpAny_field g1 rfl (x := .ref to) rfl (wpAny_bind (wpAny_setField_rec g1 (by simp) fun m1 y1 d1 => ?_)))))
  have z1 : IsZip m1 z ti to .ellipsis := y1
  refine wpAny_bind ?_
  simp only [List.zipIdx_cons, List.zipIdx_nil, List.forIn_cons, List.forIn_nil]
  -- the first one
  refine wpAny_bind (wpAny_bind (wpAny_onRaise ?_))
  show wpAny (model prog w) _ (Builtin.SmallTypes.nextOf (.ref j1) >>= _) _ _ _
  refine wpAny_bind (drawT (t1.extBut d1.extBut D.i1z) (v1.extBut d1.extBut D.l1z) hx fun m2 y2 d2 => wpAny_pure ?_)
  have o2 : IsPair m2 to a b := d2.extBut _ _ D.TOi1 (d1.extBut _ _ D.TOz g3)
  refine wpAny_bind (wpAny_seqItems o2 rfl (wpAny_bind (wpAny_updateSeq_pair o2 fun m3 y3 d3 => wpAny_bind (wpAny_letGo (wpAny_pure ?_)))))
  have o3 : IsPair m3 to x b := y3
  -- the second one
  refine wpAny_bind (wpAny_bind (wpAny_onRaise ?_))
  show wpAny (model prog w) _ (Builtin.SmallTypes.nextOf (.ref j2) >>= _) _ _ _
  have w2 := ((t2.extBut d1.extBut D.i2z).extBut d2.extBut D.i12.symm).extBut d3.extBut D.TOi2.symm
  have x2 := ((v2.extBut d1.extBut D.l2z).extBut d2.extBut D.l2i1).extBut d3.extBut D.l2TO
  refine wpAny_bind (wpAny_nextOf_list_item w2 x2 hy fun m4 y4 d4 => wpAny_pure ?_)
  have o4 : IsPair m4 to x b := d4.extBut _ _ D.TOi2 o3
  refine wpAny_bind (wpAny_seqItems o4 rfl (wpAny_bind (wpAny_updateSeq_pair o4 fun m5 y5 d5 => wpAny_bind (wpAny_letGo (wpAny_pure (wpAny_pure ?_))))))
  have o5 : IsPair m5 to x y := y5
  refine wpAny_bind (wpAny_seqItems o5 rfl (wpAny_bind (wpAny_newTuple ?_)))
  have sz : m5.objs.size = u.heap.objs.size := by rw [d5.1, d4.1, d3.1, d2.1, d1.1]
  have z5 : IsZip m5 z ti to .ellipsis := d5.extBut _ _ D.TOz.symm (d4.extBut _ _ D.i2z.symm (d3.extBut _ _ D.TOz.symm (d2.extBut _ _ D.i1z.symm z1)))
  have kp : ∀ c o, c ≠ z → c ≠ to → c ≠ j1 → c ≠ j2 → u.heap.get? c = some o → m5.get? c = some o := fun c o n1 n2 n3 n4 e => d5.extBut _ _ n2 (d4.extBut _ _ n4 (d3.extBut _ _ n2 (d2.extBut _ _ n3 (d1.extBut _ _ n1 e))))
  have p1 : m5.IsTupleIter j1 q1 (k1 + 1) := ((y2.extBut d3.extBut D.TOi1.symm).extBut d4.extBut D.i12).extBut d5.extBut D.TOi1.symm
  have p2 : m5.IsListIter j2 q2 (k2 + 1) := y4.extBut d5.extBut D.TOi2.symm
  show wpAny (model prog w) _ (Builtin.SmallTypes.ownedTupleHandOut (.ref z) (.ref m5.objs.size) >>= _) _ _ _
  refine wpAny_bind ?_
  unfold Builtin.SmallTypes.ownedTupleHandOut
  have z6 : IsZip (m5.push { cls := .type "tuple", data := .seq #[x, y] }) z ti to .ellipsis := Heap.get?_push_of_some _ z5
  refine wpAny_bind (wpAny_setField_rec z6 (by simp) fun m7 y7 d7 => ?_)
  have z7 : IsZip m7 z ti to (rawInt m5.objs.size) := y7
  refine wpAny_setField_rec z7 (by simp) fun m8 y8 d8 => ?_
  have z8 : IsZip m8 z ti to (rawInt m5.objs.size) := y8
  have lift : ∀ c o, c ≠ z → m5.get? c = some o → m8.get? c = some o := fun c o n1 e => d8.extBut _ _ n1 (d7.extBut _ _ n1 (Heap.get?_push_of_some _ e))
  have nz : m5.objs.size ≠ z := Nat.ne_of_gt (Heap.lt_size z5)
  have np : IsPair m8 m5.objs.size x y := d8.extBut _ _ nz (d7.extBut _ _ nz (Heap.get?_push_size _ rfl))
  rw [sz] at z8 np
  refine wpAny_pure ⟨_, rfl, wpAny_pure ?_⟩
  show R (some (.ref m5.objs.size)) _
  rw [sz]
  exact hR m8 z8 (lift _ _ D.TOz o5) (p1.at fun o e => lift _ o D.i1z e) (p2.at fun o e => lift _ o D.i2z e) np fun c o n1 n2 n3 n4 e => lift c o n1 (kp c o n1 n2 n3 n4 e)
end
/-- a list is no record of an iterator's -/
theorem sq_fpL {X : Cx} {pins : List (Addr × Obj)} {σ : St} {H : Hp} {s : Shared} {l : Addr} {xs : List V} (I : Inv X pins σ H s) (h : SqL X.K H l xs) (f : FpOk X pins H l) : False := by
  rcases h with (q | ⟨o, q⟩) | ⟨o, its, n, q, _⟩
  · rw [f.1] at q; cases q
  · rw [f.1] at q; cases q
  · have e := I.ok.mod.kin _ _ q
    rcases f.2.2.2.1 with z | z
    · exact I.ok.noex l o e z
    · exact absurd (Nat.lt_of_lt_of_le (Heap.lt_size e) (Nat.le_trans I.ok.bsz z)) (Nat.lt_irrefl _)
/-- pairs of the items of two tuples -/
def Itu (K : PySem.W.Frag) (l1 l2 : Addr) : It where
  go := fun i H => ∃ xs ys x y, SqT K H l1 xs ∧ SqL K H l2 ys ∧ xs[i]? = some x ∧ ys[i]? = some y
  yld := fun i H v H' => ∃ x y p, (∀ xs, SqT K H l1 xs → xs[i]? = some x) ∧ (∀ ys, SqL K H l2 ys → ys[i]? = some y) ∧ H p = none ∧ H' = upd H p (.tup [x, y]) ∧ v = .ref p
  stop := fun i H => ∃ xs ys, SqT K H l1 xs ∧ SqL K H l2 ys ∧ xs.length ≤ i
def zipUt (n l1 l2 : Addr) (i : Nat) (h : Heap) : Prop := IsZip h (n + 4) (n + 2) (n + 3) .none ∧ IsPair h (n + 2) (.ref n) (.ref (n + 1)) ∧ (∃ a b, IsPair h (n + 3) a b) ∧ h.IsTupleIter n l1 i ∧ h.IsListIter (n + 1) l2 i
theorem turn_zipU {P : Program} {w : World} {K : PySem.W.Frag} {elts : List Expr} {x1} {pos : Pos} (n l1 l2 : Addr) : Turn P w K (.Tuple elts x1 pos) (Itu K l1 l2) (zipFp n) (n + 4) (zipUt n l1 l2) where
  mem := by simp [zipFp]
  obj := fun i h st b hb => by
    obtain ⟨hz, hTI, ⟨a, c, hTO⟩, ⟨o1, e1, c1, d1⟩, ⟨o2, e2, c2, d2⟩⟩ := st
    unfold zipFp at hb
    simp only [List.mem_cons, List.not_mem_nil, or_false] at hb
    rcases hb with rfl | rfl | rfl | rfl | rfl
    · exact ⟨_, hz, fun v z => by cases z⟩
    · exact ⟨_, hTI, fun v z => by cases z⟩
    · exact ⟨_, hTO, fun v z => by cases z⟩
    · exact ⟨o1, e1, fun v z => by rw [d1] at z; cases z⟩
    · exact ⟨o2, e2, fun v z => by rw [d2] at z; cases z⟩
  keep := fun i h h' st k => by
    obtain ⟨hz, hTI, ⟨a, c, hTO⟩, h1, h2⟩ := st
    exact ⟨k _ (by simp [zipFp]) _ hz, k _ (by simp [zipFp]) _ hTI, ⟨a, c, k _ (by simp [zipFp]) _ hTO⟩, h1.at fun o e => k _ (by simp [zipFp]) o e, h2.at fun o e => k _ (by simp [zipFp]) o e⟩
  item := by
    intro X hP hw hK hc i pins s σ H E I hf st hg
    subst hP hw hK
    obtain ⟨hz, hTI, ⟨a, c, hTO⟩, h1, h2⟩ := st
    obtain ⟨xs, ys, x, y, q1, q2, hx, hy⟩ := hg
    obtain ⟨its1, r1, L1, _⟩ := I.tuple q1
    obtain ⟨its2, r2, L2, _⟩ := I.list q2
    obtain ⟨u, hu, ru⟩ := r1.get hx
    obtain ⟨v, hv, rv⟩ := r2.get hy
    have D : ZipApart (n + 4) (n + 2) (n + 3) n (n + 1) l1 l2 := zipApart_of (fun z => sq_fp I q1 (hf _ z)) (fun z => sq_fpL I q2 (hf _ z))
    refine zipU_item D hz hTI hTO h1 h2 (show s.heap.IsTuple l1 its1.toArray from L1) L2.isList (x := u) (y := v) (by simpa using hu) (by simpa using hv) fun h' a1 a2 a3 a4 a5 hk => ?_
    have I1 : Inv X pins σ H { s with heap := h' } := I.turnedL (ch := zipFp n) (t' := s.toks) (fun b o hb e => by
      unfold zipFp at hb
      simp only [List.mem_cons, List.not_mem_nil, or_false, not_or] at hb
      exact hk b o hb.1 hb.2.2.1 hb.2.2.2.1 hb.2.2.2.2 e) hf
    refine ⟨.ref s.heap.objs.size, rfl, wpAny_letOwnedTupleGo_zip a1 fun h2' hz' hs' => ?_⟩
    have I2 : Inv X pins σ H { s with heap := h2' } := I1.turnedL (s := { s with heap := h' }) (ch := zipFp n) (t' := s.toks) (fun b o hb e => by
      unfold zipFp at hb
      simp only [List.mem_cons, List.not_mem_nil, or_false, not_or] at hb
      exact hs'.extBut _ _ hb.1 e) hf
    have fresh : H s.heap.objs.size = none := I.hok.fresh (Nat.le_refl _)
    have pz : s.heap.objs.size ≠ n + 4 := Nat.ne_of_gt (Heap.lt_size hz)
    have I3 : Inv X pins σ (upd H s.heap.objs.size (.tup [x, y])) { s with heap := h2' } := by
      refine I2.track fresh ?_ (Nat.ne_of_gt I.lt) (fun z c' e e2' => ?_) (fun p hp e2' => ?_) ?_
      · cases q : X.s₀.heap.get? s.heap.objs.size with
        | none => rfl
        | some o => exact absurd (Nat.lt_of_lt_of_le (Heap.lt_size q) I.sz) (Nat.lt_irrefl _)
      · obtain ⟨v', q⟩ := I.cell z c' e
        exact absurd (e2' ▸ q.lt) (Nat.lt_irrefl _)
      · exact absurd (e2' ▸ Heap.lt_size (I.pin p hp).1) (Nat.lt_irrefl _)
      · exact ⟨by show 2 ≤ sizeLine; decide, [u, v], .cons ru (.cons rv .nil), ⟨_, hs'.extBut _ _ pz a5, rfl, _, rfl⟩⟩
    have hpn : ∀ b ∈ zipFp n, b ≠ s.heap.objs.size := fun b hb e => by
      have q3 : ∃ o, s.heap.get? b = some o := by
        unfold zipFp at hb
        simp only [List.mem_cons, List.not_mem_nil, or_false] at hb
        obtain ⟨o1, g1, _⟩ := h1
        obtain ⟨o2, g2, _⟩ := h2
        rcases hb with rfl | rfl | rfl | rfl | rfl
        · exact ⟨_, hz⟩
        · exact ⟨_, hTI⟩
        · exact ⟨_, hTO⟩
        · exact ⟨_, g1⟩
        · exact ⟨_, g2⟩
      obtain ⟨o, q3⟩ := q3
      exact absurd (e ▸ Heap.lt_size q3) (Nat.lt_irrefl _)
    have hTI' : IsPair h' (n + 2) (.ref n) (.ref (n + 1)) := hk _ _ D.TIz D.TITO D.TIi1 D.TIi2 hTI
    refine ⟨.ref s.heap.objs.size, _, I3, rfl, ⟨x, y, _, fun zs hz2 => by rw [I.tuple_inj hz2 q1]; exact hx, fun zs hz2 => by rw [I.list_inj hz2 q2]; exact hy, fresh, rfl, rfl⟩, ⟨hz', hs'.extBut _ _ D.TIz hTI', ⟨_, _, hs'.extBut _ _ D.TOz a2⟩, a3.extBut hs'.extBut D.i1z, a4.extBut hs'.extBut D.i2z⟩, fun b hb => ?_⟩
    rw [upd_ne (hpn b hb)]; exact (hf b hb).1
  done := by
    intro X hP hw hK hc i pins s σ H E I hf st hg
    subst hP hw hK
    obtain ⟨hz, hTI, ⟨a, c, hTO⟩, h1, h2⟩ := st
    obtain ⟨xs, ys, q1, q2, hl⟩ := hg
    obtain ⟨its1, r1, L1, _⟩ := I.tuple q1
    have hlen := r1.length
    have D : ZipApart (n + 4) (n + 2) (n + 3) n (n + 1) l1 l2 := zipApart_of (fun z => sq_fp I q1 (hf _ z)) (fun z => sq_fpL I q2 (hf _ z))
    refine zipT_end (I.ok.hd hc) D hz hTI h1 (show s.heap.IsTuple l1 its1.toArray from L1) (by rw [List.getElem?_toArray, List.getElem?_eq_none (by omega)]) fun h' hk => ⟨rfl, I.turnedL (ch := zipFp n) (t' := s.toks) (fun b o hb e => ?_) hf⟩
    unfold zipFp at hb
    simp only [List.mem_cons, List.not_mem_nil, or_false, not_or] at hb
    exact hk b o hb.1 hb.2.2.2.1 e
  self := fun _ _ _ _ _ st h => wpAny_pyIter_zip st.1 h
/-- zip(t1, t2) made: two iterators, two pairs, the zip -/
theorem zipU_made (l1 l2 : Addr) (xs ys : Array Value) : Meets (Builtin.«zip.__new__» ⟨[.type "zip", .ref l1, .ref l2], []⟩) (fun _ R s => s.heap.IsTuple l1 xs ∧ s.heap.IsList l2 ys ∧
    R (.ok (.ret (.ref (s.heap.objs.size + 4)))) { s with heap := ((((s.heap.push { cls := .type "tuple_iterator", data := .fields #[.ref l1, .int 0 0] }).push { cls := .type "list_iterator", data := .fields #[.ref l2, .int 0 0] }).push { cls := .type "tuple", data := .seq #[.ref s.heap.objs.size, .ref (s.heap.objs.size + 1)] }).push { cls := .type "tuple", data := .seq #[.none, .none] }).push { cls := .type "zip", data := .fields #[.none, .bool false, .bool false, .ref (s.heap.objs.size + 2), .ref (s.heap.objs.size + 3)] } }) :=
  .of_wp fun prog w A R s h => by
    obtain ⟨m, g, d, tk, os⟩ := s
    obtain ⟨a1, a2, h⟩ := h
    have sub := sub_zip
    have b1 : Heap.IsTuple (Shared.heap ⟨m, g, d, tk, os⟩) l1 xs := a1
    have b2 : Heap.IsList (Shared.heap ⟨m.push { cls := .type "tuple_iterator", data := .fields #[.ref l1, .int 0 0] }, g, d, tk, os⟩) l2 ys := by
      obtain ⟨o, e, r⟩ := a2
      exact ⟨o, Heap.get?_push_of_some _ e, r⟩
    have z1 : (m.push { cls := .type "tuple_iterator", data := .fields #[.ref l1, .int 0 0] }).objs.size = m.objs.size + 1 := Heap.size_push ..
    wp_walk using wpAny_pyIter_tuple b1, wpAny_pyIter_list b2
    refine ⟨_, rfl, ?_⟩
    simp only [Heap.size_push]
    exact h
section
variable {X : Cx}
def iZipU (K : PySem.W.Frag) (ta : TA) : TI := fun σ H R => ta σ H fun vs H1 => ∃ l1 l2 xs ys, vs = [.ref l1, .ref l2] ∧ SqT K H1 l1 xs ∧ SqL K H1 l2 ys ∧ R (Itu K l1 l2) H1
theorem pi_zipU {a b : Expr} {ta : TA} {p pos tpos : Pos} {elts : List Expr} {x1} (hg : Gl X "zip") (hm : X.mg "zip" = none) (ha : PA X [a, b] ta) (hs : starEach [a, b] X.env = [(false, eval a X.env), (false, eval b X.env)]) (hs2 : starEach [b] X.env = [(false, eval b X.env)]) :
    PI X (.Tuple elts x1 tpos) (.Call (.Name "zip" p) [a, b] [] pos) (iZipU X.K ta) := by
  intro pins s σ H R I h
  refine Call_ (ld_blt I hg hm boot_zip (PyProof.Rows.callWith_type1 (thn (ha pos pins s σ H _ I h) fun us s1 ⟨vs, H1, I1, r1, q1⟩ => ?_) (by rw [hs, hs2]) (by rw [hs2]; rfl)))
  obtain ⟨l1, l2, xs, ys, e, q1, q2, q⟩ := q1
  subst e
  cases r1 with
  | cons r rr =>
    cases rr with
    | cons r' rr =>
      cases rr
      cases r
      cases r'
      obtain ⟨its1, v1, e1, _⟩ := I1.tuple q1
      obtain ⟨its2, v2, e2, _⟩ := I1.list q2
      have T1 : s1.heap.IsTuple l1 its1.toArray := e1
      have T2 : s1.heap.IsList l2 its2.toArray := e2.isList
      refine callType_new F.called_zip (by decide) (F.typeCall_zip_2 _ _) (F.newCall_zip_2 _ _) (fun obj => F.args_object_init_3 obj _ _) F.entry_zip_new (zipU_made l1 l2 its1.toArray its2.toArray) ⟨T1, T2, ?_⟩
      have z1 : ∀ (m : Heap) (o : Obj), (m.push o).objs.size = m.objs.size + 1 := fun m o => Heap.size_push ..
      have hk : ∀ b o, s1.heap.get? b = some o → ∀ o1 o2 o3 o4 o5, (((((s1.heap.push o1).push o2).push o3).push o4).push o5).get? b = some o := fun b o e o1 o2 o3 o4 o5 => Heap.get?_push_of_some _ (Heap.get?_push_of_some _ (Heap.get?_push_of_some _ (Heap.get?_push_of_some _ (Heap.get?_push_of_some _ e))))
      have at0 : ∀ o1 o2 o3 o4 o5 : Obj, o1.isFreed = false → (((((s1.heap.push o1).push o2).push o3).push o4).push o5).get? s1.heap.objs.size = some o1 := fun o1 o2 o3 o4 o5 f => Heap.get?_push_of_some _ (Heap.get?_push_of_some _ (Heap.get?_push_of_some _ (Heap.get?_push_of_some _ (Heap.get?_push_size _ f))))
      have at1 : ∀ o1 o2 o3 o4 o5 : Obj, o2.isFreed = false → (((((s1.heap.push o1).push o2).push o3).push o4).push o5).get? (s1.heap.objs.size + 1) = some o2 := fun o1 o2 o3 o4 o5 f => by rw [← z1 s1.heap o1]; exact Heap.get?_push_of_some _ (Heap.get?_push_of_some _ (Heap.get?_push_of_some _ (Heap.get?_push_size _ f)))
      have at2 : ∀ o1 o2 o3 o4 o5 : Obj, o3.isFreed = false → (((((s1.heap.push o1).push o2).push o3).push o4).push o5).get? (s1.heap.objs.size + 2) = some o3 := fun o1 o2 o3 o4 o5 f => by
        have e : s1.heap.objs.size + 2 = ((s1.heap.push o1).push o2).objs.size := by rw [z1, z1]
        rw [e]; exact Heap.get?_push_of_some _ (Heap.get?_push_of_some _ (Heap.get?_push_size _ f))
      have at3 : ∀ o1 o2 o3 o4 o5 : Obj, o4.isFreed = false → (((((s1.heap.push o1).push o2).push o3).push o4).push o5).get? (s1.heap.objs.size + 3) = some o4 := fun o1 o2 o3 o4 o5 f => by
        have e : s1.heap.objs.size + 3 = (((s1.heap.push o1).push o2).push o3).objs.size := by rw [z1, z1, z1]
        rw [e]; exact Heap.get?_push_of_some _ (Heap.get?_push_size _ f)
      have at4 : ∀ o1 o2 o3 o4 o5 : Obj, o5.isFreed = false → (((((s1.heap.push o1).push o2).push o3).push o4).push o5).get? (s1.heap.objs.size + 4) = some o5 := fun o1 o2 o3 o4 o5 f => by
        have e : s1.heap.objs.size + 4 = ((((s1.heap.push o1).push o2).push o3).push o4).objs.size := by rw [z1, z1, z1, z1]
        rw [e]; exact Heap.get?_push_size _ f
      have g1 := at4 { cls := .type "tuple_iterator", data := .fields #[.ref l1, .int 0 0] } { cls := .type "list_iterator", data := .fields #[.ref l2, .int 0 0] } { cls := .type "tuple", data := .seq #[.ref s1.heap.objs.size, .ref (s1.heap.objs.size + 1)] } { cls := .type "tuple", data := .seq #[.none, .none] } { cls := .type "zip", data := .fields #[.none, .bool false, .bool false, .ref (s1.heap.objs.size + 2), .ref (s1.heap.objs.size + 3)] } rfl
      refine ⟨⟨_, g1, rfl⟩, ?_⟩
      refine wpAny_pyIter_zip (s := { s1 with heap := _ }) g1 ?_
      refine ⟨s1.heap.objs.size + 4, zipFp s1.heap.objs.size, zipUt s1.heap.objs.size l1 l2, Itu X.K l1 l2, H1, rfl, I1.kept (t' := s1.toks) fun b o e => hk b o e _ _ _ _ _, turn_zipU _ _ _, ⟨g1, at2 _ _ _ _ _ rfl, ⟨_, _, at3 _ _ _ _ _ rfl⟩, ⟨_, at0 _ _ _ _ _ rfl, rfl, rfl⟩, ⟨_, at1 _ _ _ _ _ rfl, rfl, rfl⟩⟩, fun b hb => ?_, q⟩
      have hge : s1.heap.objs.size ≤ b := by
        unfold zipFp at hb
        simp only [List.mem_cons, List.not_mem_nil, or_false] at hb
        rcases hb with rfl | rfl | rfl | rfl | rfl
        · exact Nat.le_add_right _ 4
        · exact Nat.le_add_right _ 2
        · exact Nat.le_add_right _ 3
        · exact Nat.le_refl _
        · exact Nat.le_add_right _ 1
      exact I1.fpOk (H' := H1) hge (I1.hok.fresh hge)
theorem qi_zipU {a b : Expr} {ta : TA} {p pos tpos : Pos} {elts : List Expr} {x1} (hg : Gl X "zip") (hm : X.mg "zip" = none) (ha : QA X [a, b] ta) (hs : starEach [a, b] X.env = [(false, eval a X.env), (false, eval b X.env)] := by rfl) (hs2 : starEach [b] X.env = [(false, eval b X.env)] := by rfl) :
    QI X (.Tuple elts x1 tpos) (.Call (.Name "zip" p) [a, b] [] pos) (iZipU X.K ta) := ⟨pi_zipU hg hm ha.run hs hs2⟩
end
/-- over two tuples -/
theorem for_zipU {K : PySem.W.Frag} {l1 l2 : Addr} {xs ys : List V} {g : TG} {tb : TS} {D : Ends} {σ : St} {H : Hp} (Pv : Nat → St → Hp → Prop) (h0 : Pv 0 σ H) (hl : ∀ i σ H, Pv i σ H → SqT K H l1 xs ∧ SqL K H l2 ys) (hxy : xs.length = ys.length)
    (hs : ∀ i x y σ H p, xs[i]? = some x → ys[i]? = some y → Pv i σ H → H p = none → g (.ref p) σ (upd H p (.tup [x, y])) fun σ2 H2 => tb { D with nx := Pv (i + 1), ct := Pv (i + 1), bk := D.nx } σ2 H2) (hd : ∀ σ H, Pv xs.length σ H → D.nx σ H) :
    ∃ W : Nat → Nat → St → Hp → Prop, (∃ m, W 0 m σ H) ∧ ∀ i m σ H, W i m σ H →
      ((Itu K l1 l2).stop i H ∧ D.nx σ H) ∨ ((Itu K l1 l2).go i H ∧ ∃ N : St → Hp → Prop, (∀ σ' H', N σ' H' → ∃ m', m' < m ∧ W (i + 1) m' σ' H') ∧ ∀ x H', (Itu K l1 l2).yld i H x H' → g x σ H' fun σ2 H2 => tb { D with nx := N, ct := N, bk := D.nx } σ2 H2) := by
  refine ⟨fun i m σ H => m = xs.length - i ∧ i ≤ xs.length ∧ Pv i σ H, ⟨xs.length, by simp, Nat.zero_le _, h0⟩, ?_⟩
  rintro i m σ H ⟨rfl, hi, p⟩
  obtain ⟨q1, q2⟩ := hl i σ H p
  by_cases hlt : i < xs.length
  · refine .inr ⟨⟨xs, ys, xs[i], ys[i], q1, q2, by simp [hlt], by simp [show i < ys.length by omega]⟩, Pv (i + 1), fun σ' H' p' => ⟨xs.length - (i + 1), by omega, rfl, hlt, p'⟩, fun x H' y => ?_⟩
    obtain ⟨x', y', p', g1, g2, hn, rfl, rfl⟩ := y
    exact hs i x' y' σ H p' (g1 _ q1) (g2 _ q2) p hn
  · have e : i = xs.length := by omega
    subst e
    exact .inl ⟨⟨xs, ys, q1, q2, Nat.le_refl _⟩, hd σ H p⟩
end L2

set_option Elab.async false
set_option linter.all false
set_option maxRecDepth 100000
set_option maxHeartbeats 4000000
namespace L2
open PySem PySem.Spec PyProof.Rows
/-! ### lists of pairs as tables -/
section
variable {κ : Type} [DecidableEq κ]
def valV (kvs : List (κ × V)) (k : κ) : Option V := (kvs.find? fun kv => decide (kv.1 = k)).map (·.2)
/-- in its place, or at the end -/
def putK (kvs : List (κ × V)) (k : κ) (v : V) : List (κ × V) :=
  if (kvs.any fun kv => decide (kv.1 = k)) = true then kvs.map (fun kv => if kv.1 = k then (kv.1, v) else kv) else kvs ++ [(k, v)]
def dropK (kvs : List (κ × V)) (k : κ) : List (κ × V) := kvs.filter fun kv => decide (kv.1 ≠ k)

theorem valV_pos {p : κ × V} {r : List (κ × V)} {k : κ} (e : p.1 = k) : valV (p :: r) k = some p.2 := by simp [valV, List.find?_cons, e]
theorem valV_neg {p : κ × V} {r : List (κ × V)} {k : κ} (e : ¬ p.1 = k) : valV (p :: r) k = valV r k := by simp [valV, List.find?_cons, e]
theorem valV_any (k : κ) : ∀ kvs : List (κ × V), (kvs.any fun kv => decide (kv.1 = k)) = (valV kvs k).isSome
  | [] => rfl
  | p :: r => by
    rw [List.any_cons]
    by_cases e : p.1 = k
    · simp only [valV_pos e, decide_eq_true e, Bool.true_or, Option.isSome_some]
    · rw [valV_neg e, decide_eq_false e, Bool.false_or]; exact valV_any k r
theorem length_putK (kvs : List (κ × V)) (k : κ) (v : V) : (putK kvs k v).length ≤ kvs.length + 1 := by
  unfold putK
  split
  · rw [List.length_map]; omega
  · rw [List.length_append, List.length_cons, List.length_nil]; omega
theorem RelO.isSome_eq {o : Option V} {u : Option Value} (r : RelO o u) : o.isSome = u.isSome := by
  cases o with
  | none => cases u with
    | none => rfl
    | some _ => exact (show False from r).elim
  | some _ => cases u with
    | none => exact (show False from r).elim
    | some _ => rfl
theorem RelO.getD {o : Option V} {u : Option Value} {d : V} {d' : Value} (r : RelO o u) (rd : RelV d d') : RelV (o.getD d) (u.getD d') := by
  cases o with
  | none => cases u with
    | none => exact rd
    | some _ => exact (show False from r).elim
  | some _ => cases u with
    | none => exact (show False from r).elim
    | some _ => exact r

/-- raw tables of the same keys -/
theorem KV.val {kvs : List (κ × V)} {vs : List (κ × Value)} (r : KV kvs vs) (k : κ) : RelO (valV kvs k) (valueAt vs k) := by
  unfold KV at r
  induction r with
  | nil => exact True.intro
  | @cons p q ps qs h t ih =>
    obtain ⟨h1, h2⟩ := h
    by_cases e : p.1 = k
    · have e' : q.1 = k := h1.symm.trans e
      have b : valueAt (q :: qs) k = some q.2 := by simp [valueAt, List.find?_cons, e']
      rw [valV_pos e, b]; exact h2
    · have e' : ¬ q.1 = k := fun z => e (h1.trans z)
      have b : valueAt (q :: qs) k = valueAt qs k := by simp [valueAt, List.find?_cons, e']
      rw [valV_neg e, b]; exact ih
theorem KV.any {kvs : List (κ × V)} {vs : List (κ × Value)} (r : KV kvs vs) (k : κ) : (kvs.any fun kv => decide (kv.1 = k)) = vs.any fun kv => decide (kv.1 = k) := by
  unfold KV at r
  induction r with
  | nil => rfl
  | cons h t ih => rw [List.any_cons, List.any_cons, ih, h.1]
theorem KV.repl {kvs : List (κ × V)} {vs : List (κ × Value)} (r : KV kvs vs) (k : κ) {y : V} {u : Value} (ry : RelV y u) :
    KV (kvs.map fun kv => if kv.1 = k then (kv.1, y) else kv) (vs.map fun kv => if kv.1 = k then (kv.1, u) else kv) := by
  unfold KV at r ⊢
  induction r with
  | nil => exact .nil
  | @cons p q ps qs h t ih =>
    rw [List.map_cons, List.map_cons]
    refine .cons ?_ ih
    obtain ⟨h1, h2⟩ := h
    by_cases e : p.1 = k
    · rw [if_pos e, if_pos (h1.symm.trans e)]; exact ⟨h1, ry⟩
    · rw [if_neg e, if_neg (fun z => e (h1.trans z))]; exact ⟨h1, h2⟩
theorem KV.put {kvs : List (κ × V)} {vs : List (κ × Value)} (r : KV kvs vs) (k : κ) {y : V} {u : Value} (ry : RelV y u) : KV (putK kvs k y) (stored vs k u) := by
  unfold putK stored
  rw [r.any k]
  by_cases e : (vs.any fun kv => decide (kv.1 = k)) = true
  · rw [if_pos e, if_pos e]; exact r.repl k ry
  · rw [if_neg e, if_neg e]; exact Paired.snoc r ⟨rfl, ry⟩
theorem KV.keys {kvs : List (κ × V)} {vs : List (κ × Value)} (r : KV kvs vs) : kvs.map (·.1) = vs.map (·.1) := by
  unfold KV at r
  induction r with
  | nil => rfl
  | cons h t ih => rw [List.map_cons, List.map_cons, ih, h.1]
theorem KV.length {kvs : List (κ × V)} {vs : List (κ × Value)} (r : KV kvs vs) : kvs.length = vs.length := Paired.length r
end


/-! ### a tracked dict, its keys ints and texts or tuples of these -/
theorem kV_is {P : Program} {w : World} {k : Key} {u : Value} (r : RelV (kV k) u) : (mixKind P w).is k u = true := by
  cases k with
  | inl i => obtain ⟨t, e⟩ := (show ∃ t, u = Value.int i t from r); subst e; exact mixKind_int P w i t
  | inr x => obtain ⟨t, e⟩ := (show ∃ t, u = Value.str x t from r); subst e; exact mixKind_str P w x t
theorem items_are {P : Program} {w : World} : ∀ {ks : List Key} {us : List Value}, Vals (ks.map kV) us → ItemsAre (mixKind P w) ks us
  | [], _, r => by rw [List.map_nil] at r; cases r; exact .nil
  | k :: ks, _, r => by
    rw [List.map_cons] at r
    cases r with
    | cons h t => exact .cons (kV_is h) (items_are t)

/-- raw entries of a dict with tuple keys -/
abbrev KT (H : Hp) : List (List Key × V) → List (List Key × Addr × Value) → Prop := Paired fun p q => p.1 = q.1 ∧ H q.2.1 = some (.tup (p.1.map kV)) ∧ RelV p.2 q.2.2
theorem KT.val {H : Hp} {kvs : List (List Key × V)} {xs : List (List Key × Addr × Value)} (r : KT H kvs xs) (k : List Key) : RelO (valV kvs k) ((atKey xs k).map (·.2)) := by
  induction r with
  | nil => exact True.intro
  | @cons p q ps qs h t ih =>
    obtain ⟨h1, _, h2⟩ := h
    by_cases e : p.1 = k
    · have e' : q.1 = k := h1.symm.trans e
      have b : atKey (q :: qs) k = some q.2 := by simp [atKey, List.find?_cons, e']
      rw [valV_pos e, b]; exact h2
    · have e' : ¬ q.1 = k := fun z => e (h1.trans z)
      have b : atKey (q :: qs) k = atKey qs k := by simp [atKey, List.find?_cons, e']
      rw [valV_neg e, b]; exact ih
theorem KT.repl {H : Hp} {kvs : List (List Key × V)} {xs : List (List Key × Addr × Value)} (r : KT H kvs xs) (k : List Key) {y : V} {u : Value} (ry : RelV y u) :
    KT H (kvs.map fun kv => if kv.1 = k then (kv.1, y) else kv) (xs.map (putAt k u)) := by
  induction r with
  | nil => exact .nil
  | @cons p q ps qs h t ih =>
    rw [List.map_cons, List.map_cons]
    refine .cons ?_ ih
    obtain ⟨h1, h2, h3⟩ := h
    unfold putAt
    by_cases e : p.1 = k
    · rw [if_pos e, if_pos (h1.symm.trans e)]; exact ⟨h1, h2, ry⟩
    · rw [if_neg e, if_neg (fun z => e (h1.trans z))]; exact ⟨h1, h2, h3⟩
theorem KT.put {H : Hp} {kvs : List (List Key × V)} {xs : List (List Key × Addr × Value)} (r : KT H kvs xs) (k : List Key) {b : Addr} {y : V} {u : Value} (hb : H b = some (.tup (k.map kV))) (ry : RelV y u) :
    KT H (putK kvs k y) (storedH xs k b u) := by
  have e : (kvs.any fun kv => decide (kv.1 = k)) = (atKey xs k).isSome := by
    rw [valV_any, (r.val k).isSome_eq, Option.isSome_map]
  unfold putK storedH
  rw [e]
  by_cases q : (atKey xs k).isSome = true
  · rw [if_pos q, if_pos q]; exact r.repl k ry
  · rw [if_neg q, if_neg q]; exact Paired.snoc r ⟨rfl, hb, ry⟩
theorem KT.keeps {H H' : Hp} {kvs : List (List Key × V)} {xs : List (List Key × Addr × Value)} (r : KT H kvs xs) (ht : ∀ b ys, H b = some (.tup ys) → H' b = some (.tup ys)) : KT H' kvs xs :=
  Paired.mapP r fun _ _ z => ⟨z.1, ht _ _ z.2.1, z.2.2⟩

section
variable {P : Program} {w : World} {H : Hp} {h : Heap} {a : Addr}
theorem rd_of {u : HO} (ok : HOk P w H h) (e : Rd H a u) : ObjOk P w H h a u := e.ok ok
theorem dk_rd {kvs : List (Key × V)} (ok : HOk P w H h) (e : Rd H a (.dK kvs)) : kvs.length ≤ sizeLine ∧ (a == sysModules) = false ∧ ∃ vs, KV kvs vs ∧ h.DictOf (mixKind P w) a vs :=
  show ObjOk P w H h a (.dK kvs) from rd_of ok e
theorem dk_of {kvs : List (Key × V)} (ok : HOk P w H h) (e : H a = some (.dK kvs)) : kvs.length ≤ sizeLine ∧ (a == sysModules) = false ∧ ∃ vs, KV kvs vs ∧ h.DictOf (mixKind P w) a vs := dk_rd ok (.inl e)
/-- a tracked tuple of ints and texts is a key -/
theorem key_of {ks : List Key} (ok : HOk P w H h) (e : H a = some (.tup (ks.map kV))) : (tupleKind (mixKind P w)).is h ks a := by
  obtain ⟨_, its, r, o, h1, h2, n, h3⟩ := (show ObjOk P w H h a (.tup (ks.map kV)) from ok a _ e)
  exact ⟨o, its.toArray, n, h1, h2, h3, by simpa using items_are r⟩
theorem dt_rd {kvs : List (List Key × V)} (ok : HOk P w H h) (e : Rd H a (.dT kvs)) : kvs.length ≤ sizeLine ∧ (a == sysModules) = false ∧
    ∃ xs, KT H kvs xs ∧ h.DictOfH (tupleKind (mixKind P w)) a xs := by
  obtain ⟨z, y, xs, r, o, es, ep, h1, h2, h3, h4, h5⟩ := (show ObjOk P w H h a (.dT kvs) from rd_of ok e)
  refine ⟨z, y, xs, r, o, es, ep, h1, h2, h3, h4, fun x hx => ?_, h5⟩
  have all : ∀ {l : List (List Key × V)} {m : List (List Key × Addr × Value)}, KT H l m → ∀ x ∈ m, (tupleKind (mixKind P w)).is h x.1 x.2.1 := by
    intro l m q
    induction q with
    | nil => intro x hx; exact nomatch hx
    | @cons p q ps qs hq t ih =>
      intro x hx
      rcases List.mem_cons.mp hx with e | hx
      · subst e
        exact key_of ok (by rw [← hq.1]; exact hq.2.1)
      · exact ih x hx
  exact all r x hx
theorem dt_of {kvs : List (List Key × V)} (ok : HOk P w H h) (e : H a = some (.dT kvs)) : kvs.length ≤ sizeLine ∧ (a == sysModules) = false ∧
    ∃ xs, KT H kvs xs ∧ h.DictOfH (tupleKind (mixKind P w)) a xs := dt_rd ok (.inl e)
end

/-- what the dict at a holds at the key y -/
def DGet (H : Hp) (a : Addr) (y : V) (r : Option V) : Prop :=
  (∃ kvs k, Rd H a (.dK kvs) ∧ y = kV k ∧ r = valV kvs k) ∨ ∃ kvs k b, Rd H a (.dT kvs) ∧ y = .ref b ∧ H b = some (.tup (k.map kV)) ∧ r = valV kvs k
/-- the heap behind a[y] = v -/
def DPut (H : Hp) (a : Addr) (y v : V) (H' : Hp) : Prop :=
  (∃ kvs k, H a = some (.dK kvs) ∧ y = kV k ∧ kvs.length < sizeLine ∧ H' = upd H a (.dK (putK kvs k v))) ∨
  ∃ kvs k b, H a = some (.dT kvs) ∧ y = .ref b ∧ H b = some (.tup (k.map kV)) ∧ kvs.length < sizeLine ∧ H' = upd H a (.dT (putK kvs k v))
theorem DGet.k {H : Hp} {a : Addr} {kvs : List (Key × V)} {k : Key} (e : H a = some (.dK kvs)) : DGet H a (kV k) (valV kvs k) := .inl ⟨kvs, k, .inl e, rfl, rfl⟩
theorem DPut.k {H : Hp} {a : Addr} {kvs : List (Key × V)} {k : Key} {v : V} (e : H a = some (.dK kvs)) (hl : kvs.length < sizeLine) : DPut H a (kV k) v (upd H a (.dK (putK kvs k v))) := .inl ⟨kvs, k, e, rfl, hl, rfl⟩
section
variable {X : Cx} {pins : List (Addr × Obj)} {σ : St} {H : Hp} {s : Shared} {a : Addr} {y v : V} {u r : Value} {o : Option V} {A : Around} {E : Value → Shared → Prop}

theorem Inv.big (I : Inv X pins σ H s) : sysModules < s.heap.objs.size := by
  have h : mainGlobals < s.heap.objs.size := (I.mod.glob.keeps I.bk).lt
  exact Nat.lt_trans (by decide) h

/-- d[y], there -/
theorem d_getItem {Q : Value → Shared → Prop} (hu : A.units + 1 < cLine) (I : Inv X pins σ H s) (g : DGet H a y (some v)) (ry : RelV y u) (h : ∀ w' s', Inv X pins σ H s' → RelV v w' → Q w' s') :
    wpAny (model X.prog X.w) A (getItem (.ref a) u) Q E s := by
  rcases g with ⟨kvs, k, e, ey, l⟩ | ⟨kvs, k, b, e, ey, eb, l⟩
  · subst ey
    obtain ⟨z, hd, vs, rel, dd⟩ := dk_rd I.hok e
    obtain ⟨w', hw, rw'⟩ := RelO.some_of (v := v) (o := valueAt vs k) (by rw [l]; exact rel.val k)
    exact wpAny_getItem_of (kV_is ry) dd.mapOf hw (h w' _ (I.tok _) rw')
  · subst ey
    cases (show u = Value.ref b from ry)
    obtain ⟨z, hd, xs, rel, dd⟩ := dt_rd I.hok e
    obtain ⟨w', hw, rw'⟩ := RelO.some_of (v := v) (o := (atKey xs k).map (·.2)) (by rw [l]; exact rel.val k)
    obtain ⟨p, hp, hp2⟩ := Option.map_eq_some_iff.mp hw
    refine wpAny_getItem_heap (tupleKind_room_in1 hu) (key_of I.hok eb) dd hp ?_
    rw [hp2]
    exact h w' _ (I.tok _) rw'
/-- y in d -/
theorem d_in {Q : Value → Shared → Prop} (hu : A.units + 1 < cLine) (I : Inv X pins σ H s) (g : DGet H a y o) (ry : RelV y u) (h : ∀ s', Inv X pins σ H s' → Q (.bool o.isSome) s') :
    wpAny (model X.prog X.w) A (compareOp .In u (.ref a)) Q E s := by
  rcases g with ⟨kvs, k, e, ey, l⟩ | ⟨kvs, k, b, e, ey, eb, l⟩
  · subst ey
    obtain ⟨z, hd, vs, rel, dd⟩ := dk_rd I.hok e
    refine wpAny_in_of (kV_is ry) hd dd.mapOf ?_
    rw [← (rel.val k).isSome_eq, ← l]
    exact h _ (I.tok _)
  · subst ey
    cases (show u = Value.ref b from ry)
    obtain ⟨z, hd, xs, rel, dd⟩ := dt_rd I.hok e
    refine wpAny_in_heap (tupleKind_room_in1 hu) (key_of I.hok eb) hd dd ?_
    have q := (rel.val k).isSome_eq
    rw [Option.isSome_map] at q
    rw [← q, ← l]
    exact h _ (I.tok _)
/-- a dict's object is replaced -/
theorem d_write {h' : Heap} {t' : Nat} {ob : HO} (I : Inv X pins σ H s) (mu : Mut (H a)) (hs : Heap.SameBut a s.heap h') (he : ∃ q, h'.get? a = some q) (new : ObjOk X.prog X.w (upd H a ob) h' a ob) :
    Inv X pins σ (upd H a ob) { s with heap := h', toks := t' } :=
  I.write (x := a) (e := a) mu (.inl rfl) (fun b q hb z => (hs.2 b hb).trans z) he new
theorem dk_new {P : Program} {w : World} {H' : Hp} {h' : Heap} {kvs : List (Key × V)} {vs : List (Key × Value)} (z : kvs.length ≤ sizeLine) (hd : (a == sysModules) = false) (rel : KV kvs vs) (dd : h'.DictOf (mixKind P w) a vs) :
    ObjOk P w H' h' a (.dK kvs) := ⟨z, hd, vs, rel, dd⟩
/-- d[y] = v -/
theorem d_setItem {H' : Hp} {Q : Unit → Shared → Prop} (hu : A.units + 1 < cLine) (I : Inv X pins σ H s) (g : DPut H a y v H') (ry : RelV y u) (rv : RelV v r) (h : ∀ s', Inv X pins σ H' s' → Q () s') :
    wpAny (model X.prog X.w) A (setItem (.ref a) u r) Q E s := by
  rcases g with ⟨kvs, k, e, ey, l, eH⟩ | ⟨kvs, k, b, e, ey, eb, l, eH⟩
  · subst ey eH
    obtain ⟨z, hd, vs, rel, dd⟩ := dk_of I.hok e
    have hz : vs.length ≤ sizeLine := by rw [← rel.length]; exact z
    have hl : (putK kvs k v).length ≤ sizeLine := by have := length_putK kvs k v; omega
    refine wpAny_setItem_pairs (hsz := hz) (kV_is ry) dd fun h' dd' hs => h _ ?_
    have he : ∃ q, h'.get? a = some q := let ⟨q, _, _, hq, _⟩ := dd'; ⟨q, hq⟩
    exact d_write I (by rw [e]; exact True.intro) hs he (dk_new hl hd (rel.put k rv) dd')
  · subst ey eH
    cases (show u = Value.ref b from ry)
    obtain ⟨z, hd, xs, rel, dd⟩ := dt_of I.hok e
    have hz : xs.length ≤ sizeLine := by rw [← Paired.length rel]; exact z
    have hl : (putK kvs k v).length ≤ sizeLine := by have := length_putK kvs k v; omega
    refine wpAny_setItem_heap (hsz := hz) (tupleKind_room_in1 hu) (key_of I.hok eb) dd fun h' dd' hs => h _ ?_
    obtain ⟨q, es, ep, hq, h2, h3, h4, _, h5⟩ := dd'
    refine d_write I (by rw [e]; exact True.intro) hs ⟨q, hq⟩ ⟨hl, hd, _, (rel.put k eb rv).keeps fun c ys ec => ?_, q, es, ep, hq, h2, h3, h4, h5⟩
    rw [upd_ne (ne_of ec e (fun z => nomatch z))]
    exact ec
end

section
variable {X : Cx} {pins : List (Addr × Obj)} {σ : St} {H : Hp} {s : Shared} {a : Addr} {kvs : List (Key × V)} {k : Key} {u : Value} {A : Around} {E : Value → Shared → Prop}
end


/-! ### readings and rules -/
/-- the element of a subscription, not a slice -/
def NoSl (i : Expr) : Prop := ∀ ov iv, subscripted i false ov iv = operate [ov, iv] (getItem ov iv)
theorem subD_of {prog : Program} {w : World} {A : Around} {E : Value → Shared → Prop} {s : Shared} {env : Env} {value slice : Expr} {pos : Pos} {T id : String} {Q : Value → Shared → Prop}
    (hl : typeLookup (.type T) "__getitem__" = pure (some (.builtin id))) (hs : NoSl slice)
    (h : wpAny (model prog w) A (eval value env) (fun o s₁ => wpAny (model prog w) A (eval slice env) (fun i s₂ => s₂.TypeIs o T ∧ wpAny (model prog w) A (getItem o i) Q E s₂) E s₁) E s) :
    wpAny (model prog w) A (eval (.Subscript value slice pos) env) Q E s := by
  refine Subscript_ (wpAny_mono h (fun o s₁ h₁ => wpAny_mono h₁ (fun i s₂ h₂ => ?_) fun _ _ x => x) fun _ _ x => x)
  obtain ⟨hT, h₂⟩ := h₂
  unfold subscriptTail
  refine wpAny_bind ?_
  rw [getitemInPython_of_ne hT.not_modules]
  refine wpAny_bind (wpAny_specialOf hT hl ?_)
  have fin : wpAny (model prog w) A (subscripted slice false o i) (fun r s₃ => wpAny (model prog w) A (letTemporaryGo value o r >>= fun _ => pure r) Q E s₃) E s₂ := by
    rw [hs o i]
    exact wpAny_operating (wpAny_mono h₂ (fun r s₃ h₃ => wpAny_bind (wpAny_letTemporaryGo (wpAny_pure h₃))) fun _ _ x => x)
  first
    | exact wpAny_pure (wpAny_bind fin)
    | exact wpAny_bind (wpAny_pure (wpAny_bind fin))
    | exact wpAny_bind fin

theorem dict_typeIs {X : Cx} {pins : List (Addr × Obj)} {σ : St} {H : Hp} {s : Shared} {a : Addr} {y : V} {o : Option V} (I : Inv X pins σ H s) (g : DGet H a y o) : s.TypeIs (.ref a) "dict" := by
  rcases g with ⟨kvs, k, e, _, _⟩ | ⟨kvs, k, b, e, _, _, _⟩
  · obtain ⟨_, _, vs, _, dd⟩ := dk_rd I.hok e
    exact dd.typeIs
  · obtain ⟨_, _, xs, _, dd⟩ := dt_rd I.hok e
    exact dd.typeIs
/-- d[y] -/
def tDGet (td ty : TE) : TE := fun σ H Q => td σ H fun x H1 => ty σ H1 fun y H2 => ∃ a v, x = .ref a ∧ DGet H2 a y (some v) ∧ Q v H2
/-- y in d, y not in d -/
def tDIn (ty td : TE) : TE := fun σ H Q => ty σ H fun y H1 => td σ H1 fun x H2 => ∃ a o, x = .ref a ∧ DGet H2 a y o ∧ Q (.bl o.isSome) H2
def tDNotIn (ty td : TE) : TE := fun σ H Q => ty σ H fun y H1 => td σ H1 fun x H2 => ∃ a o, x = .ref a ∧ DGet H2 a y o ∧ Q (.bl (!o.isSome)) H2
/-- d[y] = v -/
def sDPut (td ty tv : TE) : TS := fun D σ H => tv σ H fun v H1 => td σ H1 fun x H2 => ty σ H2 fun y H3 => ∃ a H4, x = .ref a ∧ DPut H3 a y v H4 ∧ D.nx σ H4
/-- d[y] op= v -/
def sDAug (td ty tv : TE) (rd : V → V → Hp → VK → Prop) : TS := fun D σ H => td σ H fun x H1 => ty σ H1 fun y H2 => ∃ a v, x = .ref a ∧ DGet H2 a y (some v) ∧
  tv σ H2 fun y2 H3 => rd v y2 H3 fun z H4 => ∃ H5, DPut H4 a y z H5 ∧ D.nx σ H5
/-- del d[y] -/
def sDDel (td ty : TE) : TS := fun D σ H => td σ H fun x H1 => ty σ H1 fun y H2 => ∃ a kvs k, x = .ref a ∧ H2 a = some (.dK kvs) ∧ y = kV k ∧ (valV kvs k).isSome = true ∧ D.nx σ (upd H2 a (.dK (dropK kvs k)))

section
variable {X : Cx} {o i e value : Expr} {pos pos' tpos : Pos} {td ty tv : TE}
theorem pe_dget (hu : X.A.units + 1 < cLine) (ho : PE X o td) (hi : PE X i ty) (hs : NoSl i) : PE X (.Subscript o i pos) (tDGet td ty) := by
  intro pins s σ H Q I h
  refine subD_of PySem.F.slot_dict_getitem.lookup hs (thn (ho pins s σ H _ I h) fun u s1 ⟨x, H1, I1, rx, q1⟩ => thn (hi pins s1 σ H1 _ I1 q1) fun iv s2 ⟨y, H2, I2, ry, a, v, ex, g, q2⟩ => ?_)
  subst ex
  obtain rfl : u = Value.ref a := rx
  exact ⟨dict_typeIs I2 g, d_getItem hu I2 g ry fun w' s3 I3 rw' => ⟨v, H2, I3, rw', q2⟩⟩
theorem pc_din (hu : X.A.units + 1 < cLine) (hi : PE X i ty) (ho : PE X o td) : PC X .In i o (tDIn ty td) := by
  intro pins s σ H Q I h
  refine thn (hi pins s σ H _ I h) fun iv s1 ⟨y, H1, I1, ry, q1⟩ => thn (ho pins s1 σ H1 _ I1 q1) fun u s2 ⟨x, H2, I2, rx, a, ov, ex, g, q2⟩ => ?_
  subst ex
  obtain rfl : u = Value.ref a := rx
  exact d_in hu I2 g ry fun s3 I3 => ⟨.bl ov.isSome, H2, I3, rfl, q2⟩
theorem ps_dput (hu : X.A.units + 1 < cLine) (ho : PE X o td) (hi : PE X i ty) (hv : PE X value tv) (hs : swapsWith value (some (.Subscript o i pos')) pos.line X.env = pure false) :
    PS X (.Assign [.Subscript o i pos'] value pos) (sDPut td ty tv) := by
  intro pins s σ H D I h
  refine wpAny_Assign_Subscript (thn (hv pins s σ H _ I h) fun r s1 ⟨v, H1, I1, rv, q1⟩ => thn (ho pins s1 σ H1 _ I1 q1) fun u s2 ⟨x, H2, I2, rx, q2⟩ => thn (hi pins s2 σ H2 _ I2 q2) fun iv s3 ⟨y, H3, I3, ry, a, H4, ex, g, q3⟩ => ?_) hs
  subst ex
  obtain rfl : u = Value.ref a := rx
  exact d_setItem hu I3 g ry rv fun s4 I4 => ⟨σ, H4, I4, q3⟩
end


/-! ### displays -/
theorem dk_empty {P : Program} {w : World} {H : Hp} (h : Heap) (hb : sysModules < h.objs.size) : ObjOk P w H (h.push { cls := .type "dict", data := .dict #[] }) h.objs.size (.dK []) :=
  ⟨Nat.zero_le _, beq_eq_false_iff_ne.mpr (Ne.symm (Nat.ne_of_lt hb)), [], .nil, Heap.DictOf.new h⟩
/-- {}, to be a dict of the kind that is wanted -/
def tDNewK : TE := fun _ H Q => ∀ p, H p = none → Q (.ref p) (upd H p (.dK []))
def tDNewT : TE := fun _ H Q => ∀ p, H p = none → Q (.ref p) (upd H p (.dT []))
section
variable {X : Cx} {pos : Pos}
theorem pe_dnewK : PE X (.Dict [] [] pos) tDNewK := fun pins s σ H Q I h =>
  wpAny_Dict_empty ⟨.ref s.heap.objs.size, _, I.laid (a := s.heap.objs.size) (o := .dK []) (t' := s.toks) (fun _ _ q => Heap.get?_push_of_some _ q) (Nat.le_refl _) (dk_empty s.heap I.big), rfl, h _ (I.hok.fresh (Nat.le_refl _))⟩
end

/-- the pairs of a display, from the left -/
def tPairs : List (TE × TE) → St → Hp → (List (V × V) → Hp → Prop) → Prop
  | [], _, H, Q => Q [] H
  | (tk, tv) :: r, σ, H, Q => tk σ H fun x H1 => tv σ H1 fun y H2 => tPairs r σ H2 fun ps H3 => Q ((x, y) :: ps) H3
abbrev VV : List (V × V) → List (Value × Value) → Prop := Paired fun p q => RelV p.1 q.1 ∧ RelV p.2 q.2
def PPs (X : Cx) (pos : Pos) (keys : List (Option Expr)) (values : List Expr) (trs : List (TE × TE)) : Prop :=
  ∀ (pins : List (Addr × Obj)) (s : Shared) (σ : St) (H : Hp) (Q : List (V × V) → Hp → Prop), Inv X pins σ H s → tPairs trs σ H Q →
    wpAny (model X.prog X.w) X.A (evalPairs (pairTrees keys values X.env pos)) (fun vs s' => ∃ ps H', Inv X pins σ H' s' ∧ VV ps vs ∧ Q ps H') X.xe s
theorem pps_nil {X : Cx} {pos : Pos} : PPs X pos [] [] [] := fun pins s σ H Q I h => pairTrees_nil_walk ⟨[], H, I, .nil, h⟩
theorem pps_cons {X : Cx} {pos : Pos} {k v : Expr} {ks : List (Option Expr)} {vs : List Expr} {tk tv : TE} {trs : List (TE × TE)} (hk : PE X k tk) (hv : PE X v tv) (hr : PPs X pos ks vs trs) :
    PPs X pos (some k :: ks) (v :: vs) ((tk, tv) :: trs) := fun pins s σ H Q I h =>
  pairTrees_cons_walk (thn (hk pins s σ H _ I h) fun u s1 ⟨x, H1, I1, rx, q1⟩ => thn (hv pins s1 σ H1 _ I1 q1) fun w2 s2 ⟨y, H2, I2, ry, q2⟩ =>
    thn (hr pins s2 σ H2 _ I2 q2) fun ws s3 ⟨ps, H3, I3, rel, q3⟩ => ⟨(x, y) :: ps, H3, I3, .cons ⟨rx, ry⟩ rel, q3⟩)

def mergeK (kvs more : List (Key × V)) : List (Key × V) := more.foldl (fun acc kv => putK acc kv.1 kv.2) kvs
theorem KV.merge : ∀ {more : List (Key × V)} {rs : List (Key × Value)} {kvs : List (Key × V)} {vs : List (Key × Value)}, KV more rs → KV kvs vs → KV (mergeK kvs more) (merged vs rs) := by
  intro more rs kvs vs r
  unfold KV at r
  induction r generalizing kvs vs with
  | nil => intro q; exact q
  | @cons p q ps qs h t ih =>
    intro r0
    have e : KV (putK kvs p.1 p.2) (stored vs q.1 q.2) := by
      have := r0.put p.1 h.2
      rw [← h.1]; exact this
    exact ih e
theorem length_mergeK : ∀ (more kvs : List (Key × V)), (mergeK kvs more).length ≤ kvs.length + more.length
  | [], kvs => by show kvs.length ≤ kvs.length + 0; omega
  | p :: r, kvs => by
    have h1 := length_mergeK r (putK kvs p.1 p.2)
    have h2 := length_putK kvs p.1 p.2
    show (mergeK (putK kvs p.1 p.2) r).length ≤ _
    rw [List.length_cons]; omega
theorem carries_of {P : Program} {w : World} : ∀ {kvs : List (Key × V)} {ws : List (Value × Value)}, VV (kvs.map fun kv => (kV kv.1, kv.2)) ws → ∃ rs, Carries (mixKind P w) ws rs ∧ KV kvs rs
  | [], _, r => by rw [List.map_nil] at r; cases r; exact ⟨[], True.intro, .nil⟩
  | p :: kvs, _, r => by
    rw [List.map_cons] at r
    cases r with
    | @cons a b as bs h t =>
      obtain ⟨rs, c, q⟩ := carries_of (P := P) (w := w) t
      obtain ⟨b1, b2⟩ := b
      exact ⟨(p.1, b2) :: rs, ⟨kV_is h.1, rfl, c⟩, .cons ⟨rfl, h.2⟩ q⟩
/-- {k: v, ..} with keys ints and texts; the new dict stands empty while the pairs are made -/
def tDisp (trs : List (TE × TE)) : TE := fun σ H Q => ∀ p, H p = none → tPairs trs σ (upd H p (.dK [])) fun ps H2 => H2 p = some (.dK []) ∧ ∃ kvs : List (Key × V), ps = kvs.map (fun kv => (kV kv.1, kv.2)) ∧ kvs.length ≤ 15 ∧ Q (.ref p) (upd H2 p (.dK (mergeK [] kvs)))
theorem pe_disp {X : Cx} {pos : Pos} {keys : List (Option Expr)} {values : List Expr} {trs : List (TE × TE)} (h : PPs X pos keys values trs) (hall : keys.all (·.isSome) = true) (hl : keys.length = values.length) (h0 : keys ≠ [])
    (h15 : keys.length ≤ 15) : PE X (.Dict keys values pos) (tDisp trs) := by
  intro pins s σ H Q I q
  have hn := I.hok.fresh (Nat.le_refl s.heap.objs.size)
  have I1 := I.laid (a := s.heap.objs.size) (o := .dK []) (h' := s.heap.push { cls := .type "dict", data := .dict #[] }) (t' := s.toks) (fun _ _ q => Heap.get?_push_of_some _ q) (Nat.le_refl _) (dk_empty s.heap I.big)
  refine wpAny_Dict_walk (knd := mixKind X.prog X.w) hall hl h0 h15 (thn (h pins _ σ _ _ I1 (q _ hn)) fun ws s2 ⟨ps, H2, I2, rel, e, kvs, ep, lk, q2⟩ => ?_)
  subst ep
  obtain ⟨rs, c, rk⟩ := carries_of (P := X.prog) (w := X.w) rel
  obtain ⟨z, hd, vs0, r0, dd⟩ := dk_of I2.hok e
  cases r0
  refine ⟨rs, c, dd, fun h' dd' hs => ⟨.ref s.heap.objs.size, _, ?_, rfl, q2⟩⟩
  have hz : (mergeK [] kvs).length ≤ sizeLine := by
    have h1 := length_mergeK kvs []
    rw [List.length_nil] at h1
    rw [sizeLine_eq]; omega
  have he : ∃ q, h'.get? s.heap.objs.size = some q := let ⟨q, _, _, hq, _⟩ := dd'; ⟨q, hq⟩
  exact d_write I2 (by rw [e]; exact True.intro) hs he (dk_new hz hd (rk.merge .nil) dd')


/-! ### methods -/
/-- a method call o.m(e) of a built-in, with one argument: what must be seen of the text -/
structure M1 (X : Cx) (o : Expr) (m : Str) (apos : Pos) (e : Expr) (cpos : Pos) : Prop where
  base : attributeBase o m X.env (eval o X.env) = eval o X.env
  few : ((backTo cpos (starEach [e] X.env)).all (fun x => !x.1) && (backToKw cpos (keywordEach [] X.env)).all (fun x => x.1.isSome)
    && decide (([e] : List Expr).length + ([] : List Keyword).length + (if ([] : List Keyword).isEmpty then 0 else 1) < 30)) = true
  line : (apos.endLine == cpos.line) = true
  trees : backTo cpos (starEach [e] X.env) = [(false, eval e X.env)]
structure M2 (X : Cx) (o : Expr) (m : Str) (apos : Pos) (e f : Expr) (cpos : Pos) : Prop where
  base : attributeBase o m X.env (eval o X.env) = eval o X.env
  few : ((backTo cpos (starEach [e, f] X.env)).all (fun x => !x.1) && (backToKw cpos (keywordEach [] X.env)).all (fun x => x.1.isSome)
    && decide (([e, f] : List Expr).length + ([] : List Keyword).length + (if ([] : List Keyword).isEmpty then 0 else 1) < 30)) = true
  line : (apos.endLine == cpos.line) = true
  trees : backTo cpos (starEach [e, f] X.env) = [(false, eval e X.env), (false, eval f X.env)]

/-- a is a dict, whatever its keys -/
def IsD (H : Hp) (a : Addr) : Prop := (∃ kvs, Rd H a (.dK kvs)) ∨ ∃ kvs, Rd H a (.dT kvs)
theorem isD_at {X : Cx} {pins : List (Addr × Obj)} {σ : St} {H : Hp} {s : Shared} {a : Addr} (I : Inv X pins σ H s) (d : IsD H a) :
    s.TypeIs (.ref a) "dict" ∧ (∀ b, Value.ref a = .ref b → ∃ ob, s.heap.get? b = some ob ∧ ob.dict = none) ∧ (a == sysModules) = false := by
  rcases d with ⟨kvs, e⟩ | ⟨kvs, e⟩
  · obtain ⟨_, hd, vs, _, dd⟩ := dk_rd I.hok e
    refine ⟨dd.typeIs, fun b q => ?_, hd⟩
    cases q
    obtain ⟨ob, _, _, h1, h2, _⟩ := dd
    exact ⟨ob, h1, h2.2.1⟩
  · obtain ⟨_, hd, xs, _, dd⟩ := dt_rd I.hok e
    refine ⟨dd.typeIs, fun b q => ?_, hd⟩
    cases q
    obtain ⟨ob, _, _, h1, h2, _⟩ := dd
    exact ⟨ob, h1, h2.2.1⟩

section
variable {X : Cx} {pins : List (Addr × Obj)} {σ : St} {H : Hp} {s : Shared} {a : Addr} {y d : V} {u r : Value} {o : Option V} {A : Around} {E : Value → Shared → Prop}
/-- d.get(y, x) -/
theorem d_get2 {Q : Value → Shared → Prop} (hu : A.units + 1 < cLine) (I : Inv X pins σ H s) (g : DGet H a y o) (ry : RelV y u) (rd : RelV d r) (h : ∀ w' s', Inv X pins σ H s' → RelV (o.getD d) w' → Q w' s') :
    wpAny (model X.prog X.w) A (call (.builtin "dict.get") [.ref a, u, r]) Q E s := by
  rcases g with ⟨kvs, k, e, ey, l⟩ | ⟨kvs, k, b, e, ey, eb, l⟩
  · subst ey
    obtain ⟨z, hd, vs, rel, dd⟩ := dk_rd I.hok e
    refine call_meetsIn PySem.F.slot_dict_get dd.typeIs PySem.F.entry_dict_get (PySem.F.args_dict_get_3 _ _ _) (meets_dict_get_default (mixKind X.prog X.w) a (kV_is ry) hd r) ⟨_, dd.mapOf, h _ _ (I.tok _) ?_⟩
    rw [l]
    exact (rel.val k).getD rd
  · subst ey
    cases (show u = Value.ref b from ry)
    obtain ⟨z, hd, xs, rel, dd⟩ := dt_rd I.hok e
    refine call_meetsIn PySem.F.slot_dict_get dd.typeIs PySem.F.entry_dict_get (PySem.F.args_dict_get_3 _ _ _) (meetsH_dict_get_default (tupleKind (mixKind X.prog X.w)) a b hd r) ⟨tupleKind_room_in1 hu, k, xs, key_of I.hok eb, dd, h _ _ (I.tok _) ?_⟩
    rw [l]
    exact (rel.val k).getD rd
end

def tDGet1 (td ty : TE) : TE := fun σ H Q => td σ H fun x H1 => ∃ a, x = .ref a ∧ IsD H1 a ∧ ty σ H1 fun y H2 => ∃ o, DGet H2 a y o ∧ Q (o.getD .non) H2
def tDGet2 (td ty tx : TE) : TE := fun σ H Q => td σ H fun x H1 => ∃ a, x = .ref a ∧ IsD H1 a ∧ ty σ H1 fun y H2 => tx σ H2 fun z H3 => ∃ o, DGet H3 a y o ∧ Q (o.getD z) H3
/-- d.pop(k): there; d.pop(k, x): there or not -/
def tDPop1 (td ty : TE) : TE := fun σ H Q => td σ H fun x H1 => ∃ a, x = .ref a ∧ IsD H1 a ∧ ty σ H1 fun y H2 => ∃ kvs k v, H2 a = some (.dK kvs) ∧ y = kV k ∧ valV kvs k = some v ∧ Q v (upd H2 a (.dK (dropK kvs k)))
def tDPop2 (td ty tx : TE) : TE := fun σ H Q => td σ H fun x H1 => ∃ a, x = .ref a ∧ IsD H1 a ∧ ty σ H1 fun y H2 => tx σ H2 fun z H3 => ∃ kvs k, H3 a = some (.dK kvs) ∧ y = kV k ∧
  (∀ v, valV kvs k = some v → Q v (upd H3 a (.dK (dropK kvs k)))) ∧ (valV kvs k = none → Q z H3)
section
variable {X : Cx} {o e f : Expr} {apos cpos : Pos} {td ty tx : TE}
theorem pe_dget2 (hu : X.A.units + 1 < cLine) (ho : PE X o td) (he : PE X e ty) (hf : PE X f tx) (m : M2 X o "get" apos e f cpos) : PE X (.Call (.Attribute o "get" apos) [e, f] [] cpos) (tDGet2 td ty tx) := by
  intro pins s σ H Q I h
  refine wpAny_Call_method m.base m.few m.line PySem.F.plainAttrs_dict PySem.F.slot_dict_get PySem.F.type_dict_get (thn (ho pins s σ H _ I h) fun u s1 ⟨x, H1, I1, rx, a, ex, d, q1⟩ => ?_)
  subst ex
  obtain rfl : u = Value.ref a := rx
  obtain ⟨t1, t2, _⟩ := isD_at I1 d
  refine ⟨t1, t2, ?_⟩
  rw [m.trees]
  refine Calls.callWith_builtin rfl (Calls.evalArgs_plain (Calls.spliced_cons (thn (he pins s1 σ H1 _ I1 q1) fun iv s2 ⟨y, H2, I2, ry, q2⟩ =>
    Calls.spliced_cons (thn (hf pins s2 σ H2 _ I2 q2) fun fv s3 ⟨z, H3, I3, rz, ov, g, q3⟩ => Calls.spliced_nil ?_))))
  exact d_get2 hu I3 g ry rz fun w' s4 I4 rw' => ⟨_, H3, I4, rw', q3⟩
end

/-! ### dict(d): a copy -/
section
variable {X : Cx} {pins : List (Addr × Obj)} {σ : St} {H : Hp} {s : Shared} {a : Addr} {kvs : List (Key × V)} {A : Around} {E : Value → Shared → Prop}
theorem d_copyOf {Q : Value → Shared → Prop} (I : Inv X pins σ H s) (e : Rd H a (.dK kvs)) (h : ∀ p s', H p = none → Inv X pins σ (upd H p (.dK kvs)) s' → Q (.ref p) s') : wpAny (model X.prog X.w) A (call (.type "dict") [.ref a]) Q E s := by
  obtain ⟨z, hd, vs, rel, dd⟩ := dk_rd I.hok e
  refine kt_call_dict hd dd (by rw [← rel.length]; exact z) fun h' dd' hs => ?_
  refine h _ _ (I.hok.fresh (Nat.le_refl _)) (I.laid (a := s.heap.objs.size) (o := .dK kvs) (t' := s.toks) (fun b q hq => ?_) (Nat.le_refl _) (dk_new z (beq_eq_false_iff_ne.mpr (Ne.symm (Nat.ne_of_lt I.big))) rel dd'))
  exact (hs.2 b (Nat.ne_of_lt (Heap.lt_size hq))).trans (Heap.get?_push_of_some _ hq)
end


section
variable {X : Cx} {pins : List (Addr × Obj)} {σ : St} {H : Hp} {s : Shared} {a : Addr} {y : V} {u : Value} {A : Around} {E : Value → Shared → Prop}
end
section
variable {X : Cx}
end
/-! ### a dict's pairs: keys that differ -/
section
variable {κ : Type} [DecidableEq κ]
theorem nd_snoc : ∀ {l : List κ} {k : κ}, l.Nodup → ¬ k ∈ l → (l ++ [k]).Nodup
  | [], k, _, _ => by simp
  | a :: r, k, h, hk => by
    obtain ⟨h1, h2⟩ := List.nodup_cons.mp h
    show (a :: (r ++ [k])).Nodup
    refine List.nodup_cons.mpr ⟨fun m => ?_, nd_snoc h2 fun m => hk (List.mem_cons.mpr (Or.inr m))⟩
    rcases List.mem_append.mp m with q | q
    · exact h1 q
    · exact hk (List.mem_cons.mpr (Or.inl (List.mem_singleton.mp q).symm))
end
end L2

set_option Elab.async false
set_option linter.all false
set_option maxRecDepth 100000
set_option maxHeartbeats 4000000
/-! dicts over the sealed judgements; list(d), dict(d), sorted of a list of texts, d != e -/
namespace L2
open PySem PySem.Spec PyProof.Rows
section
variable {X : Cx}
theorem qe_dnew {pos : Pos} : QE X (.Dict [] [] pos) tDNewK := ⟨pe_dnewK⟩
theorem qe_disp1 {pos : Pos} {k v : Expr} {tk tv : TE} (hk : QE X k tk) (hv : QE X v tv) : QE X (.Dict [some k] [v] pos) (tDisp [(tk, tv)]) := ⟨pe_disp (pps_cons hk.run hv.run pps_nil) rfl rfl (by simp) (by simp)⟩
theorem qe_dget {o i : Expr} {pos : Pos} {td ty : TE} (hu : X.A.units + 1 < cLine) (ho : QE X o td) (hi : QE X i ty) (hs : NoSl i) : QE X (.Subscript o i pos) (tDGet td ty) := ⟨pe_dget hu ho.run hi.run hs⟩
theorem qt_din {o i : Expr} {pos : Pos} {td ty : TE} (hu : X.A.units + 1 < cLine) (hi : QE X i ty) (ho : QE X o td) (hm : behindInMarks .In o = false := by with_unfolding_all rfl) : QT X (.Compare i [.In] [o] pos) (tB (tDIn ty td)) := ⟨pt_cmp (pc_din hu hi.run ho.run) hm⟩
theorem qs_dput {o i value : Expr} {pos pos' : Pos} {td ty tv : TE} (hu : X.A.units + 1 < cLine) (ho : QE X o td) (hi : QE X i ty) (hv : QE X value tv) (hs : swapsWith value (some (.Subscript o i pos')) pos.line X.env = pure false := by rfl) :
    QS X (.Assign [.Subscript o i pos'] value pos) (sDPut td ty tv) := ⟨ps_dput hu ho.run hi.run hv.run hs⟩
theorem qe_dget2 {o e f : Expr} {apos cpos : Pos} {td ty tx : TE} (hu : X.A.units + 1 < cLine) (ho : QE X o td) (he : QE X e ty) (hf : QE X f tx) (m : M2 X o "get" apos e f cpos := by exact ⟨rfl, rfl, rfl, rfl⟩) :
    QE X (.Call (.Attribute o "get" apos) [e, f] [] cpos) (tDGet2 td ty tx) := ⟨pe_dget2 hu ho.run he.run hf.run m⟩
/-- dict(d) -/
theorem call_dict : CallR X (.type "dict") (fun xs H Q => ∃ a kvs, xs = [V.ref a] ∧ H a = some (.dK kvs) ∧ ∀ p, H p = none → Q (.ref p) (upd H p (.dK kvs))) := by
  intro pins s σ H xs us Q I r h
  obtain ⟨a, kvs, rfl, ha, q⟩ := h
  obtain ⟨u, rfl, ru⟩ := vals1 r
  cases ru
  exact d_copyOf I (.inl ha) fun p s' hp I' => ⟨.ref p, _, I', rfl, q p hp⟩
theorem key_rel {P : Program} {w : World} {k : Key} {v : Value} (h : (mixKind P w).is k v = true) : RelV (kV k) v := by
  rcases keyIs_shape h with ⟨i, t, rfl, rfl⟩ | ⟨x, t, rfl, rfl⟩
  · exact ⟨t, rfl⟩
  · exact ⟨t, rfl⟩
theorem vals_nth : ∀ {ks : List V} {vs : List Value}, vs.length = ks.length → (∀ (j : Nat) (v : Value), vs[j]? = some v → ∃ y, ks[j]? = some y ∧ RelV y v) → Vals ks vs
  | [], [], _, _ => .nil
  | k :: ks, v :: vs, hl, h => by
    obtain ⟨y, e, r⟩ := h 0 v rfl
    cases e
    exact .cons r (vals_nth (by simpa using hl) fun j u hu => h (j + 1) u (by simpa using hu))
/-- list(d): its keys, as they came -/
theorem call_list_dict (hc : X.calm = true) : CallR X (.type "list") (fun xs H Q => ∃ a kvs, xs = [V.ref a] ∧ H a = some (.dK kvs) ∧ ∀ p, H p = none → Q (.ref p) (upd H p (.lst (kvs.map fun kv => kV kv.1)))) := by
  intro pins s σ H xs us Q I r h
  obtain ⟨a, kvs, rfl, ha, q⟩ := h
  obtain ⟨u, rfl, ru⟩ := vals1 r
  cases ru
  obtain ⟨z, hd, vs, rel, dd⟩ := dk_rd I.hok (.inl ha)
  have hl := rel.length
  obtain ⟨ep, da⟩ := dd.dictAt
  refine PySem.W.kdl_call (PySem.W.kdl_dict hd) (I.ok.hd hc) da (by rw [← hl]; exact z) fun h' tk acc c hk hD hacc => ?_
  refine ⟨.ref s.heap.objs.size, _, I.laid (t' := tk) hk (Nat.le_refl _) (show ObjOk X.prog X.w _ h' _ (.lst (kvs.map fun kv => kV kv.1)) from ⟨by rw [List.length_map]; exact z, acc.toList, c, ?_, by simpa using hD⟩), rfl, q _ (I.hok.fresh (Nat.le_refl _))⟩
  refine vals_nth (by rw [Array.length_toList, List.length_map, hl]; exact hacc.1) fun j v hv => ?_
  obtain ⟨k, x, e, ke⟩ := hacc.2 j v (by rw [← Array.getElem?_toList]; exact hv)
  have ek := rel.keys
  have e2 : (vs.map (·.1))[j]? = some k := by rw [List.getElem?_map, e]; rfl
  rw [← ek, List.getElem?_map] at e2
  refine ⟨kV k, ?_, key_rel ke⟩
  rw [List.getElem?_map]
  cases hj : kvs[j]? with
  | none => rw [hj] at e2; cases e2
  | some p => rw [hj] at e2; rw [← Option.some.inj e2]; rfl
/-- sorted(xs) of a list of texts -/
theorem call_sorted_strs : CallR X (.builtin "sorted") (fun vs H Q => ∃ (a : Addr) (ss : List Str), vs = [.ref a] ∧ SqL X.K H a (ss.map V.str) ∧ ss.length < 64 ∧
    ∀ p zs, H p = none → zs.Perm ss → sortedS zs = true → Q (.ref p) (upd H p (.lst (zs.map V.str)))) := by
  intro pins s σ H vs us Q I r h
  obtain ⟨a, ss, rfl, hq, hz, q⟩ := h
  obtain ⟨u, rfl, ru⟩ := r.one
  cases ru
  obtain ⟨its, rv, p, _⟩ := I.list hq
  have hs := vals_strs rv
  have hl : its.length = ss.length := hs.length
  refine sorted_strs p.isList hs (by omega) fun out zs a1 a2 a3 => ?_
  obtain ⟨e, he⟩ := sortedAll_at s.heap its out
  have fr : H (s.heap.objs.size + 1) = none := I.hok.fresh (Nat.le_succ _)
  have hzl : zs.length < 64 := by rw [a2.length_eq]; exact hz
  exact ⟨.ref (s.heap.objs.size + 1), upd H (s.heap.objs.size + 1) (.lst (zs.map V.str)), I.laid (t' := s.toks) (fun b o hb => sortedAll_old hb) (Nat.le_succ _) ⟨by rw [List.length_map]; exact Nat.le_of_lt (small1000 (by omega)), out.toList, e, strs_vals a1, by simpa [seqObj] using he⟩, rfl, q _ zs fr a2 a3⟩
end
/-! ### d != e -/
theorem valueAt_mem : ∀ {ks : List (Key × Value)} {k : Key} {v : Value}, (ks.map (·.1)).Nodup → (k, v) ∈ ks → valueAt ks k = some v
  | [], _, _, _, hm => by simp at hm
  | q :: r, k, v, hnd, hm => by
    rw [List.map_cons, List.nodup_cons] at hnd
    unfold valueAt
    by_cases hq : q.1 = k
    · rcases List.mem_cons.mp hm with rfl | hm'
      · simp
      · exact absurd (List.mem_map.mpr ⟨(k, v), hm', hq.symm⟩) hnd.1
    · rcases List.mem_cons.mp hm with rfl | hm'
      · exact absurd rfl hq
      · have := valueAt_mem hnd.2 hm'
        unfold valueAt at this
        simp only [List.find?_cons]
        simp [hq, this]
/-- values that == tells to be themselves -/
def selfV : V → Bool
  | .byt _ => false
  | .flt _ => false
  | _ => true
theorem eqAt_rel {A : Around} {s : Shared} {v : V} {u u' : Value} (hv : selfV v = true) (r : RelV v u) (r' : RelV v u') : SeqAt.EqAt A s u u' true := by
  cases v with
  | non => cases r; cases r'; exact SeqAt.EqAt.same _
  | bl b => cases r; cases r'; exact SeqAt.EqAt.same _
  | int i =>
    obtain ⟨t, rfl⟩ := r
    obtain ⟨t', rfl⟩ := r'
    have := SeqAt.EqAt.int_int (A := A) (s := s) i t i t'
    simpa using this
  | str x =>
    obtain ⟨t, rfl⟩ := r
    obtain ⟨t', rfl⟩ := r'
    have := SeqAt.EqAt.str_str (A := A) (s := s) x t x t'
    simpa using this
  | byt b => cases hv
  | flt b => cases hv
  | ref a => cases r; cases r'; exact SeqAt.EqAt.same _
  | ty n => cases r; cases r'; exact SeqAt.EqAt.same _
theorem keq_hits {A : Around} {s : Shared} {kb : List (Key × Value)} : ∀ ls : List (Key × Value), (∀ p ∈ ls, ∃ y, valueAt kb p.1 = some y ∧ SeqAt.EqAt A s p.2 y true) → PySem.W.KeqHits A s kb ls true
  | [], _ => .nil
  | (k, v) :: ls, h => by
    obtain ⟨y, e1, e2⟩ := h (k, v) (List.mem_cons_self ..)
    have := PySem.W.KeqHits.hit (A := A) (s := s) (kb := kb) e1 e2 (keq_hits ls fun p hp => h p (List.mem_cons_of_mem _ hp))
    simpa using this
section
variable {X : Cx}
theorem dict_nodup {P : Program} {w : World} {h : Heap} {a : Addr} {vs : List (Key × Value)} (d : h.DictOf (mixKind P w) a vs) : (vs.map (·.1)).Nodup := by
  obtain ⟨_, _, _, _, _, _, _, _, hn⟩ := d
  exact hn
theorem same_hits {s : Shared} {kvs : List (Key × V)} {ka kb : List (Key × Value)} {A : Around} (hs : ∀ p ∈ kvs, selfV p.2 = true) (ra : KV kvs ka) (rb : KV kvs kb) (na : (ka.map (·.1)).Nodup) : PySem.W.KeqHits A s kb ka true := by
  refine keq_hits ka fun p hp => ?_
  have e1 := valueAt_mem (k := p.1) (v := p.2) na hp
  have r1 := ra.val p.1
  have r2 := rb.val p.1
  rw [e1] at r1
  cases hv : valV kvs p.1 with
  | none => rw [hv] at r1; exact r1.elim
  | some v =>
    rw [hv] at r1 r2
    have hm : ∃ q ∈ kvs, q.2 = v := by
      unfold valV at hv
      cases hf : kvs.find? (fun kv => decide (kv.1 = p.1)) with
      | none => rw [hf] at hv; cases hv
      | some q => rw [hf] at hv; exact ⟨q, List.mem_of_find?_eq_some hf, Option.some.inj hv⟩
    obtain ⟨q, hq, rfl⟩ := hm
    cases hy : valueAt kb p.1 with
    | none => rw [hy] at r2; exact r2.elim
    | some y =>
      rw [hy] at r2
      exact ⟨y, rfl, eqAt_rel (hs q hq) r1 r2⟩
def rNeSame : R2 := fun x y H Q => ∃ a b kvs, x = .ref a ∧ y = .ref b ∧ H a = some (.dK kvs) ∧ H b = some (.dK kvs) ∧ (∀ p ∈ kvs, selfV p.2 = true) ∧ Q (.bl false) H
/-- d != e of two with the same pairs -/
theorem op_neSame (hu : X.A.units + 1 < cLine) : OpR X (compareOp .NotEq) rNeSame := by
  intro pins s σ H x y v u Q I rx ry h
  obtain ⟨a, b, kvs, rfl, rfl, ha, hb, hs, q⟩ := h
  cases rx
  cases ry
  obtain ⟨z, da, va, ra, dda⟩ := dk_rd I.hok (.inl ha)
  obtain ⟨_, db, vb, rb, ddb⟩ := dk_rd I.hok (.inl hb)
  have hl : va.length = vb.length := by rw [← ra.length, ← rb.length]
  refine PySem.W.keq_ne (r := true) da db dda ddb (by omega) (fun _ => same_hits hs ra rb (dict_nodup dda)) ⟨.bl false, H, I, ?_, q⟩
  rw [hl]
  simp [RelV]
end
theorem cl_has {L : List (Str × NameKind)} {cl : List (Str × Addr)} {ks : List Str} (hkm : cl.map (·.1) = ks) (hkB : (L.all fun y => (match y.2 with | .cell => false | .free => false | _ => true) || decide (y.1 ∈ ks)) = true) (z : Str) (h : L.lookup z = some .cell ∨ L.lookup z = some .free) : ∃ c, cl.lookup z = some c := by
  have hm : z ∈ cl.map (·.1) := by
    rw [hkm]
    rcases h with h | h
    · have := List.all_eq_true.mp hkB _ (PySem.mem_of_lookup h)
      simpa using this
    · have := List.all_eq_true.mp hkB _ (PySem.mem_of_lookup h)
      simpa using this
  clear hkm hkB
  induction cl with
  | nil => simp at hm
  | cons p r ih =>
    rw [List.lookup_cons]
    cases hb : z == p.1 with
    | true => exact ⟨_, rfl⟩
    | false =>
      rw [List.map_cons, List.mem_cons] at hm
      rcases hm with h1 | h1
      · rw [h1] at hb; simp at hb
      · exact ih h1
/-- a comprehension whose block has names of the def's, those of all its cells, and whatever of the module -/
theorem qe_compF {X : Cx} {elt iter : Expr} {x : Str} {px pos : Pos} {ifs : List Expr} {sc : Scope} {cl : List (Str × Addr)} {wi : TI} {tc : TT} {te : TE} (N : List Str) (ix : List Nat) (hi : QI X (.Name x px) iter wi)
    (hif : ∀ s H C ex, QTs (blk X N s H sc cl C ex) ifs tc) (he : ∀ s H C ex, QE (blk X N s H sc cl C ex) elt te)
    (hcl : closureFor sc X.env = pure cl := by rfl) (hcs : X.env.cells = cl := by rfl) (hN : N = x :: ix.map (fun j => (X.N[j]?).getD "") := by rfl) (hnd : N.Nodup := by decide +kernel)
    (hkm : cl.map (·.1) = N.tail := by rfl) (hkB : ((relabel sc X.env).names.all fun y => (match y.2 with | .cell => false | .free => false | _ => true) || decide (y.1 ∈ N.tail)) = true := by with_unfolding_all rfl)
    (hix : ∀ j ∈ ix, ∃ y, X.N[j]? = some y ∧ X.env.kindOf y = some .cell ∧ (relabel sc X.env).names.lookup y = some .cell := by first | (intro j hj; simp only [List.mem_cons, List.not_mem_nil, or_false] at hj; subst hj; exact ⟨_, rfl, rfl, by with_unfolding_all rfl⟩) | (intro j hj; simp only [List.mem_cons, List.not_mem_nil, or_false] at hj; rcases hj with rfl | rfl <;> exact ⟨_, rfl, rfl, by with_unfolding_all rfl⟩))
    (hx : sc.names.lookup x = some .local := by decide +kernel) (hcell : ∀ z ∈ sc.names, z.2 ≠ .cell := by decide +kernel)
    (hnames : ∀ z ∈ sc.names, z.2 = .local → sc.names.lookup z.1 = some .local := by decide +kernel)
    (hc : X.calm = true := by rfl) (hkind : sc.kind = .function := by rfl) (hs : ∀ x, foldedSetIterable iter X.env x = pure x := by intro _; rfl) :
    QE X (.ListComp elt [⟨.Name x px, iter, ifs, 0⟩] sc pos) (tComp ix wi tc te) :=
  ⟨pe_comp N hc hi.run (fun s H C ex => (hif s H C ex).run) (fun s H C ex => (he s H C ex).run) hkind hN hnd hx hcl hcell hnames (fun z c' e => by rw [hcs]; exact e) (cl_has hkm hkB) hix hs⟩
/-- y = [..] on one row, likewise -/
theorem qs_setCF {X : Cx} {elt iter : Expr} {x yv : Str} {px pos py pos2 : Pos} {i : Nat} {ifs : List Expr} {sc : Scope} {cl : List (Str × Addr)} {wi : TI} {tc : TT} {te : TE} (N : List Str) (ix : List Nat) (hNd : X.N.Nodup) (hiy : X.N[i]? = some yv) (hyv : Loc X.env.scope yv) (hi : QI X (.Name x px) iter wi)
    (hif : ∀ s H C ex, QTs (blk X N s H sc cl C ex) ifs tc) (he : ∀ s H C ex, QE (blk X N s H sc cl C ex) elt te)
    (hsw : swapsWith (.ListComp elt [⟨.Name x px, iter, ifs, 0⟩] sc pos) (some (.Name yv py)) pos2.line X.env = pure true := by rfl) (hfy : X.fn yv = true ∨ X.env.scope.names.lookup yv = some .local := by first | exact .inl rfl | exact .inr rfl | assumption)
    (hcl : closureFor sc X.env = pure cl := by rfl) (hcs : X.env.cells = cl := by rfl) (hN : N = x :: ix.map (fun j => (X.N[j]?).getD "") := by rfl) (hnd : N.Nodup := by decide +kernel)
    (hkm : cl.map (·.1) = N.tail := by rfl) (hkB : ((relabel sc X.env).names.all fun y => (match y.2 with | .cell => false | .free => false | _ => true) || decide (y.1 ∈ N.tail)) = true := by with_unfolding_all rfl)
    (hix : ∀ j ∈ ix, ∃ y, X.N[j]? = some y ∧ X.env.kindOf y = some .cell ∧ (relabel sc X.env).names.lookup y = some .cell := by first | (intro j hj; simp only [List.mem_cons, List.not_mem_nil, or_false] at hj; subst hj; exact ⟨_, rfl, rfl, by with_unfolding_all rfl⟩) | (intro j hj; simp only [List.mem_cons, List.not_mem_nil, or_false] at hj; rcases hj with rfl | rfl <;> exact ⟨_, rfl, rfl, by with_unfolding_all rfl⟩))
    (hx : sc.names.lookup x = some .local := by decide +kernel) (hcell : ∀ z ∈ sc.names, z.2 ≠ .cell := by decide +kernel)
    (hnames : ∀ z ∈ sc.names, z.2 = .local → sc.names.lookup z.1 = some .local := by decide +kernel)
    (hc : X.calm = true := by rfl) (hkind : sc.kind = .function := by rfl) (hs : ∀ x, foldedSetIterable iter X.env x = pure x := by intro _; rfl) :
    QS X (.Assign [.Name yv py] (.ListComp elt [⟨.Name x px, iter, ifs, 0⟩] sc pos) pos2) (tAsg (tComp ix wi tc te) (gName i)) :=
  ⟨ps_setcomp N hNd hiy hyv hsw hfy hc hi.run (fun s H C ex => (hif s H C ex).run) (fun s H C ex => (he s H C ex).run) hkind hN hnd hx hcl hcell hnames (fun z c' e => by rw [hcs]; exact e) (cl_has hkm hkB) hix hs⟩
/-- a comprehension whose values are new rows: rs what the items are, told by the turn -/
theorem comp_rows {α β : Type} {J : It} {H1 : Hp} {σ : St} {ix : List Nat} {te : TE} {Q : VK} {I0 : Hp → Prop} (xs : List V) (rs : List α) (R : Hp → Addr → β → Prop) (f : α → β) (hJ : JSeq J I0 xs) (h0 : I0 H1) (hz : xs.length ≤ 1000) (hl : rs.length = xs.length)
    (hR : ∀ H H' a r, R H a r → (∀ b u, H b = some u → (∀ ys, u ≠ .lst ys) → H' b = some u) → R H' a r)
    (he : ∀ (i : Nat) (x : V) (r : α), xs[i]? = some x → rs[i]? = some r → ∀ H2, Same H1 H2 → ∀ Q' : VK, (∀ t H3, Same H2 H3 → R H3 t (f r) → Q' (.ref t) H3) → te (some x :: frees σ ix) H2 Q')
    (hQ : ∀ D H' as, H1 D = none → Same H1 H' → H' D = some (.lst (as.map V.ref)) → Paired (fun a r => R H' a r) as (rs.map f) → Q (.ref D) H') : CompGo J H1 σ ix tYes te Q := by
  intro D hD
  have put : ∀ H ys, Same H1 H → Same H1 (upd H D (.lst ys)) := fun H ys e b u q => by rw [upd_ne (ne_of_none q hD)]; exact e b u q
  refine ⟨fun i m H => i ≤ xs.length ∧ m = xs.length - i ∧ Same H1 H ∧ ∃ as : List Addr, H D = some (.lst (as.map V.ref)) ∧ Paired (fun a r => R H a r) as ((rs.take i).map f), ⟨xs.length, Nat.zero_le _, rfl, put _ _ (Same.refl _), [], upd_same, by simpa using Paired.nil⟩, ?_⟩
  rintro i m H ⟨hi, rfl, e, as, hy, hp⟩
  have hI := hJ.stay _ _ h0 e
  by_cases hlt : i < xs.length
  · refine .inr ⟨hJ.go i H hI hlt, fun x H' hy' => ?_⟩
    obtain ⟨rfl, hx⟩ := hJ.yld i H x H' hlt hI hy'
    have hri : i < rs.length := by omega
    have hr : rs[i]? = some rs[i] := List.getElem?_eq_getElem hri
    have ht : rs.take (i + 1) = rs.take i ++ [rs[i]] := by rw [List.take_add_one, hr]; rfl
    have hlen : as.length = i := by
      have h1 := Paired.length hp
      rw [List.length_map, List.length_take] at h1
      omega
    dsimp only [tYes]
    rw [if_pos rfl]
    refine he i x rs[i] hx hr _ e _ fun t H4 e4 hR4 => ?_
    have hput : ∀ b u, H4 b = some u → (∀ ys, u ≠ .lst ys) → upd H4 D (.lst (as.map V.ref ++ [.ref t])) b = some u := fun b u q hn => by
      have : b ≠ D := fun z => by rw [z, e4 _ _ hy] at q; exact hn _ (Option.some.inj q).symm
      rw [upd_ne this]; exact q
    refine ⟨as.map V.ref, e4 _ _ hy, by rw [List.length_map, hlen]; exact Nat.lt_of_lt_of_le hlt (Nat.le_trans hz (by decide)), xs.length - (i + 1), by omega, hlt, rfl, put _ _ (e.trans e4), as ++ [t], by rw [upd_same, List.map_append]; rfl, ?_⟩
    rw [ht, List.map_append]
    exact Paired.snocP (Paired.mapP hp fun a r z => hR _ _ _ _ (hR _ _ _ _ z fun b u q _ => e4 b u q) hput) (hR _ _ _ _ hR4 hput)
  · have hi' : i = xs.length := by omega
    subst hi'
    refine .inl ⟨hJ.stop _ H hI (Nat.le_refl _), ?_⟩
    rw [← hl, List.take_length] at hp
    exact hQ D H as hD e hy hp
end L2

set_option Elab.async false
set_option linter.all false
set_option maxRecDepth 100000
set_option maxHeartbeats 4000000
/-! sep.join and .split undo each other, where no piece has the separator's first sign -/
namespace Spl
open PySem PySem.StrLaws PySem.Builtin PySem.Builtin.Str
section
variable (x y : Str)
/-- the cuts from place i on, n places, none ahead of f -/
def cuts : Nat → Nat → Nat → List Nat
  | _, 0, _ => []
  | i, n + 1, f => if f ≤ i ∧ i + y.length ≤ x.length ∧ subAt x y i = true then i :: cuts (i + 1) n (i + y.length) else cuts (i + 1) n f
theorem occ_cuts (hy : 1 ≤ y.length) : ∀ (n i : Nat) (st : Array Nat × Nat), st.fst.size ≤ st.snd → (st.fst.size ≤ i) → i + n = x.length + 1 →
    (forIn (List.range' i n) st (occBody x y x.length (x.length + 1))).run.fst.toList = st.fst.toList ++ cuts x y i n st.snd
  | 0, i, st, _, _, _ => by simp [cuts]
  | n + 1, i, st, h1, h2, h3 => by
    rw [List.range'_succ, List.forIn_cons]
    unfold occBody
    by_cases hc : st.snd ≤ i ∧ i + y.length ≤ x.length ∧ subAt x y i = true
    · rw [if_pos ⟨⟨⟨by omega, hc.1⟩, hc.2.1⟩, hc.2.2⟩]
      have ih := occ_cuts hy n (i + 1) (st.fst.push i, i + y.length) (by show (st.fst.push i).size ≤ _; rw [Array.size_push]; omega) (by show (st.fst.push i).size ≤ _; rw [Array.size_push]; omega) (by omega)
      have e : cuts x y i (n + 1) st.snd = i :: cuts x y (i + 1) n (i + y.length) := by rw [cuts, if_pos hc]
      rw [e]
      refine Eq.trans ih ?_
      show (st.fst.push i).toList ++ _ = _
      rw [Array.toList_push, List.append_assoc]
      rfl
    · rw [if_neg (fun h => hc ⟨h.1.1.2, h.1.2, h.2⟩)]
      have ih := occ_cuts hy n (i + 1) st h1 (by omega) (by omega)
      have e : cuts x y i (n + 1) st.snd = cuts x y (i + 1) n st.snd := by rw [cuts, if_neg hc]
      rw [e]
      exact ih
theorem cuts_skip (f : Nat) : ∀ (d i n : Nat), (∀ j, i ≤ j → j < i + d → ¬ (f ≤ j ∧ j + y.length ≤ x.length ∧ subAt x y j = true)) → cuts x y i (n + d) f = cuts x y (i + d) n f
  | 0, i, n, _ => rfl
  | d + 1, i, n, h => by
    have e : n + (d + 1) = (n + d) + 1 := by omega
    rw [e, cuts, if_neg (h i (Nat.le_refl _) (by omega)), cuts_skip f d (i + 1) n (fun j h1 h2 => h j (by omega) (by omega))]
    congr 1
    omega
end
/-- the pieces as lists of signs, put together -/
def glue (y : List Nat) : List (List Nat) → List Nat
  | [] => []
  | [p] => p
  | p :: q :: r => p ++ (y ++ glue y (q :: r))
theorem subAt_no {x y : Str} {i c0 : Nat} {y' : List Nat} (hy : y.cps.toList = c0 :: y') {d : Nat} (hx : x.cps.toList[i]? = some d) (hd : d ≠ c0) : ¬ subAt x y i = true := fun h => by
  rw [subAt_eq, beq_iff_eq] at h
  have hl : y.length = y'.length + 1 := by show y.cps.size = _; rw [← Array.length_toList, hy]; rfl
  rw [hl, hy] at h
  have h2 : ((x.cps.toList.drop i).take (y'.length + 1))[0]? = some c0 := by rw [h]; rfl
  rw [List.getElem?_take_of_lt (by omega), List.getElem?_drop, Nat.add_zero, hx] at h2
  exact hd (Option.some.inj h2)
theorem subAt_yes {x y : Str} {pre rest : List Nat} (hx : x.cps.toList = pre ++ (y.cps.toList ++ rest)) : subAt x y pre.length = true := by
  rw [subAt_eq, beq_iff_eq, hx, List.drop_left]
  have hl : y.length = y.cps.toList.length := (Array.length_toList ..).symm
  rw [hl, List.take_left]
theorem sub_mid {x : Str} {pre p rest : List Nat} (hx : x.cps.toList = pre ++ (p ++ rest)) : strSub x pre.length (pre.length + p.length) = ⟨p.toArray⟩ := by
  apply Str.ext'
  apply Array.toList_inj.mp
  rw [strSub_toList, hx, List.drop_left, Nat.add_sub_cancel_left, List.take_left]
theorem cuts_glue (x y : Str) (c0 : Nat) (y' : List Nat) (hy : y.cps.toList = c0 :: y') : ∀ (ps : List (List Nat)) (pre : List Nat), ps ≠ [] → (∀ p ∈ ps, ¬ c0 ∈ p) → x.cps.toList = pre ++ glue y.cps.toList ps →
    partsFrom x y.length pre.length (cuts x y pre.length (x.length + 1 - pre.length) pre.length) = ps.map fun p => (⟨p.toArray⟩ : Str)
  | [], _, h, _, _ => absurd rfl h
  | [p], pre, _, hp, hx => by
    have hx' : x.cps.toList = pre ++ p := hx
    have hxl : x.length = pre.length + p.length := by show x.cps.size = _; rw [← Array.length_toList, hx', List.length_append]
    have hyl : 1 ≤ y.length := by show 1 ≤ y.cps.size; rw [← Array.length_toList, hy]; simp
    have e0 : x.length + 1 - pre.length = 0 + (p.length + 1) := by omega
    have e1 : cuts x y pre.length (x.length + 1 - pre.length) pre.length = [] := by
      rw [e0, cuts_skip x y pre.length (p.length + 1) pre.length 0 (fun j h1 h2 hc => ?_)]
      · rfl
      · have hj : j < pre.length + p.length := by omega
        have hg : x.cps.toList[j]? = some (p[j - pre.length]'(by omega)) := by
          rw [hx', List.getElem?_append_right h1, List.getElem?_eq_getElem]
        refine subAt_no hy hg (fun e => hp p (List.mem_cons_self ..) (e ▸ List.getElem_mem _)) hc.2.2
    rw [e1]
    show [strSub x pre.length x.length] = _
    rw [hxl, sub_mid (rest := []) (by rw [List.append_nil]; exact hx')]
    rfl
  | p :: q :: r, pre, _, hp, hx => by
    have hx' : x.cps.toList = pre ++ (p ++ (y.cps.toList ++ glue y.cps.toList (q :: r))) := hx
    have hx2 : x.cps.toList = (pre ++ p) ++ (y.cps.toList ++ glue y.cps.toList (q :: r)) := by rw [hx', List.append_assoc]
    have hx3 : x.cps.toList = (pre ++ (p ++ y.cps.toList)) ++ glue y.cps.toList (q :: r) := by rw [hx']; simp only [List.append_assoc]
    have hyl0 : y.length = y.cps.toList.length := (Array.length_toList ..).symm
    have hyl : 1 ≤ y.length := by rw [hyl0, hy]; simp
    have hxl : x.length = pre.length + p.length + y.length + (glue y.cps.toList (q :: r)).length := by
      show x.cps.size = _
      rw [← Array.length_toList, hx2, List.length_append, List.length_append, List.length_append, hyl0]; omega
    have ih := cuts_glue x y c0 y' hy (q :: r) (pre ++ (p ++ y.cps.toList)) (by simp) (fun z hz => hp z (List.mem_cons_of_mem _ hz)) hx3
    have hpl : (pre ++ (p ++ y.cps.toList)).length = pre.length + p.length + y.length := by rw [List.length_append, List.length_append, hyl0]; omega
    rw [hpl] at ih
    have e0 : x.length + 1 - pre.length = (x.length + 1 - (pre.length + p.length)) + p.length := by omega
    have e1 : cuts x y pre.length (x.length + 1 - pre.length) pre.length = cuts x y (pre.length + p.length) (x.length + 1 - (pre.length + p.length)) pre.length := by
      rw [e0, cuts_skip x y pre.length p.length pre.length _ (fun j h1 h2 hc => ?_)]
      have hg : x.cps.toList[j]? = some (p[j - pre.length]'(by omega)) := by
        rw [hx', List.getElem?_append_right h1, List.getElem?_append_left (by omega), List.getElem?_eq_getElem]
      exact subAt_no hy hg (fun e => hp p (List.mem_cons_self ..) (e ▸ List.getElem_mem _)) hc.2.2
    have e2 : x.length + 1 - (pre.length + p.length) = (x.length + 1 - (pre.length + p.length + y.length) + (y.length - 1)) + 1 := by omega
    have hs : subAt x y (pre.length + p.length) = true := by
      have := subAt_yes hx2
      rwa [List.length_append] at this
    have e3 : cuts x y (pre.length + p.length) (x.length + 1 - (pre.length + p.length)) pre.length = (pre.length + p.length) :: cuts x y (pre.length + p.length + y.length) (x.length + 1 - (pre.length + p.length + y.length)) (pre.length + p.length + y.length) := by
      rw [e2, cuts, if_pos ⟨by omega, by omega, hs⟩, cuts_skip x y (pre.length + p.length + y.length) (y.length - 1) (pre.length + p.length + 1) _ (fun j h1 h2 hc => by omega)]
      congr 2
      omega
    rw [e1, e3]
    show strSub x pre.length (pre.length + p.length) :: partsFrom x y.length (pre.length + p.length + y.length) _ = _
    rw [ih, sub_mid hx']
    rfl
theorem occ_is (x y : Str) (hy : 1 ≤ y.length) : occurrences x y 0 x.length (x.length + 1) = cuts x y 0 (x.length + 1) 0 := by
  rw [occ_eq]
  have := occ_cuts x y hy (x.length + 1) 0 (#[], 0) (by simp) (by simp) (by omega)
  rw [Nat.sub_zero]
  refine this.trans ?_
  simp
/-- split of glued pieces -/
theorem split_glue (x y : Str) (c0 : Nat) (y' : List Nat) (hy : y.cps.toList = c0 :: y') (ps : List (List Nat)) (hne : ps ≠ []) (hp : ∀ p ∈ ps, ¬ c0 ∈ p) (hx : x.cps.toList = glue y.cps.toList ps) (hk : Builtin.Str.strKind y = 1) : Txt.split x y = ps.map fun p => (⟨p.toArray⟩ : Str) := by
  have hyl : 1 ≤ y.length := by show 1 ≤ y.cps.size; rw [← Array.length_toList, hy]; simp
  have key := cuts_glue x y c0 y' hy ps [] hne hp hx
  have key' : partsFrom x y.length 0 (cuts x y 0 (x.length + 1) 0) = ps.map fun p => (⟨p.toArray⟩ : Str) := key
  have hkx : 1 ≤ Builtin.Str.strKind x := by unfold Builtin.Str.strKind; split <;> (try split) <;> omega
  unfold Txt.split
  by_cases h1 : x.length < y.length
  · rw [if_pos (by rw [decide_eq_true h1]; rfl)]
    have hc : cuts x y 0 (x.length + 1) 0 = [] := by
      have := cuts_skip x y 0 (x.length + 1) 0 0 (fun j _ h2 hc => by omega)
      rw [Nat.zero_add] at this
      exact this
    rw [hc] at key'
    rw [← key']
    show [x] = [strSub x 0 x.length]
    rw [sub_whole]
  · have h2 : ¬ Builtin.Str.strKind x < Builtin.Str.strKind y := by rw [hk]; omega
    rw [if_neg (by rw [decide_eq_false h1, decide_eq_false h2]; simp), occ_is x y hyl]
    by_cases he : (cuts x y 0 (x.length + 1) 0).isEmpty = true
    · rw [if_pos he]
      have hc : cuts x y 0 (x.length + 1) 0 = [] := List.isEmpty_iff.mp he
      rw [hc] at key'
      rw [← key']
      show [x] = [strSub x 0 x.length]
      rw [sub_whole]
    · rw [if_neg he, partsBetween_eq]
      exact key'
theorem join_glue (sep : Str) : ∀ ps : List Str, (Str.join sep ps).cps.toList = glue sep.cps.toList (ps.map fun p => p.cps.toList)
  | [] => rfl
  | [p] => rfl
  | p :: q :: r => by
    show (p ++ sep ++ Str.join sep (q :: r)).cps.toList = p.cps.toList ++ (sep.cps.toList ++ glue sep.cps.toList ((q :: r).map fun p => p.cps.toList))
    rw [← join_glue sep (q :: r), Str.cps_append, Str.cps_append, Array.toList_append, Array.toList_append, List.append_assoc]
theorem str_back (p : Str) : (⟨p.cps.toList.toArray⟩ : Str) = p := by
  apply Str.ext'
  simp
/-- split undoes join -/
theorem split_join (y : Str) (c0 : Nat) (y' : List Nat) (hy : y.cps.toList = c0 :: y') (hk : Builtin.Str.strKind y = 1) (ps : List Str) (hne : ps ≠ []) (hp : ∀ p ∈ ps, ¬ c0 ∈ p.cps.toList) : Txt.split (Txt.join y ps) y = ps := by
  have e : Txt.join y ps = Str.join y ps := glued_eq_join y ps
  rw [e, split_glue _ y c0 y' hy (ps.map fun p => p.cps.toList) (by simpa using hne) (fun p hp' => ?_) (join_glue y ps) hk]
  · rw [List.map_map]
    refine Eq.trans (List.map_congr_left (g := fun p => p) fun p _ => str_back p) (List.map_id ps)
  · obtain ⟨q, hq, rfl⟩ := List.mem_map.mp hp'
    exact hp q hq
end Spl

set_option Elab.async false
set_option linter.all false
set_option maxRecDepth 100000
set_option maxHeartbeats 4000000
/-! what the program's defs answer, as plain functions -/
namespace Mir
open PySem L2
def letters : Str := "abcdefghijklmnopqrstuvwxyz"
def figures : Str := "0123456789"
def noNames : List Str := ["nil", "any", "is", "not", "cell", "stretch", "tree", "nothing", "then", "with"]
def okSign (c : Nat) : Bool := decide (c ∈ letters.cps.toList) || decide (c ∈ figures.cps.toList)
def headOk : List Nat → Bool
  | [] => false
  | c :: _ => decide (c ∈ letters.cps.toList)
def isName (x : Str) : Bool := if x = "" ∨ 8 < x.length ∨ x ∈ noNames then false else headOk x.cps.toList && x.cps.toList.all okSign
def isValue (x : Str) : Bool := decide (x = "nil") || isName x
theorem eqV_str (a b : Str) : eqV (.str a) (.str b) = decide (a = b) := by
  show (a == b) = decide (a = b)
  by_cases h : a = b
  · subst h; simp
  · rw [decide_eq_false h]; exact beq_eq_false_iff_ne.mpr h
theorem inV_strs (x : Str) (l : List Str) : inV (.str x) (l.map V.str) = decide (x ∈ l) := by
  unfold inV
  rw [Bool.eq_iff_iff, List.any_eq_true, decide_eq_true_eq]
  constructor
  · rintro ⟨y, hy, e⟩
    obtain ⟨z, hz, rfl⟩ := List.mem_map.mp hy
    rw [eqV_str, decide_eq_true_eq] at e
    exact e ▸ hz
  · intro h
    exact ⟨.str x, List.mem_map.mpr ⟨x, h, rfl⟩, by rw [eqV_str]; simp⟩
theorem flat_strs (l : List Str) : (l.map V.str).all flatV = true := by
  rw [List.all_eq_true]
  intro v hv
  obtain ⟨z, _, rfl⟩ := List.mem_map.mp hv
  rfl
end Mir

set_option Elab.async false
set_option linter.all false
set_option maxRecDepth 100000
set_option maxHeartbeats 4000000
namespace K3
open PySem L2 Mir
def top (i : Nat) : Stmt := PySem.Challenge.pw_apart_k03_tellings_read.main.body.getD i (.Pass ⟨0, 0, 0, 0⟩)
/-- the module's constants -/
structure Con (K : PySem.W.Frag) (mg : Str → Option Value) (w : World) : Prop where
  letters : Glob mg "LETTERS" (.str letters)
  figures : Glob mg "FIGURES" (.str figures)
  noNames : ∃ a, Glob mg "NO_NAMES" (.ref a) ∧ ∀ H, SqT K H a (noNames.map V.str)
  factWords : ∃ a, Glob mg "FACT_WORDS" (.ref a) ∧ ∀ H, SqT K H a (([("is" : Str), "not"] : List Str).map V.str)
  factLen : Glob mg "FACT_LENGTH" (.int 3)
  partLens : ∃ a, Glob mg "PART_LENGTHS" (.ref a) ∧ KDict K w a [("cell", .int 4), ("stretch", .int 3), ("tree", .int 2)]
  mostSigns : Glob mg "MOST_SIGNS" (.int 8)
  mostFacts : Glob mg "MOST_FACTS" (.int 8)
  mostParts : Glob mg "MOST_PARTS" (.int 6)
  mostNames : Glob mg "MOST_NAMES" (.int 8)
  len : mg "len" = none
  all : mg "all" = none
  isi : mg "isinstance" = none
  list : mg "list" = none
  tuple : mg "tuple" = none
  str : mg "str" = none
  sorted : mg "sorted" = none
  set : mg "set" = none
theorem iteB {b : Bool} {A B : Prop} (h1 : b = true → A) (h2 : b = false → B) : if b = true then A else B := by
  cases b with
  | true => rw [if_pos rfl]; exact h1 rfl
  | false => rw [if_neg Bool.false_ne_true]; exact h2 rfl
/-- texts that a law makes are short -/
def Short (x : Str) : Prop := x.length ≤ 1000
theorem Short.line {x : Str} (h : Short x) : x.length ≤ sizeLine := Nat.le_of_lt (small1000 h)
abbrev sIsName : Stmt := top 14
def spB1 (f : Str → Bool) : Sp := fun vs H Q _ => ∃ x, vs = [.str x] ∧ Short x ∧ ∀ H', Same H H' → Q (.bl (f x)) H'
section
variable {P : Program} {w : World} {K : PySem.W.Frag} {mg : Str → Option Value} {base : Heap} {f g : Addr} {fd gd : FuncData}
theorem scIsName : FnScope ["text"] ["text"] (defScope sIsName) := ⟨rfl, rfl, rfl, by decide +kernel, rfl, by decide +kernel, by decide +kernel⟩
theorem ok_isName (C : Con K mg w) (F : Fun K "is_name" "is_name" sIsName f fd) : FnOk P w K mg base CX0 1 f fd ["text"] (spB1 isName) := by
  refine F.ok scIsName (fun vs H Q E h => ?_) (fun cdv A outer s H vs Q E hr h => ?_)
  · obtain ⟨x, rfl, _⟩ := h; rfl
  obtain ⟨x, rfl, hx, q⟩ := h
  obtain ⟨aN, gN, tN⟩ := C.noNames
  refine ⟨_, pss_cons (ps_if (PW.pt (pw_or (pt_cmpR op_eq (pv 0) pe_str (nomark _)) (pw_or (pt_cmpR op_gt (pe_callB call_len_str rfl C.len PySem.boot_len (pa_cons (pv 0) pa_nil)) (pe_g C.mostSigns) (nomark _))
      (pw_or1 (pt_cmpR op_in_seq (pv 0) (pe_g gN) (by with_unfolding_all rfl)))))) (pss_one (ps_ret pe_bl)) pss_nil)
    (pss_one (ps_ret (pe_and (pe_cmpR op_in_sign (pe_ix ix_str (pv 0) pe_int (fun _ _ => rfl)) (pe_g C.letters) (by with_unfolding_all rfl))
      (pe_one (pe_callB (call_all rfl) rfl C.all PyProof.Rows.boot_all (pa_cons (pe_comp0 (pi_str (pv 0)) (fun _ _ _ _ => pts_nil)
        (fun _ _ _ _ => pe_or (pe_cmpR op_in_sign (pv 0) (pe_g C.letters) (by with_unfolding_all rfl)) (pe_one (pe_cmpR op_in_sign (pv 0) (pe_g C.figures) (by with_unfolding_all rfl))))) pa_nil)))))), ?_⟩
  have hf : (x = "" ∨ 8 < x.length ∨ x ∈ Mir.noNames) → Q (.bl false) H := fun h => by
    have e : isName x = false := by unfold isName; rw [if_pos h]
    rw [← e]; exact q H (Same.refl H)
  refine ⟨_, rfl, rfl, _, rfl, iteB (fun c => hf (.inl (by simpa using c))) fun c => ?_⟩
  refine ⟨_, rfl, x, rfl, hx.line, _, _, rfl, rfl, _, rfl, iteB (fun c2 => hf (.inr (.inl (by have := of_decide_eq_true c2; omega)))) fun c2 => ?_⟩
  refine ⟨_, rfl, aN, _, rfl, .inr (tN _), rfl, flat_strs _, _, rfl, iteB (fun c3 => hf (.inr (.inr (by
    have c3' : inV (.str x) (Mir.noNames.map V.str) = true := c3
    rw [inV_strs] at c3'; exact of_decide_eq_true c3')))) fun c3 => ?_⟩
  have c1' : ¬ x = "" := by simpa using c
  have c2' : ¬ 8 < x.length := by have := of_decide_eq_false c2; omega
  have c3' : ¬ x ∈ Mir.noNames := by
    have c3' : inV (.str x) (Mir.noNames.map V.str) = false := c3
    rw [inV_strs] at c3'; exact of_decide_eq_false c3'
  have e : isName x = (headOk x.cps.toList && x.cps.toList.all okSign) := by unfold isName; rw [if_neg (fun h => h.elim c1' (fun h => h.elim c2' c3'))]
  rw [e] at q
  cases hl : x.cps.toList with
  | nil =>
    exfalso
    apply c1'
    obtain ⟨a⟩ := x
    have : a = #[] := by simpa using hl
    rw [this]; rfl
  | cons c0 r =>
    refine ⟨_, rfl, x, 0, c0, rfl, rfl, hx.line, (atI_nat (j := 0) (by rw [hl]; rfl)), c0, _, rfl, rfl, _, rfl, ?_⟩
    have eh : headOk x.cps.toList = decide (c0 ∈ Mir.letters.cps.toList) := by rw [hl]; rfl
    refine iteB (fun ch => ?_) (fun ch => ?_)
    · rw [eh, ch, Bool.true_and] at q
      refine ⟨_, rfl, x, rfl, ?_⟩
      refine comp_map (signs x) (fun _ => true) (fun v => match v with | .str z => .bl (okSign (z.cps.toList.headD 0)) | _ => .bl false) jseq_str trivial ?_ ?_ ?_ ?_
      · unfold signs; rw [List.length_map, Array.length_toList]; exact hx.line
      · intro v hv H2 e2 Q' q'
        exact q' H2 (Same.refl _)
      · intro v hv _ H2 e2 Q' q'
        obtain ⟨cc, hcc, rfl⟩ := List.mem_map.mp hv
        have q'' := q' H2 (Same.refl _)
        refine ⟨_, rfl, cc, _, rfl, rfl, _, rfl, iteB (fun z => ?_) (fun z => ?_)⟩
        · have : okSign cc = true := by unfold okSign; rw [show decide (cc ∈ Mir.letters.cps.toList) = true from z]; rfl
          have q3 : Q' (.bl (okSign cc)) H2 := q''
          rw [this] at q3; exact q3
        · refine ⟨_, rfl, cc, _, rfl, rfl, ?_⟩
          have : okSign cc = decide (cc ∈ Mir.figures.cps.toList) := by unfold okSign; rw [show decide (cc ∈ Mir.letters.cps.toList) = false from z]; rfl
          have q3 : Q' (.bl (okSign cc)) H2 := q''
          rw [this] at q3; exact q3
      · intro D H' hD e' hd
        refine ⟨D, x.cps.toList.map okSign, rfl, SqL.of ?_, ?_⟩
        · rw [hd]
          congr 1
          congr 1
          unfold signs
          rw [List.filter_eq_self.mpr (fun _ _ => rfl), List.map_map, List.map_map]
          rfl
        · have e3 : (x.cps.toList.map okSign).all id = x.cps.toList.all okSign := by rw [List.all_map]; rfl
          rw [e3]
          exact q H' e'
    · rw [eh, ch] at q
      exact q H (Same.refl _)
end
end K3

set_option Elab.async false
set_option linter.all false
set_option maxRecDepth 100000
set_option maxHeartbeats 4000000
namespace K3
open PySem L2 Mir
abbrev sIsValue : Stmt := top 15
abbrev sIsFact : Stmt := top 16
abbrev sIsPart : Stmt := top 17
def isFact (r : List Str) : Bool := decide (r.length = 3) && decide (r.headD "" ∈ [("is" : Str), "not"]) && (r.drop 1).all isValue
def partLen (x : Str) : Option Nat := if x = "cell" then some 4 else if x = "stretch" then some 3 else if x = "tree" then some 2 else none
def isPart : List Str → Bool
  | [] => false
  | k :: r => decide (partLen k = some (r.length + 1)) && (if k = "cell" then isValue (r.headD "") && (r.drop 1).all (fun w => decide (w = "any") || isValue w) else r.all isValue)
def Shorts (r : List Str) : Prop := r.length ≤ 1000 ∧ ∀ x ∈ r, Short x
def spRow (K : PySem.W.Frag) (f : List Str → Bool) : Sp := fun vs H Q _ => ∃ a r, vs = [.ref a] ∧ RowAt K H a r ∧ Shorts r ∧ ∀ H', Same H H' → Q (.bl (f r)) H'
section
variable {P : Program} {w : World} {K : PySem.W.Frag} {mg : Str → Option Value} {base : Heap} {f g : Addr} {fd gd : FuncData}
theorem scIsValue : FnScope ["text"] ["text"] (defScope sIsValue) := ⟨rfl, rfl, rfl, by decide +kernel, rfl, by decide +kernel, by decide +kernel⟩
theorem ok_isValue (C : Con K mg w) (F : Fun K "is_value" "is_value" sIsValue f fd) (G : FnOk P w K mg base CX0 1 g gd ["text"] (spB1 isName)) (bG : Binds K gd ["text"] []) (kG : PySem.W.keepIn K (.ref g) = true) (mG : mg "is_name" = some (.ref g)) :
    FnOk P w K mg base CX0 2 f fd ["text"] (spB1 isValue) := by
  refine F.ok scIsValue (fun vs H Q E h => ?_) (fun cdv A outer s H vs Q E hr h => ?_)
  · obtain ⟨x, rfl, _⟩ := h; rfl
  obtain ⟨x, rfl, hx, q⟩ := h
  refine ⟨_, pss_one (ps_ret (pe_or (pe_cmpR op_eq (pv 0) pe_str (nomark _)) (pe_one (pe_call G hr rfl mG kG bG .nil pass0 (pa_cons (pv 0) pa_nil))))), ?_⟩
  refine ⟨_, rfl, rfl, _, rfl, iteB (fun c => ?_) (fun c => ?_)⟩
  · have e : isValue x = true := by
      unfold isValue
      have : x = "nil" := by simpa using c
      rw [decide_eq_true this]; rfl
    rw [e] at q; exact q H (Same.refl _)
  · have e : isValue x = isName x := by
      unfold isValue
      have : ¬ x = "nil" := by simpa using c
      rw [decide_eq_false this]; rfl
    rw [e] at q
    exact ⟨_, rfl, x, rfl, hx, q⟩
/-- row[k:] of a row that is longer than k -/
theorem cut_row {r : List Str} {k : Nat} : cutV (r.map V.str) (some (k : Int)) none = (r.drop k).map V.str := by
  unfold cutV
  rw [HT.sIx_nat, HT.sIx_none, List.length_map]
  rw [List.map_drop.symm]
  by_cases h : k ≤ r.length
  · rw [Nat.min_eq_left h, List.take_of_length_le (by simp)]
  · rw [Nat.min_eq_right (by omega), Nat.sub_self, List.take_zero, List.drop_eq_nil_of_le (by omega)]; rfl
theorem all_strs {l : List Str} {p : Str → Bool} : ((l.map V.str).filter (fun _ => true)).map (fun v => match v with | .str z => V.bl (p z) | _ => V.bl false) = (l.map p).map V.bl := by
  rw [List.filter_eq_self.mpr (fun _ _ => rfl), List.map_map, List.map_map]; rfl
theorem scIsFact : FnScope ["row"] ["row"] (defScope sIsFact) := ⟨rfl, rfl, rfl, by decide +kernel, rfl, by decide +kernel, by decide +kernel⟩
theorem ok_isFact (C : Con K mg w) (F : Fun K "is_fact" "is_fact" sIsFact f fd) (G : FnOk P w K mg base CX0 2 g gd ["text"] (spB1 isValue)) (bG : Binds K gd ["text"] []) (kG : PySem.W.keepIn K (.ref g) = true) (mG : mg "is_value" = some (.ref g)) :
    FnOk P w K mg base CX0 3 f fd ["row"] (spRow K isFact) := by
  refine F.ok scIsFact (fun vs H Q E h => ?_) (fun cdv A outer s H vs Q E hr h => ?_)
  · obtain ⟨a, r, rfl, _⟩ := h; rfl
  obtain ⟨a, r, rfl, hr0, hs, q⟩ := h
  obtain ⟨aN, gN, tN⟩ := C.factWords
  refine ⟨_, pss_cons (ps_if (PW.pt (pw_or (pt_cmpR op_ne (pe_callB call_len_seq rfl C.len PySem.boot_len (pa_cons (pv 0) pa_nil)) (pe_g C.factLen) (nomark _))
      (pw_or1 (pt_cmpR op_notIn_seq (pe_ix ix_tup (pv 0) pe_int (fun _ _ => rfl)) (pe_g gN) (by with_unfolding_all rfl))))) (pss_one (ps_ret pe_bl)) pss_nil)
    (pss_one (ps_ret (pe_callB (call_all rfl) rfl C.all PyProof.Rows.boot_all (pa_cons (pe_comp0 (pi_tup (pe_slice sl_tup (pv 0) (po_some pe_int) po_none)) (fun _ _ _ _ => pts_nil)
        (fun _ _ _ _ => pe_call G hr rfl mG kG bG .nil pass0 (pa_cons (pv 0) pa_nil))) pa_nil)))), ?_⟩
  have hf : isFact r = false → Q (.bl false) H := fun e => by rw [← e]; exact q H (Same.refl H)
  refine ⟨_, rfl, a, _, rfl, .inr hr0, rfl, _, rfl, iteB (fun c => ?_) (fun c => ?_)⟩
  · refine hf ?_
    have : ¬ r.length = 3 := by
      have c' : (!decide (V.int (((r.map V.str).length : Nat) : Int) = V.int 3)) = true := c
      simp at c'; omega
    unfold isFact; rw [decide_eq_false this]; rfl
  have h3 : r.length = 3 := by
    have c' : (!decide (V.int (((r.map V.str).length : Nat) : Int) = V.int 3)) = false := c
    simp at c'; omega
  obtain ⟨k, r1, hr1⟩ : ∃ k r1, r = k :: r1 := by
    cases r with
    | nil => simp at h3
    | cons k r1 => exact ⟨k, r1, rfl⟩
  refine ⟨_, rfl, a, _, 0, .str k, rfl, rfl, hr0, atI_nat (j := 0) (by rw [hr1]; rfl), aN, _, rfl, .inr (tN _), rfl, flat_strs _, _, rfl, iteB (fun c2 => ?_) (fun c2 => ?_)⟩
  · refine hf ?_
    have c2' : (!inV (.str k) ([("is" : Str), "not"].map V.str)) = true := c2
    rw [inV_strs] at c2'
    unfold isFact
    rw [hr1]
    have : ¬ k ∈ [("is" : Str), "not"] := by simpa using c2'
    show (_ && decide (k ∈ [("is" : Str), "not"]) && _) = false
    rw [decide_eq_false this, Bool.and_false, Bool.false_and]
  have hk : k ∈ [("is" : Str), "not"] := by
    have c2' : (!inV (.str k) ([("is" : Str), "not"].map V.str)) = false := c2
    rw [inV_strs] at c2'
    exact of_decide_eq_true (by simpa only [Bool.not_eq_false'] using c2')
  have e : isFact r = (r.drop 1).all isValue := by
    unfold isFact
    rw [decide_eq_true h3]
    have : decide (r.headD "" ∈ [("is" : Str), "not"]) = true := by rw [hr1]; exact decide_eq_true hk
    rw [this]; rfl
  rw [e] at q
  refine ⟨_, rfl, _, rfl, a, _, rfl, hr0, ?_, fun p hp => ?_⟩
  · rw [List.length_map, h3]; decide
  have e1 : cutV (r.map V.str) (some 1) none = (r.drop 1).map V.str := cut_row (k := 1)
  rw [e1]
  have sm : Same H (upd H p (.tup ((r.drop 1).map V.str))) := same_new hp _
  refine ⟨p, rfl, ⟨_, SqT.of upd_same⟩, ?_⟩
  refine comp_map ((r.drop 1).map V.str) (fun _ => true) (fun v => match v with | .str z => .bl (isValue z) | _ => .bl false) jseq_tup (SqT.of upd_same) ?_ ?_ ?_ ?_
  · rw [List.length_map, List.length_drop, h3]; decide
  · intro v hv H2 e2 Q' q'
    exact q' H2 (Same.refl _)
  · intro v hv _ H2 e2 Q' q'
    obtain ⟨z, hz, rfl⟩ := List.mem_map.mp hv
    exact ⟨_, rfl, z, rfl, hs.2 z (List.mem_of_mem_drop hz), q'⟩
  · intro D H' hD e' hd
    rw [all_strs] at hd
    refine ⟨D, _, rfl, SqL.of hd, ?_⟩
    have e3 : ((r.drop 1).map isValue).all id = (r.drop 1).all isValue := by rw [List.all_map]; rfl
    rw [e3]
    exact q H' (sm.trans e')

theorem scIsPart : FnScope ["row"] ["row"] (defScope sIsPart) := ⟨rfl, rfl, rfl, by decide +kernel, rfl, by decide +kernel, by decide +kernel⟩
theorem partLen_dict (k : Str) : ((([("cell", V.int 4), ("stretch", V.int 3), ("tree", V.int 2)] : List (Str × V)).lookup k).getD .non) = match partLen k with | some n => V.int n | none => .non := by
  unfold partLen
  by_cases h1 : k = "cell"
  · subst h1; rfl
  by_cases h2 : k = "stretch"
  · subst h2; rfl
  by_cases h3 : k = "tree"
  · subst h3; rfl
  have b : ∀ x : Str, ¬ k = x → (k == x) = false := fun x h => beq_eq_false_iff_ne.mpr h
  rw [if_neg h1, if_neg h2, if_neg h3]
  rw [List.lookup_cons, b _ h1, List.lookup_cons, b _ h2, List.lookup_cons, b _ h3]
  rfl
theorem ok_isPart (C : Con K mg w) (F : Fun K "is_part" "is_part" sIsPart f fd) (G : FnOk P w K mg base CX0 2 g gd ["text"] (spB1 isValue)) (bG : Binds K gd ["text"] []) (kG : PySem.W.keepIn K (.ref g) = true) (mG : mg "is_value" = some (.ref g)) :
    FnOk P w K mg base CX0 3 f fd ["row"] (spRow K isPart) := by
  refine F.ok scIsPart (fun vs H Q E h => ?_) (fun cdv A outer s H vs Q E hr h => ?_)
  · obtain ⟨a, r, rfl, _⟩ := h; rfl
  obtain ⟨a, r, rfl, hr0, hs, q⟩ := h
  obtain ⟨aN, gN, tN⟩ := C.partLens
  refine ⟨_, pss_cons (ps_if (PW.pt (pw_or (pt_cmpR op_eq (pe_callB call_len_seq rfl C.len PySem.boot_len (pa_cons (pv 0) pa_nil)) pe_int (nomark _))
      (pw_or1 (pt_cmpR op_ne (pe_callB call_len_seq rfl C.len PySem.boot_len (pa_cons (pv 0) pa_nil)) (pe_kget (pe_g gN) (pa_cons (pe_ix ix_tup (pv 0) pe_int (fun _ _ => rfl)) pa_nil)) (nomark _))))) (pss_one (ps_ret pe_bl)) pss_nil)
    (pss_cons (ps_if (pt_cmpR op_eq (pe_ix ix_tup (pv 0) pe_int (fun _ _ => rfl)) pe_str (nomark _))
      (pss_one (ps_ret (pe_and (pe_call G hr rfl mG kG bG .nil pass0 (pa_cons (pe_ix ix_tup (pv 0) pe_int (fun _ _ => rfl)) pa_nil))
        (pe_one (pe_callB (call_all rfl) rfl C.all PyProof.Rows.boot_all (pa_cons (pe_comp0 (pi_tup (pe_slice sl_tup (pv 0) (po_some pe_int) po_none)) (fun _ _ _ _ => pts_nil)
          (fun _ _ _ _ => pe_or (pe_cmpR op_eq (pv 0) pe_str (nomark _)) (pe_one (pe_call G hr rfl mG kG bG .nil pass0 (pa_cons (pv 0) pa_nil))))) pa_nil)))))) pss_nil)
    (pss_one (ps_ret (pe_callB (call_all rfl) rfl C.all PyProof.Rows.boot_all (pa_cons (pe_comp0 (pi_tup (pe_slice sl_tup (pv 0) (po_some pe_int) po_none)) (fun _ _ _ _ => pts_nil)
        (fun _ _ _ _ => pe_call G hr rfl mG kG bG .nil pass0 (pa_cons (pv 0) pa_nil))) pa_nil))))), ?_⟩
  have hf : isPart r = false → Q (.bl false) H := fun e => by rw [← e]; exact q H (Same.refl H)
  refine ⟨_, rfl, a, _, rfl, .inr hr0, rfl, _, rfl, iteB (fun c => ?_) (fun c => ?_)⟩
  · have : r = [] := by
      have c' : decide (V.int (((r.map V.str).length : Nat) : Int) = V.int 0) = true := c
      simp at c'; exact c'
    exact hf (by rw [this]; rfl)
  obtain ⟨k, r1, hr1⟩ : ∃ k r1, r = k :: r1 := by
    cases r with
    | nil =>
      exfalso
      have c' : decide (V.int (((([] : List Str).map V.str).length : Nat) : Int) = V.int 0) = false := c
      simp at c'
    | cons k r1 => exact ⟨k, r1, rfl⟩
  have at0 : atI (r.map V.str) 0 = some (.str k) := atI_nat (j := 0) (by rw [hr1]; rfl)
  have eP : isPart r = (decide (partLen k = some (r1.length + 1)) && (if k = "cell" then isValue (r1.headD "") && (r1.drop 1).all (fun w => decide (w = "any") || isValue w) else r1.all isValue)) := by rw [hr1]; rfl
  have hlen : r.length = r1.length + 1 := by rw [hr1]; rfl
  refine ⟨_, rfl, a, _, rfl, .inr hr0, aN, _, rfl, tN, _, rfl, a, _, 0, .str k, rfl, rfl, hr0, at0, k, rfl, ?_⟩
  have sc : scal (.int (((r.map V.str).length : Nat) : Int)) ((([("cell", V.int 4), ("stretch", V.int 3), ("tree", V.int 2)] : List (Str × V)).lookup k).getD .non) = true := by
    rw [partLen_dict]
    cases partLen k <;> rfl
  have eqd : decide (V.int (((r.map V.str).length : Nat) : Int) = ((([("cell", V.int 4), ("stretch", V.int 3), ("tree", V.int 2)] : List (Str × V)).lookup k).getD .non)) = decide (partLen k = some (r1.length + 1)) := by
    rw [partLen_dict, List.length_map, hlen]
    cases partLen k with
    | none => simp
    | some n =>
      rw [Bool.eq_iff_iff]
      simp only [decide_eq_true_eq, V.int.injEq, Option.some.injEq]
      omega
  refine ⟨sc, _, rfl, iteB (fun c2 => ?_) (fun c2 => ?_)⟩
  · have c2' : (!decide (partLen k = some (r1.length + 1))) = true := by rw [← eqd]; exact c2
    refine hf ?_
    rw [eP]
    have : decide (partLen k = some (r1.length + 1)) = false := by simpa using c2'
    rw [this]; rfl
  have c2' : decide (partLen k = some (r1.length + 1)) = true := by
    have c2' : (!decide (partLen k = some (r1.length + 1))) = false := by rw [← eqd]; exact c2
    simpa using c2'
  have hpl : partLen k = some (r1.length + 1) := of_decide_eq_true c2'
  rw [c2', Bool.true_and] at eP
  refine ⟨_, rfl, a, _, 0, .str k, rfl, rfl, hr0, at0, rfl, _, rfl, iteB (fun c3 => ?_) (fun c3 => ?_)⟩
  · -- a cell
    have hk : k = "cell" := by simpa using c3
    rw [if_pos hk] at eP
    have h4 : r1.length = 3 := by rw [hk] at hpl; have : (4 : Nat) = r1.length + 1 := Option.some.inj hpl; omega
    obtain ⟨x1, r2, hr2⟩ : ∃ x1 r2, r1 = x1 :: r2 := by
      cases r1 with
      | nil => simp at h4
      | cons x1 r2 => exact ⟨x1, r2, rfl⟩
    have at1 : atI (r.map V.str) 1 = some (.str x1) := atI_nat (j := 1) (by rw [hr1, hr2]; rfl)
    have hx1 : Short x1 := hs.2 x1 (by rw [hr1, hr2]; simp)
    have ed : r.drop 2 = r2 := by rw [hr1, hr2]; rfl
    rw [hr2] at eP
    refine ⟨_, rfl, a, _, 1, .str x1, rfl, rfl, hr0, at1, x1, rfl, hx1, fun H1 e1 => ⟨_, rfl, iteB (fun cv => ?_) (fun cv => ?_)⟩⟩
    · have eP' : isPart r = r2.all (fun w => decide (w = "any") || isValue w) := by
        rw [eP]
        show (isValue x1 && _) = _
        rw [cv]; rfl
      rw [eP'] at q
      refine ⟨_, rfl, _, rfl, a, _, rfl, hr0.same e1, ?_, fun p hp => ?_⟩
      · rw [List.length_map, hlen, h4]; decide
      have e2 : cutV (r.map V.str) (some 2) none = r2.map V.str := by rw [← ed]; exact cut_row (k := 2)
      rw [e2]
      have sm : Same H (upd H1 p (.tup (r2.map V.str))) := e1.trans (same_new hp _)
      refine ⟨p, rfl, ⟨_, SqT.of upd_same⟩, ?_⟩
      refine comp_map (r2.map V.str) (fun _ => true) (fun v => match v with | .str z => .bl (decide (z = "any") || isValue z) | _ => .bl false) jseq_tup (SqT.of upd_same) ?_ ?_ ?_ ?_
      · rw [List.length_map]
        have : r2.length ≤ 1000 := by have := hs.1; rw [hr1, hr2] at this; simp at this; omega
        exact Nat.le_of_lt (small1000 this)
      · intro v hv H2 e2 Q' q'
        exact q' H2 (Same.refl _)
      · intro v hv _ H2 e2 Q' q'
        obtain ⟨z, hz, rfl⟩ := List.mem_map.mp hv
        refine ⟨_, rfl, rfl, _, rfl, iteB (fun ca => ?_) (fun ca => ?_)⟩
        · have : z = "any" := by simpa using ca
          have q3 : Q' (.bl (decide (z = "any") || isValue z)) H2 := q' H2 (Same.refl _)
          rw [decide_eq_true this] at q3; exact q3
        · have : ¬ z = "any" := by simpa using ca
          refine ⟨_, rfl, z, rfl, hs.2 z (by rw [hr1, hr2]; simp [hz]), fun H3 e3 => ?_⟩
          have q3 : Q' (.bl (decide (z = "any") || isValue z)) H3 := q' H3 e3
          rw [decide_eq_false this] at q3; exact q3
      · intro D H' hD e' hd
        rw [all_strs (p := fun z : Str => decide (z = "any") || isValue z)] at hd
        refine ⟨D, _, rfl, SqL.of hd, ?_⟩
        have e3 : (r2.map (fun z : Str => decide (z = "any") || isValue z)).all id = r2.all (fun w => decide (w = "any") || isValue w) := by rw [List.all_map]; rfl
        rw [e3]
        exact q H' (sm.trans e')
    · have eP' : isPart r = false := by
        rw [eP]
        show (isValue x1 && _) = _
        rw [cv]; rfl
      rw [eP'] at q
      exact q H1 e1
  · have hk : ¬ k = "cell" := by simpa using c3
    rw [if_neg hk] at eP
    rw [eP] at q
    have h1 : 1 ≤ r1.length := by
      unfold partLen at hpl
      rw [if_neg hk] at hpl
      split at hpl
      · have : (3 : Nat) = r1.length + 1 := Option.some.inj hpl; omega
      · split at hpl
        · have : (2 : Nat) = r1.length + 1 := Option.some.inj hpl; omega
        · cases hpl
    refine ⟨_, rfl, _, rfl, a, _, rfl, hr0, ?_, fun p hp => ?_⟩
    · rw [List.length_map, hlen, show (some (1 : Int)) = some ((1 : Nat) : Int) from rfl, HT.sIx_nat]
      omega
    have ed : r.drop 1 = r1 := by rw [hr1]; rfl
    have e2 : cutV (r.map V.str) (some 1) none = r1.map V.str := by rw [← ed]; exact cut_row (k := 1)
    rw [e2]
    have sm : Same H (upd H p (.tup (r1.map V.str))) := same_new hp _
    refine ⟨p, rfl, ⟨_, SqT.of upd_same⟩, ?_⟩
    refine comp_map (r1.map V.str) (fun _ => true) (fun v => match v with | .str z => .bl (isValue z) | _ => .bl false) jseq_tup (SqT.of upd_same) ?_ ?_ ?_ ?_
    · rw [List.length_map]
      have : r1.length ≤ 1000 := by have := hs.1; omega
      exact Nat.le_of_lt (small1000 this)
    · intro v hv H2 e2 Q' q'
      exact q' H2 (Same.refl _)
    · intro v hv _ H2 e2 Q' q'
      obtain ⟨z, hz, rfl⟩ := List.mem_map.mp hv
      exact ⟨_, rfl, z, rfl, hs.2 z (by rw [hr1]; simp [hz]), q'⟩
    · intro D H' hD e' hd
      rw [all_strs] at hd
      refine ⟨D, _, rfl, SqL.of hd, ?_⟩
      have e3 : (r1.map isValue).all id = r1.all isValue := by rw [List.all_map]; rfl
      rw [e3]
      exact q H' (sm.trans e')
end
end K3

set_option Elab.async false
set_option linter.all false
set_option maxRecDepth 100000
set_option maxHeartbeats 4000000
namespace K3
open PySem L2 Mir
abbrev sAreRows : Stmt := top 18
abbrev sIsTelling : Stmt := top 19
abbrev sCheck : Stmt := top 20
abbrev sNamesOf : Stmt := top 21
/-- lists of rows, each short -/
def ShortRows (rs : List (List Str)) : Prop := rs.length ≤ 200 ∧ ∀ r ∈ rs, r.length ≤ 5 ∧ ∀ x ∈ r, Short x
theorem ShortRows.row {rs : List (List Str)} (h : ShortRows rs) {r : List Str} (hr : r ∈ rs) : Shorts r := ⟨by have := (h.2 r hr).1; omega, (h.2 r hr).2⟩
def spRows (K : PySem.W.Frag) : Sp := fun vs H Q _ => ∃ a rs, vs = [.ref a] ∧ RowsAt K H a rs ∧ ShortRows rs ∧ ∀ H', Same H H' → Q (.bl true) H'
theorem Paired.nth {α β : Type} {F : α → β → Prop} : ∀ {l₁ : List α} {l₂ : List β} {i : Nat} {a : α}, Paired F l₁ l₂ → l₁[i]? = some a → ∃ b, l₂[i]? = some b ∧ F a b
  | _, _, _, _, .nil, e => by simp at e
  | _, _, 0, _, .cons h _, e => by simp at e; subst e; exact ⟨_, rfl, h⟩
  | _, _, i + 1, _, .cons _ t, e => by
    obtain ⟨b, e1, e2⟩ := Paired.nth (i := i) t (by simpa using e)
    exact ⟨b, by simpa using e1, e2⟩
section
variable {P : Program} {w : World} {K : PySem.W.Frag} {mg : Str → Option Value} {base : Heap} {f g : Addr} {fd gd : FuncData}
theorem gty {X : Cx} {x : Str} {n : String} {pos : Pos} (hm : X.mg x = none) (hv : bootBuiltins x = some (.type n)) (hg : Gl X x := by rfl) (hn : x ≠ "__name__" := by decide) (hdb : (x == ("__debug__" : Str)) = false := by decide) : PE X (.Name x pos) (tC (.ty n)) := pe_bltn hg hm hv rfl hn hdb
theorem scAreRows : FnScope ["rows", "row"] ["rows"] (defScope sAreRows) := ⟨rfl, rfl, rfl, by decide +kernel, rfl, by decide +kernel, by decide +kernel⟩
theorem ok_areRows (C : Con K mg w) (F : Fun K "are_rows" "are_rows" sAreRows f fd) : FnOk P w K mg base CX0 1 f fd ["rows"] (spRows K) := by
  refine F.ok scAreRows (fun vs H Q E h => ?_) (fun cdv A outer s H vs Q E hr h => ?_)
  · obtain ⟨a, rs, rfl, _⟩ := h; rfl
  obtain ⟨a, rs, rfl, hr0, hs, q⟩ := h
  obtain ⟨as, h1, h2⟩ := id hr0
  refine ⟨_, pss_cons (ps_if (pt_not (pt_val (pe_callB call_isi_list rfl C.isi PyProof.Rows.boot_isinstance (pa_cons (pv 0) (pa_cons (gty C.list PyProof.Rows.boot_list) pa_nil))))) (pss_one (ps_ret pe_bl)) pss_nil)
    (pss_cons (ps_for PassesOwn.never rfl (pi_list (pv 0)) (pg_name (i := 1) scAreRows.nd rfl (Or.inl rfl))
      (pss_one (ps_if (PW.pt (pw_or (pt_not (pt_val (pe_callB call_isi_tuple rfl C.isi PyProof.Rows.boot_isinstance (pa_cons (pv 1) (pa_cons (gty C.tuple PyProof.Rows.boot_tuple) pa_nil)))))
        (pw_or1 (pt_not (pt_val (pe_callB (call_all rfl) rfl C.all PyProof.Rows.boot_all (pa_cons (pe_comp0 (pi_tup (pv 1)) (fun _ _ _ _ => pts_nil)
          (fun _ _ _ _ => pe_callB call_isi_str rfl C.isi PyProof.Rows.boot_isinstance (pa_cons (pv 0) (pa_cons (gty C.str PyProof.Rows.boot_str) pa_nil)))) pa_nil))))))) (pss_one (ps_ret pe_bl)) pss_nil)))
      (pss_one (ps_ret pe_bl))), ?_⟩
  refine ⟨_, rfl, a, _, rfl, SqL.of h1, _, rfl, iteF ?_⟩
  refine ⟨_, rfl, a, rfl, ⟨_, SqL.of h1⟩, ?_⟩
  refine for_list (xs := as.map V.ref) (fun i σ H' => Same H H' ∧ ∃ z, σ = [some (.ref a), z]) ⟨Same.refl _, _, rfl⟩ (fun i σ H' _ p => p.1.seq (SqL.of h1)) ?_ ?_
  · rintro i v σ H' hi ⟨e, z, rfl⟩
    rw [List.getElem?_map] at hi
    cases hb : as[i]? with
    | none => rw [hb] at hi; cases hi
    | some b =>
      rw [hb] at hi
      have hv : v = .ref b := (Option.some.inj hi).symm
      subst hv
      obtain ⟨r, hr1, hr2⟩ := Paired.nth h2 hb
      have hrow : RowAt K H' b r := hr2.same e
      refine ⟨_, rfl, b, _, rfl, hrow, _, rfl, iteF ?_⟩
      refine ⟨_, rfl, b, rfl, ⟨_, hrow⟩, ?_⟩
      refine comp_all (r.map V.str) r (fun _ => true) jseq_tup hrow ?_ (by simp) ?_ ?_
      · rw [List.length_map]
        have := (hs.2 r (List.mem_of_getElem? hr1)).1
        omega
      · intro i x z hx hz H2 e2 Q' q'
        cases str_at hx hz
        exact ⟨_, rfl, z, rfl, q' H2 (Same.refl _)⟩
      · intro D H2 hD e' hd
        refine ⟨D, _, rfl, SqL.of hd, ?_⟩
        rw [all_id, show r.all (fun _ => true) = true by simp]
        exact ⟨_, rfl, iteF ⟨e.trans e', _, rfl⟩⟩
  · rintro σ H' ⟨e, z, rfl⟩
    exact q H' e
end
end K3

set_option Elab.async false
set_option linter.all false
set_option maxRecDepth 100000
set_option maxHeartbeats 4000000
namespace K3
open PySem PySem.Spec L2 Mir
/-- a row's words that are names -/
def rowWords (r : List Str) : List Str := (r.drop 1).filter fun x => !decide (x ∈ Mir.noNames)
def words (rs : List (List Str)) : List Str := (rs.map rowWords).flatten
theorem words_app (a b : List (List Str)) : words (a ++ b) = words a ++ words b := by unfold words; rw [List.map_append, List.flatten_append]
theorem words_snoc (a : List (List Str)) (r : List Str) : words (a ++ [r]) = words a ++ rowWords r := by rw [words_app]; unfold words; simp
theorem words_len : ∀ {rs : List (List Str)} {m : Nat}, (∀ r ∈ rs, r.length ≤ m) → (words rs).length ≤ rs.length * m
  | [], m, _ => by simp [words]
  | r :: rs, m, h => by
    have h1 := words_len (rs := rs) (m := m) (fun x hx => h x (List.mem_cons_of_mem _ hx))
    have h2 : (rowWords r).length ≤ m := by
      unfold rowWords
      have := List.length_filter_le (fun x => !decide (x ∈ Mir.noNames)) (r.drop 1)
      have := h r (List.mem_cons_self ..)
      have e := List.length_drop (i := 1) (l := r)
      omega
    have e : words (r :: rs) = rowWords r ++ words rs := by simp [words]
    rw [e, List.length_append, List.length_cons, Nat.succ_mul]
    omega
theorem Paired.app {α β : Type} {F : α → β → Prop} : ∀ {l₁ : List α} {l₂ : List β} {m₁ : List α} {m₂ : List β}, Paired F l₁ l₂ → Paired F m₁ m₂ → Paired F (l₁ ++ m₁) (l₂ ++ m₂)
  | _, _, _, _, .nil, h => h
  | _, _, _, _, .cons h t, h2 => .cons h (Paired.app t h2)
/-- what names_of tells -/
def spNames (K : PySem.W.Frag) : Sp := fun vs H Q _ => ∃ a fs ps, vs = [.ref a] ∧ TellAt K H a [fs, ps] ∧ ShortRows fs ∧ ShortRows ps ∧ (∀ r ∈ fs ++ ps, r ≠ []) ∧ (∀ ss : List Str, ss.Nodup → (∀ y ∈ ss, y ∈ words (fs ++ ps)) → ss.length < 64) ∧
  ∀ (p : Addr) (zs : List Str) (H' : Hp), H p = none → Same H H' → H' p = some (.lst (zs.map V.str)) → zs.Nodup → (∀ y, y ∈ zs ↔ y ∈ words (fs ++ ps)) → PyProof.Rows.sortedS zs = true → Q (.ref p) H'
section
variable {P : Program} {w : World} {K : PySem.W.Frag} {mg : Str → Option Value} {base : Heap} {f g : Addr} {fd gd : FuncData}
theorem scNamesOf : FnScope ["telling", "names", "row"] ["telling"] (defScope sNamesOf) := ⟨rfl, rfl, rfl, by decide +kernel, rfl, by decide +kernel, by decide +kernel⟩
theorem ok_namesOf (C : Con K mg w) (F : Fun K "names_of" "names_of" sNamesOf f fd) : FnOk P w K mg base CX0 1 f fd ["telling"] (spNames K) := by
  refine F.ok scNamesOf (fun vs H Q E h => ?_) (fun cdv A outer s H vs Q E hr h => ?_)
  · obtain ⟨a, fs, ps, rfl, _⟩ := h; rfl
  obtain ⟨a, fs, ps, rfl, ht, hf, hp, hne, h64, q⟩ := h
  obtain ⟨aN, gN, tN⟩ := C.noNames
  obtain ⟨as, t1, t2⟩ := ht
  cases t2 with
  | @cons fa _ _ _ t3 t4 =>
  cases t4 with
  | @cons pa _ _ _ t5 t6 =>
  cases t6
  obtain ⟨fas, f1, f2⟩ := t3
  obtain ⟨pas, p1, p2⟩ := t5
  refine ⟨_, pss_cons (ps_set scNamesOf.nd (i := 1) rfl (Or.inl rfl) (pe_lst pa_nil))
    (pss_cons (ps_for PassesOwn.never rfl (pi_list (pe_op op_cat (pe_ix ix_tup (pv 0) pe_int (fun _ _ => rfl)) (pe_ix ix_tup (pv 0) pe_int (fun _ _ => rfl)))) (pg_name (i := 2) scNamesOf.nd rfl (Or.inl rfl))
      (pss_one (ps_expr (pe_bm PySem.F.plainAttrs_list PySem.F.slot_list_extend PySem.F.type_list_extend mt_extend (pv 1)
        (pa_cons (pe_comp0 (pi_tup (pe_slice sl_tup (pv 2) (po_some pe_int) po_none)) (fun _ _ _ _ => pts_one (pt_cmpR (show OpR _ _ (rIn K true) from op_notIn_seq) (pv 0) (pe_g gN) (by with_unfolding_all rfl))) (fun _ _ _ _ => pv 0)) pa_nil)))))
      (pss_one (ps_ret (pe_callB (call_sorted_set rfl) rfl C.sorted PyProof.Rows.boot_sorted (pa_cons (pe_callTy (call_set rfl) rfl C.set PyProof.Rows.boot_set (pa_cons (pv 1) pa_nil)) pa_nil))))), ?_⟩
  refine ⟨Nat.zero_le _, fun n hn => ?_⟩
  have s1 : Same H (upd H n (.lst [])) := same_new hn _
  have fl : fas.length = fs.length := Paired.length f2
  have pl : pas.length = ps.length := Paired.length p2
  have b1 := hf.1
  have b2 := hp.1
  refine ⟨_, rfl, a, _, 0, .ref fa, rfl, rfl, s1.seqT t1, rfl, _, rfl, a, _, 1, .ref pa, rfl, rfl, s1.seqT t1, rfl, ?_⟩
  refine ⟨fa, pa, _, _, rfl, rfl, s1 _ _ f1, s1 _ _ p1, ?_, fun c hc => ?_⟩
  · rw [List.length_map, List.length_map]; exact Nat.le_of_lt (small1000 (by omega))
  have hcn : c ≠ n := fun e => by rw [e, upd_same] at hc; cases hc
  rw [← List.map_append]
  have s2 := same_new hc (.lst ((fas ++ pas).map V.ref))
  refine ⟨c, rfl, ⟨_, SqL.of upd_same⟩, ?_⟩
  have pr : Paired (fun b r => RowAt K H b r) (fas ++ pas) (fs ++ ps) := Paired.app f2 p2
  have pl2 : (fas ++ pas).length = (fs ++ ps).length := Paired.length pr
  have hall : ∀ r ∈ fs ++ ps, r.length ≤ 5 := fun r hr => by
    rcases List.mem_append.mp hr with h | h
    · exact (hf.2 r h).1
    · exact (hp.2 r h).1
  refine for_list (xs := (fas ++ pas).map V.ref) (fun i σ H' => Same H H' ∧ H' c = some (.lst ((fas ++ pas).map V.ref)) ∧ H' n = some (.lst ((words ((fs ++ ps).take i)).map V.str)) ∧ ∃ z, σ = [some (.ref a), some (.ref n), z]) ⟨s1.trans s2, upd_same, ?_, _, rfl⟩ (fun i σ H' _ p => SqL.of p.2.1) ?_ ?_
  · rw [upd_ne (Ne.symm hcn), upd_same]; rfl
  · rintro i v σ H' hi ⟨e, hc', hn', z, rfl⟩
    rw [List.getElem?_map] at hi
    cases hb : (fas ++ pas)[i]? with
    | none => rw [hb] at hi; cases hi
    | some b =>
      rw [hb] at hi
      have hv : v = .ref b := (Option.some.inj hi).symm
      subst hv
      obtain ⟨r, hr1, hr2⟩ := Paired.nth pr hb
      have hrm : r ∈ fs ++ ps := List.mem_of_getElem? hr1
      have hrow : RowAt K H' b r := hr2.same e
      have hr5 := hall r hrm
      have hr0 : r.length ≠ 0 := fun h => hne r hrm (List.length_eq_zero_iff.mp h)
      refine ⟨_, rfl, .inl ⟨rfl, _, SqL.of hn'⟩, _, rfl, _, rfl, b, _, rfl, hrow, ?_, fun t hT => ?_⟩
      · rw [List.length_map, show (some (1 : Int)) = some ((1 : Nat) : Int) from rfl, HT.sIx_nat]; omega
      have e1 : cutV (r.map V.str) (some 1) none = (r.drop 1).map V.str := cut_row (k := 1)
      rw [e1]
      have s3 : Same H' (upd H' t (.tup ((r.drop 1).map V.str))) := same_new hT _
      refine ⟨t, rfl, ⟨_, SqT.of upd_same⟩, ?_⟩
      refine comp_map ((r.drop 1).map V.str) (fun v => !inV v (Mir.noNames.map V.str)) id jseq_tup (SqT.of upd_same) ?_ ?_ ?_ ?_
      · rw [List.length_map, List.length_drop]; exact Nat.le_of_lt (small1000 (by omega))
      · intro v hv H2 e2 Q' q'
        obtain ⟨y, hy, rfl⟩ := List.mem_map.mp hv
        exact ⟨_, rfl, aN, _, rfl, .inr (tN _), rfl, flat_strs _, _, rfl, q' H2 (Same.refl _)⟩
      · intro v hv hpv H2 e2 Q' q'
        obtain ⟨y, hy, rfl⟩ := List.mem_map.mp hv
        exact ⟨_, rfl, q' H2 (Same.refl _)⟩
      · intro D H2 hD e' hd
        have hw : (((r.drop 1).map V.str).filter (fun v => !inV v (Mir.noNames.map V.str))).map id = (rowWords r).map V.str := by
          rw [List.map_id, List.filter_map]
          unfold rowWords
          congr 1
          apply List.filter_congr
          intro x _
          show (!inV (.str x) (Mir.noNames.map V.str)) = _
          rw [inV_strs]
        rw [hw] at hd
        have s4 : Same H H2 := (e.trans s3).trans e'
        have ht1 : (fs ++ ps).take (i + 1) = (fs ++ ps).take i ++ [r] := by rw [List.take_add_one, hr1]; rfl
        have wl := words_len hall
        have wl2 : (words ((fs ++ ps).take i)).length ≤ 200 * 5 + 200 * 5 := by
          have h1 := words_len (rs := (fs ++ ps).take i) (m := 5) (fun r hr => hall r (List.mem_of_mem_take hr))
          have h2 := List.length_take_le' i (fs ++ ps)
          rw [List.length_append] at h2
          omega
        have wl3 : (rowWords r).length ≤ 5 := by
          unfold rowWords
          have h1 := List.length_filter_le (fun x => !decide (x ∈ Mir.noNames)) (r.drop 1)
          have h2 := List.length_drop (i := 1) (l := r)
          omega
        refine ⟨n, D, _, _, rfl, rfl, e' _ _ (s3 _ _ hn'), hd, ?_, ?_⟩
        · rw [List.length_map, List.length_map]
          exact Nat.le_trans (by omega) (show (2005 : Nat) ≤ sizeLine by decide)
        refine ⟨fun b' u q' => ?_, ?_, ?_, _, rfl⟩
        · rw [upd_ne (ne_of_none q' hn)]; exact s4 _ _ q'
        · rw [upd_ne hcn]; exact e' _ _ (s3 _ _ hc')
        · rw [upd_same, ht1, words_snoc, List.map_append]
  · rintro σ H' ⟨e, hc', hn', z, rfl⟩
    rw [List.length_map, pl2, List.take_length] at hn'
    refine ⟨_, rfl, n, _, rfl, SqL.of hn', ?_, fun S ss hS hd => ?_⟩
    · have wl := words_len hall
      rw [List.length_append] at wl
      show _ < 4096
      omega
    have s5 := same_new hS (SetO P w S ss)
    refine ⟨S, ss, rfl, upd_same, h64 ss hd.nodup (fun y hy => (hd.mem y).mp hy), fun p zs hp' hzs hso => ?_⟩
    have s6 := same_new hp' (.lst (zs.map V.str))
    refine q p zs _ ?_ (e.trans (s5.trans s6)) upd_same (hzs.nodup_iff.mpr hd.nodup) (fun y => (hzs.mem_iff).trans (hd.mem y)) hso
    cases hH : H p with
    | none => rfl
    | some u => exact nomatch (s5 _ _ (e _ _ hH)).symm.trans hp'
end
end K3

set_option Elab.async false
set_option linter.all false
set_option maxRecDepth 100000
set_option maxHeartbeats 4000000
namespace K3
open PySem PySem.Spec L2 Mir
/-- a def that the module names -/
structure Cal (K : PySem.W.Frag) (mg : Str → Option Value) (x : Str) (f : Addr) (fd : FuncData) (ps : List Str) : Prop where
  name : mg x = some (.ref f)
  keep : PySem.W.keepIn K (.ref f) = true
  bind : Binds K fd ps []
/-- at most eight names -/
def Few (rs : List (List Str)) : Prop := ∃ zs : List Str, zs.Nodup ∧ (∀ y, y ∈ zs ↔ y ∈ words rs) ∧ zs.length ≤ 8
def IsTelling : List (List (List Str)) → Prop
  | [fs, ps] => fs.length ≤ 8 ∧ ps.length ≤ 6 ∧ fs.all isFact = true ∧ ps.all isPart = true ∧ Few (fs ++ ps)
  | _ => False
noncomputable def isTelling (rss : List (List (List Str))) : Bool := @decide (IsTelling rss) (Classical.propDecidable _)
theorem isTelling_yes {rss : List (List (List Str))} (h : IsTelling rss) : isTelling rss = true := by unfold isTelling; exact @decide_eq_true _ (Classical.propDecidable _) h
theorem isTelling_no {rss : List (List (List Str))} (h : ¬ IsTelling rss) : isTelling rss = false := by unfold isTelling; exact @decide_eq_false _ (Classical.propDecidable _) h
theorem few_of {rs : List (List Str)} {zs : List Str} (hn : zs.Nodup) (hm : ∀ y, y ∈ zs ↔ y ∈ words rs) : Few rs ↔ zs.length ≤ 8 := by
  constructor
  · rintro ⟨ys, h1, h2, h3⟩
    have := ((List.perm_ext_iff_of_nodup hn h1).mpr fun a => (hm a).trans (h2 a).symm).length_eq
    omega
  · exact fun h => ⟨zs, hn, hm, h⟩
theorem isFact_len {r : List Str} (h : isFact r = true) : r.length = 3 := by
  unfold isFact at h
  simp only [Bool.and_eq_true, decide_eq_true_eq] at h
  exact h.1.1
theorem isPart_len {r : List Str} (h : isPart r = true) : 2 ≤ r.length ∧ r.length ≤ 4 := by
  cases r with
  | nil => cases h
  | cons k r =>
    unfold isPart at h
    simp only [Bool.and_eq_true, decide_eq_true_eq] at h
    have h1 := h.1
    unfold partLen at h1
    rw [List.length_cons]
    split at h1
    · have := Option.some.inj h1; omega
    · split at h1
      · have := Option.some.inj h1; omega
      · split at h1
        · have := Option.some.inj h1; omega
        · cases h1
def ShortTell (rss : List (List (List Str))) : Prop := rss.length ≤ 1000 ∧ ∀ rs ∈ rss, ShortRows rs
def spTell (K : PySem.W.Frag) (f : List (List (List Str)) → Bool) : Sp := fun vs H Q _ => ∃ a rss, vs = [.ref a] ∧ TellAt K H a rss ∧ ShortTell rss ∧ ∀ H', Same H H' → Q (.bl (f rss)) H'
theorem ref_at {l : List Addr} {i : Nat} {x : V} (hx : (l.map V.ref)[i]? = some x) : ∃ a, l[i]? = some a ∧ x = .ref a := by
  rw [List.getElem?_map] at hx
  cases h : l[i]? with
  | none => rw [h] at hx; cases hx
  | some a => rw [h] at hx; exact ⟨a, rfl, (Option.some.inj hx).symm⟩
theorem Paired.at2 {α β : Type} {F : α → β → Prop} {l₁ : List α} {l₂ : List β} {i : Nat} {a : α} {b : β} (h : Paired F l₁ l₂) (h1 : l₁[i]? = some a) (h2 : l₂[i]? = some b) : F a b := by
  obtain ⟨b', e1, e2⟩ := Paired.nth h h1
  rw [h2] at e1
  cases e1
  exact e2
section
variable {P : Program} {w : World} {K : PySem.W.Frag} {mg : Str → Option Value} {base : Heap} {f gA gF gP gN : Addr} {fd dA dF dP dN : FuncData}
theorem scIsTelling : FnScope ["telling"] ["telling"] (defScope sIsTelling) := ⟨rfl, rfl, rfl, by decide +kernel, rfl, by decide +kernel, by decide +kernel⟩
theorem ok_isTelling (C : Con K mg w) (F : Fun K "is_telling" "is_telling" sIsTelling f fd) (GA : FnOk P w K mg base CX0 1 gA dA ["rows"] (spRows K)) (cA : Cal K mg "are_rows" gA dA ["rows"])
    (GF : FnOk P w K mg base CX0 3 gF dF ["row"] (spRow K isFact)) (cF : Cal K mg "is_fact" gF dF ["row"]) (GP : FnOk P w K mg base CX0 3 gP dP ["row"] (spRow K isPart)) (cP : Cal K mg "is_part" gP dP ["row"])
    (GN : FnOk P w K mg base CX0 1 gN dN ["telling"] (spNames K)) (cN : Cal K mg "names_of" gN dN ["telling"]) : FnOk P w K mg base CX0 4 f fd ["telling"] (spTell K isTelling) := by
  refine F.ok scIsTelling (fun vs H Q E h => ?_) (fun cdv A outer s H vs Q E hr h => ?_)
  · obtain ⟨a, rss, rfl, _⟩ := h; rfl
  obtain ⟨a, rss, rfl, ht, hs, q⟩ := h
  have hr1 := hr.mono (j := 1) (by omega)
  refine ⟨_, pss_cons (ps_if (PW.pt (pw_or (pt_not (pt_val (pe_callB call_isi_tuple rfl C.isi PyProof.Rows.boot_isinstance (pa_cons (pv 0) (pa_cons (gty C.tuple PyProof.Rows.boot_tuple) pa_nil)))))
      (pw_or1 (pt_cmpR op_ne (pe_callB call_len_seq rfl C.len PySem.boot_len (pa_cons (pv 0) pa_nil)) pe_int (nomark _))))) (pss_one (ps_ret pe_bl)) pss_nil)
    (pss_cons (ps_if (pt_not (pt_val (pe_callB (call_all rfl) rfl C.all PyProof.Rows.boot_all (pa_cons (pe_comp0 (pi_tup (pv 0)) (fun _ _ _ _ => pts_nil) (fun _ _ _ _ => pe_call GA hr1 rfl cA.name cA.keep cA.bind .nil pass0 (pa_cons (pv 0) pa_nil))) pa_nil)))) (pss_one (ps_ret pe_bl)) pss_nil)
    (pss_cons (ps_if (PW.pt (pw_or (pt_cmpR op_gt (pe_callB call_len_seq rfl C.len PySem.boot_len (pa_cons (pe_ix ix_tup (pv 0) pe_int (fun _ _ => rfl)) pa_nil)) (pe_g C.mostFacts) (nomark _))
      (pw_or1 (pt_cmpR op_gt (pe_callB call_len_seq rfl C.len PySem.boot_len (pa_cons (pe_ix ix_tup (pv 0) pe_int (fun _ _ => rfl)) pa_nil)) (pe_g C.mostParts) (nomark _))))) (pss_one (ps_ret pe_bl)) pss_nil)
    (pss_cons (ps_if (PW.pt (pw_or (pt_not (pt_val (pe_callB (call_all rfl) rfl C.all PyProof.Rows.boot_all (pa_cons (pe_comp0 (pi_list (pe_ix ix_tup (pv 0) pe_int (fun _ _ => rfl))) (fun _ _ _ _ => pts_nil) (fun _ _ _ _ => pe_call GF hr rfl cF.name cF.keep cF.bind .nil pass0 (pa_cons (pv 0) pa_nil))) pa_nil))))
      (pw_or1 (pt_not (pt_val (pe_callB (call_all rfl) rfl C.all PyProof.Rows.boot_all (pa_cons (pe_comp0 (pi_list (pe_ix ix_tup (pv 0) pe_int (fun _ _ => rfl))) (fun _ _ _ _ => pts_nil) (fun _ _ _ _ => pe_call GP hr rfl cP.name cP.keep cP.bind .nil pass0 (pa_cons (pv 0) pa_nil))) pa_nil))))))) (pss_one (ps_ret pe_bl)) pss_nil)
    (pss_one (ps_ret (pe_cmpR op_le (pe_callB call_len_seq rfl C.len PySem.boot_len (pa_cons (pe_call GN hr1 rfl cN.name cN.keep cN.bind .nil pass0 (pa_cons (pv 0) pa_nil)) pa_nil)) (pe_g C.mostNames) (nomark _))))))), ?_⟩
  obtain ⟨as, t1, t2⟩ := id ht
  have hl : as.length = rss.length := Paired.length t2
  refine ⟨_, rfl, a, _, rfl, t1, _, rfl, iteF ?_⟩
  refine ⟨_, rfl, a, _, rfl, .inr t1, rfl, _, rfl, iteB (fun c => ?_) (fun c => ?_)⟩
  · have h2 : rss.length ≠ 2 := by
      have c' : (!decide (V.int (((as.map V.ref).length : Nat) : Int) = V.int 2)) = true := c
      simp at c'; omega
    have e : isTelling rss = false := isTelling_no (fun h => by
      unfold IsTelling at h
      split at h
      · exact h2 rfl
      · exact h)
    rw [e] at q
    exact q H (Same.refl _)
  have h2 : rss.length = 2 := by
    have c' : (!decide (V.int (((as.map V.ref).length : Nat) : Int) = V.int 2)) = false := c
    simp at c'; omega
  obtain ⟨fs, ps, rfl⟩ : ∃ fs ps, rss = [fs, ps] := by
    match rss, h2 with
    | [fs, ps], _ => exact ⟨fs, ps, rfl⟩
  have hf := hs.2 fs (by simp)
  have hp := hs.2 ps (by simp)
  refine ⟨_, rfl, a, rfl, ⟨_, t1⟩, ?_⟩
  refine comp_all (as.map V.ref) [fs, ps] (fun _ => true) jseq_tup t1 (by rw [List.length_map, hl]; exact hs.1) (by rw [List.length_map]; exact hl.symm) (fun i x rs hx hr' H2 e2 Q' q' => ?_) fun D H1 hD e1 hd => ?_
  · obtain ⟨b, hb, rfl⟩ := ref_at hx
    have hrs : RowsAt K H b rs := Paired.at2 t2 hb hr'
    exact ⟨_, rfl, b, rs, rfl, hrs.same e2, hs.2 rs (List.mem_of_getElem? hr'), q'⟩
  refine ⟨D, _, rfl, SqL.of hd, ?_⟩
  rw [all_id, show ([fs, ps] : List (List (List Str))).all (fun _ => true) = true by simp]
  refine ⟨_, rfl, iteF ?_⟩
  cases t2 with
  | @cons fa _ _ _ t3 t4 =>
  cases t4 with
  | @cons pa _ _ _ t5 t6 =>
  cases t6
  have r3 := t3.same e1
  have r5 := t5.same e1
  obtain ⟨fas, f1, f2⟩ := t3
  obtain ⟨pas, p1, p2⟩ := t5
  have t1' := e1.seqT t1
  have fl : fas.length = fs.length := Paired.length f2
  have pl : pas.length = ps.length := Paired.length p2
  have no : ¬ IsTelling [fs, ps] → ∀ H', Same H H' → Q (.bl false) H' := fun h => by rw [isTelling_no h] at q; exact q
  refine ⟨_, rfl, a, _, 0, .ref fa, rfl, rfl, t1', rfl, fa, _, rfl, .inl (SqL.of (e1 _ _ f1)), _, _, rfl, rfl, _, rfl, iteB (fun c1 => ?_) (fun c1 => ?_)⟩
  · refine no (fun h => ?_) _ e1
    have c1' := of_decide_eq_true c1
    have h1 : fs.length ≤ 8 := h.1
    rw [List.length_map] at c1'
    omega
  have c1' : fs.length ≤ 8 := by have := of_decide_eq_false c1; rw [List.length_map] at this; omega
  refine ⟨_, rfl, a, _, 1, .ref pa, rfl, rfl, t1', rfl, pa, _, rfl, .inl (SqL.of (e1 _ _ p1)), _, _, rfl, rfl, _, rfl, iteB (fun c2 => ?_) (fun c2 => ?_)⟩
  · refine no (fun h => ?_) _ e1
    have c2' := of_decide_eq_true c2
    have h1 : ps.length ≤ 6 := h.2.1
    rw [List.length_map] at c2'
    omega
  have c2' : ps.length ≤ 6 := by have := of_decide_eq_false c2; rw [List.length_map] at this; omega
  refine ⟨_, rfl, a, _, 0, .ref fa, rfl, rfl, t1', rfl, fa, rfl, ⟨_, SqL.of (e1 _ _ f1)⟩, ?_⟩
  refine comp_all (fas.map V.ref) fs isFact jseq_list (SqL.of (e1 _ _ f1)) (by rw [List.length_map]; omega) (by rw [List.length_map]; omega) (fun i x r hx hr' H2 e2 Q' q' => ?_) fun D2 H2 hD2 e2 hd2 => ?_
  · obtain ⟨b, hb, rfl⟩ := ref_at hx
    have hrs : RowAt K H b r := Paired.at2 f2 hb hr'
    exact ⟨_, rfl, b, r, rfl, hrs.same (e1.trans e2), hf.row (List.mem_of_getElem? hr'), q'⟩
  refine ⟨D2, _, rfl, SqL.of hd2, ?_⟩
  rw [all_id]
  refine ⟨_, rfl, iteB (fun c3 => ?_) (fun c3 => ?_)⟩
  · refine no (fun h => ?_) _ (e1.trans e2)
    rw [h.2.2.1] at c3
    cases c3
  have c3' : fs.all isFact = true := by simpa using c3
  refine ⟨_, rfl, a, _, 1, .ref pa, rfl, rfl, e2.seqT t1', rfl, pa, rfl, ⟨_, SqL.of (e2 _ _ (e1 _ _ p1))⟩, ?_⟩
  refine comp_all (pas.map V.ref) ps isPart jseq_list (SqL.of (e2 _ _ (e1 _ _ p1))) (by rw [List.length_map]; omega) (by rw [List.length_map]; omega) (fun i x r hx hr' H3 e3 Q' q' => ?_) fun D3 H3 hD3 e3 hd3 => ?_
  · obtain ⟨b, hb, rfl⟩ := ref_at hx
    have hrs : RowAt K H b r := Paired.at2 p2 hb hr'
    exact ⟨_, rfl, b, r, rfl, hrs.same (e1.trans (e2.trans e3)), hp.row (List.mem_of_getElem? hr'), q'⟩
  refine ⟨D3, _, rfl, SqL.of hd3, ?_⟩
  rw [all_id]
  have e4 := e1.trans (e2.trans e3)
  refine ⟨_, rfl, iteB (fun c4 => ?_) (fun c4 => ?_)⟩
  · refine no (fun h => ?_) _ e4
    rw [h.2.2.2.1] at c4
    cases c4
  have c4' : ps.all isPart = true := by simpa using c4
  have hlen : ∀ r ∈ fs ++ ps, 2 ≤ r.length ∧ r.length ≤ 4 := fun r hr => by
    rcases List.mem_append.mp hr with h | h
    · have := isFact_len (List.all_eq_true.mp c3' r h); omega
    · exact isPart_len (List.all_eq_true.mp c4' r h)
  refine ⟨_, rfl, a, fs, ps, rfl, ht.same e4, hf, hp, fun r hr e => ?_, fun ss hn hm => ?_, fun p zs H5 hp0 e5 hz hn hm hso => ?_⟩
  · have := (hlen r hr).1; rw [e] at this; simp at this
  · have h1 := List.Nodup.length_le_of_subset hn hm
    have h2 := words_len (rs := fs ++ ps) (m := 4) (fun r hr => (hlen r hr).2)
    rw [List.length_append] at h2
    omega
  refine ⟨p, _, rfl, .inl (SqL.of hz), _, _, rfl, rfl, ?_⟩
  have e6 := q H5 (e4.trans e5)
  by_cases hz8 : zs.length ≤ 8
  · rw [isTelling_yes (rss := [fs, ps]) ⟨c1', c2', c3', c4', (few_of hn hm).mpr hz8⟩] at e6
    have : decide (((zs.map V.str).length : Int) ≤ 8) = true := decide_eq_true (by rw [List.length_map]; omega)
    show Q (.bl (decide _)) H5
    rw [this]; exact e6
  · rw [isTelling_no (rss := [fs, ps]) (fun h => hz8 ((few_of hn hm).mp h.2.2.2.2))] at e6
    have : decide (((zs.map V.str).length : Int) ≤ 8) = false := decide_eq_false (by rw [List.length_map]; omega)
    show Q (.bl (decide _)) H5
    rw [this]; exact e6
end
end K3

set_option Elab.async false
set_option linter.all false
set_option maxRecDepth 100000
set_option maxHeartbeats 4000000
namespace L2
open PySem PySem.Spec PyProof.Rows
/-- a def that may raise -/
theorem Fun.okE {P : Program} {w : World} {K : PySem.W.Frag} {mg : Str → Option Value} {base : Heap} {x qual : Str} {st : Stmt} {f : Addr} {fd : FuncData} {N ps : List Str} {k : Nat} {sp : Sp} (F : Fun K x qual st f fd) (S : FnScope N ps (defScope st)) (len : ∀ vs H Q E, sp vs H Q E → vs.length = ps.length)
    (hbody : ∀ (cdv : Value) (A : Around) (outer : List Env) (s : Shared) (H : Hp) (vs : List V) (Q : VK) (E : XK), Room k (A.deeper (envOfC qual (defScope st) s.heap.objs.size f cdv)) → sp vs H Q E →
      ∃ t, PSs (cxOf (CXE P w base) P w K mg base N qual (defScope st) f cdv A outer s H E) (defBody st) t ∧ t { nx := fun _ H' => Q .non H', rt := Q } (start N vs) H) : FnOk P w K mg base (CXE P w base) (k + 1) f fd ps sp := by
  obtain ⟨oc, od, kV, doc, pm, an, cdv, ct, osl, rfl, lk, hcd⟩ := F.ex
  exact fn_of lk hcd S len fun A outer s H vs Q E hr hsp => hbody cdv A outer s H vs Q E hr hsp
end L2
namespace K3
open PySem PySem.Spec L2 Mir
/-- the class NoTelling, as the module has it -/
structure ErrC (K : PySem.W.Frag) (mg : Str → Option Value) (x : Str) (C : Addr) : Prop where
  name : mg x = some (.ref C)
  exc : PySem.W.excIn K C [.type "ValueError", .type "Exception", .type "BaseException", .type "object"] "ValueError.__new__" = true
def spCheck (K : PySem.W.Frag) (NT : Addr) : Sp := fun vs H Q E => ∃ a rss, vs = [.ref a] ∧ TellAt K H a rss ∧ ShortTell rss ∧ ∀ H', Same H H' → if isTelling rss = true then Q .non H' else E (.ref NT) none H'
section
variable {P : Program} {w : World} {K : PySem.W.Frag} {mg : Str → Option Value} {base : Heap} {f gT NT : Addr} {fd dT : FuncData}
theorem scCheck : FnScope ["telling"] ["telling"] (defScope sCheck) := ⟨rfl, rfl, rfl, by decide +kernel, rfl, by decide +kernel, by decide +kernel⟩
theorem ok_check (F : Fun K "check_telling" "check_telling" sCheck f fd) (GT : FnOk P w K mg base CX0 4 gT dT ["telling"] (spTell K isTelling)) (cT : Cal K mg "is_telling" gT dT ["telling"]) (NE : ErrC K mg "NoTelling" NT) :
    FnOk P w K mg base (CXE P w base) 5 f fd ["telling"] (spCheck K NT) := by
  refine F.okE scCheck (fun vs H Q E h => ?_) (fun cdv A outer s H vs Q E hr h => ?_)
  · obtain ⟨a, rss, rfl, _⟩ := h; rfl
  obtain ⟨a, rss, rfl, ht, hs, q⟩ := h
  refine ⟨_, pss_one (ps_if (pt_not (pt_val (pe_call GT hr rfl cT.name cT.keep cT.bind .nil pass0 (pa_cons (pv 0) pa_nil))))
    (pss_one (ps_raise raises_cx rfl PySem.F.excBase_ValueError rfl NE.name NE.exc (pa_cons pe_str pa_nil))) pss_nil), ?_⟩
  refine ⟨_, rfl, a, rss, rfl, ht, hs, fun H' e => ⟨_, rfl, iteB (fun c => ?_) (fun c => ?_)⟩⟩
  · have c' : isTelling rss = false := by simpa using c
    have := q H' e
    rw [c', if_neg Bool.false_ne_true] at this
    exact ⟨(show 1 ≤ sizeLine by decide), this⟩
  · have c' : isTelling rss = true := by simpa using c
    have := q H' e
    rw [c', if_pos rfl] at this
    exact this
end
end K3

set_option Elab.async false
set_option linter.all false
set_option maxRecDepth 100000
set_option maxHeartbeats 4000000
namespace K3
open PySem PySem.Spec L2 Mir
abbrev sWritesFact : Stmt := top 26
abbrev sRead : Stmt := top 27
def sp1 : Str := " "
def sepC : Str := ", "
def nothing : Str := "nothing"
def writesFact (ws : List Str) : Bool := decide (ws.length = 3) && decide (ws.getD 1 "" ∈ [("is" : Str), "not"])
def pieces (x : Str) : List Str := if x = nothing then [] else Txt.split x sepC
def wordsOf (p : Str) : List Str := Txt.split p sp1
def factRow (ws : List Str) : List Str := [ws.getD 1 "", ws.getD 0 "", ws.getD 2 ""]
def readFacts (ps : List Str) : List (List Str) := (ps.filter fun p => writesFact (wordsOf p)).map fun p => factRow (wordsOf p)
def readParts (ps : List Str) : List (List Str) := (ps.filter fun p => !writesFact (wordsOf p)).map wordsOf
def showFact (r : List Str) : Str := Txt.join sp1 [r.getD 1 "", r.getD 0 "", r.getD 2 ""]
def showRows (fs ps : List (List Str)) : List Str := fs.map showFact ++ ps.map (Txt.join sp1)
def showOf (fs ps : List (List Str)) : Str := if showRows fs ps = [] then nothing else Txt.join sepC (showRows fs ps)
def spWF (K : PySem.W.Frag) : Sp := fun vs H Q _ => ∃ a ws, vs = [.ref a] ∧ SqL K H a (ws.map V.str) ∧ ws.length ≤ 1000 ∧ Q (.bl (writesFact ws)) H
section
variable {P : Program} {w : World} {K : PySem.W.Frag} {mg : Str → Option Value} {base : Heap} {f g : Addr} {fd gd : FuncData}
theorem scWF : FnScope ["words"] ["words"] (defScope sWritesFact) := ⟨rfl, rfl, rfl, by decide +kernel, rfl, by decide +kernel, by decide +kernel⟩
theorem ok_writesFact (C : Con K mg w) (F : Fun K "writes_fact" "writes_fact" sWritesFact f fd) : FnOk P w K mg base CX0 1 f fd ["words"] (spWF K) := by
  refine F.okQ scWF (fun vs H Q E h => ?_) (fun cdv A outer s H vs Q E hr h => ?_)
  · obtain ⟨a, ws, rfl, _⟩ := h; rfl
  obtain ⟨a, ws, rfl, hS, hl, q⟩ := h
  obtain ⟨aN, gN, tN⟩ := C.factWords
  refine ⟨_, qb_one (qs_ret (qe_and (qe_cmpR op_eq (qe_callB call_len_seq rfl C.len PySem.boot_len (qa_cons (qv 0) qa_nil)) qe_int (nomark _))
    (qe_one (qe_cmpR op_in_seq (qe_ix ix_list (qv 0) qe_int (fun _ _ => rfl)) (qe_g gN) (by with_unfolding_all rfl))))), ?_⟩
  refine ⟨_, rfl, a, _, rfl, .inl hS, rfl, _, rfl, iteB (fun c => ?_) (fun c => ?_)⟩
  · have h3 : ws.length = 3 := by
      have c' : decide (V.int (((ws.map V.str).length : Nat) : Int) = V.int 3) = true := c
      simp at c'; omega
    have e1 : ws[1]? = some (ws.getD 1 "") := by
      rw [List.getD_eq_getElem?_getD, List.getElem?_eq_getElem (show 1 < ws.length by omega)]; rfl
    have e : writesFact ws = decide (ws.getD 1 "" ∈ [("is" : Str), "not"]) := by unfold writesFact; rw [decide_eq_true h3, Bool.true_and]
    rw [e, ← inV_strs] at q
    exact ⟨_, rfl, a, _, 1, .str (ws.getD 1 ""), rfl, rfl, hS, atI_nat (j := 1) (by rw [List.getElem?_map, e1]; rfl), aN, _, rfl, .inr (tN _), rfl, flat_strs _, q⟩
  · have h3 : ¬ ws.length = 3 := by
      have c' : decide (V.int (((ws.map V.str).length : Nat) : Int) = V.int 3) = false := c
      simp at c'; omega
    have e : writesFact ws = false := by unfold writesFact; rw [decide_eq_false h3, Bool.false_and]
    rw [e] at q
    exact q
theorem row3 {r : List Str} (h : r.length = 3) : ∃ a b c, r = [a, b, c] := by
  match r, h with
  | [a, b, c], _ => exact ⟨a, b, c, rfl⟩
end
end K3

set_option Elab.async false
set_option linter.all false
set_option maxRecDepth 100000
set_option maxHeartbeats 4000000
namespace K3
open PySem PySem.Spec L2 Mir
theorem split_len (z y : Str) : (Txt.split z y).length ≤ z.length + 2 := by
  unfold Txt.split
  split
  · simp
  · split
    · simp
    · rw [length_partsBetween]
      have := StrLaws.occ_length_le z y 0 z.length (z.length + 1)
      omega
theorem sum_le {B : Nat} : ∀ {ts : List Str}, (∀ t ∈ ts, t.length ≤ B) → (ts.map (·.length)).sum ≤ ts.length * B
  | [], _ => by simp
  | t :: ts, h => by
    have h1 := sum_le (ts := ts) (fun x hx => h x (List.mem_cons_of_mem _ hx))
    have h2 := h t (List.mem_cons_self ..)
    simp only [List.map_cons, List.sum_cons, List.length_cons, Nat.succ_mul]
    omega
theorem join_len (sep : Str) {B : Nat} {ts : List Str} (h : ∀ t ∈ ts, t.length ≤ B) : (Txt.join sep ts).length ≤ ts.length * B + ts.length * sep.length := by
  have e : Txt.join sep ts = Str.join sep ts := StrLaws.glued_eq_join sep ts
  rw [e]
  have := StrLaws.join_length_le sep ts
  have := sum_le h
  omega
theorem sp1_len : sp1.length = 1 := by decide +kernel
theorem sepC_len : sepC.length = 2 := by decide +kernel
structure Notes (mg : Str → Option Value) : Prop where
  nothing : Glob mg "NOTHING" (.str nothing)
section
variable {P : Program} {w : World} {K : PySem.W.Frag} {mg : Str → Option Value} {base : Heap} {f g gC : Addr} {fd gd dC : FuncData} {NT : Addr}
end
end K3

set_option Elab.async false
set_option linter.all false
set_option maxRecDepth 100000
set_option maxHeartbeats 4000000
namespace K3
open PySem PySem.Spec L2 Mir
/-- a telling that was made anew: its two lists are new ones -/
structure NewTell (K : PySem.W.Frag) (H H' : Hp) (t : Addr) (fs ps : List (List Str)) (fa pa : Addr) : Prop where
  same : Same H H'
  tup : SqT K H' t [.ref fa, .ref pa]
  facts : RowsAt K H' fa fs
  parts : RowsAt K H' pa ps
  newF : H fa = none
  newP : H pa = none
  ne : fa ≠ pa
theorem NewTell.tell {K : PySem.W.Frag} {H H' : Hp} {t : Addr} {fs ps : List (List Str)} {fa pa : Addr} (h : NewTell K H H' t fs ps fa pa) : TellAt K H' t [fs, ps] := ⟨[fa, pa], h.tup, .cons h.facts (.cons h.parts .nil)⟩
def spRead (K : PySem.W.Frag) (NT : Addr) : Sp := fun vs H Q E => ∃ x, vs = [.str x] ∧ x.length ≤ 2000 ∧ (∀ p ∈ pieces x, p.length ≤ 900) ∧ (pieces x).length ≤ 200 ∧ (∀ p ∈ pieces x, (wordsOf p).length ≤ 5 ∧ ∀ y ∈ wordsOf p, Short y) ∧
  (isTelling [readFacts (pieces x), readParts (pieces x)] = true → ∀ t fa pa H', NewTell K H H' t (readFacts (pieces x)) (readParts (pieces x)) fa pa → Q (.ref t) H') ∧
  (isTelling [readFacts (pieces x), readParts (pieces x)] = false → ∀ H', Same H H' → E (.ref NT) none H')
theorem same_put {H H' : Hp} {l : Addr} (hl : H l = none) (e : Same H H') (o : HO) : Same H (upd H' l o) := fun b u q => by rw [upd_ne (ne_of_none q hl)]; exact e b u q
theorem readFacts_snoc (l : List Str) (p : Str) : readFacts (l ++ [p]) = if writesFact (wordsOf p) = true then readFacts l ++ [factRow (wordsOf p)] else readFacts l := by
  unfold readFacts
  rw [List.filter_append, List.map_append]
  by_cases h : writesFact (wordsOf p) = true
  · rw [if_pos h, List.filter_cons_of_pos (by simpa using h)]; rfl
  · rw [if_neg h, List.filter_cons_of_neg (by simpa using h)]; simp
theorem readParts_snoc (l : List Str) (p : Str) : readParts (l ++ [p]) = if writesFact (wordsOf p) = true then readParts l else readParts l ++ [wordsOf p] := by
  unfold readParts
  rw [List.filter_append, List.map_append]
  by_cases h : writesFact (wordsOf p) = true
  · rw [if_pos h, List.filter_cons_of_neg (by simp [h])]; simp
  · rw [if_neg h, List.filter_cons_of_pos (by simpa using h)]; rfl
theorem readFacts_len (l : List Str) : (readFacts l).length ≤ l.length := by unfold readFacts; rw [List.length_map]; exact List.length_filter_le _ _
theorem readParts_len (l : List Str) : (readParts l).length ≤ l.length := by unfold readParts; rw [List.length_map]; exact List.length_filter_le _ _
def tPieces : TE := fun σ H Q => ∃ x, σ[0]? = some (some (.str x)) ∧ x.length ≤ 2000 ∧ ∀ p, H p = none → Q (.ref p) (upd H p (.lst ((pieces x).map V.str)))
theorem pieces_weak {K : PySem.W.Frag} (σ : St) (H : Hp) (Q : VK) (h : tPieces σ H Q) : tIf (tTest (tOp rEq (tVar 0) (tC (.str nothing)))) (tLst tNil) (tBM K "str" rSplit (tVar 0) (tCons (tC (.str sepC)) tNil)) σ H Q := by
  obtain ⟨x, h0, hx, q⟩ := h
  refine ⟨_, h0, rfl, _, rfl, iteB (fun c => ⟨Nat.zero_le _, fun p hp => ?_⟩) (fun c => ⟨_, h0, rfl, x, sepC, rfl, rfl, by decide +kernel, Nat.le_trans hx (by decide), Nat.le_trans (split_len x sepC) (Nat.le_trans (show x.length + 2 ≤ 2002 by omega) (by decide)), fun p hp => ?_⟩)⟩
  · have c' : x = nothing := by simpa using c
    have := q p hp
    unfold pieces at this
    rw [if_pos c'] at this
    exact this
  · have c' : ¬ x = nothing := by simpa using c
    have := q p hp
    unfold pieces at this
    rw [if_neg c'] at this
    exact this
section
variable {P : Program} {w : World} {K : PySem.W.Frag} {mg : Str → Option Value} {base : Heap} {f gW gC : Addr} {fd dW dC : FuncData} {NT : Addr}
theorem scRead : FnScope ["text", "facts", "parts", "pieces", "piece", "words", "telling"] ["text"] (defScope sRead) := ⟨rfl, rfl, rfl, by decide +kernel, rfl, by decide +kernel, by decide +kernel⟩
theorem getD_at {ws : List Str} {i : Nat} (h : i < ws.length) : atI (ws.map V.str) (i : Int) = some (.str (ws.getD i "")) := atI_nat (by rw [List.getElem?_map, List.getD_eq_getElem?_getD, List.getElem?_eq_getElem h]; rfl)
theorem snocR {K : PySem.W.Frag} {H H' : Hp} {as : List Addr} {rs : List (List Str)} {b : Addr} {r : List Str} (h : Paired (fun b r => RowAt K H b r) as rs) (e : ∀ b r, RowAt K H b r → RowAt K H' b r) (hr : RowAt K H' b r) : Paired (fun b r => RowAt K H' b r) (as ++ [b]) (rs ++ [r]) :=
  Paired.app (Paired.mapP h fun b r z => e b r z) (.cons hr .nil)
/-- a row's place is no list's -/
theorem row_put {H : Hp} {l b : Addr} {xs ys : List V} {r : List Str} (hl : H l = some (.lst xs)) (h : RowAt K H b r) : RowAt K (upd H l (.lst ys)) b r := by
  rcases h with (h | ⟨o, h⟩) | h
  · have hne : b ≠ l := fun e => by rw [e, hl] at h; cases h
    exact .inl (.inl (by show upd H l _ b = _; rw [upd_ne hne]; exact h))
  · have hne : b ≠ l := fun e => by rw [e, hl] at h; cases h
    exact .inl (.inr ⟨o, by show upd H l _ b = _; rw [upd_ne hne]; exact h⟩)
  · exact .inr h
theorem ok_read (C : Con K mg w) (N : Notes mg) (F : Fun K "read_telling" "read_telling" sRead f fd) (GW : FnOk P w K mg base CX0 1 gW dW ["words"] (spWF K)) (cW : Cal K mg "writes_fact" gW dW ["words"])
    (GC : FnOk P w K mg base (CXE P w base) 5 gC dC ["telling"] (spCheck K NT)) (cC : Cal K mg "check_telling" gC dC ["telling"]) : FnOk P w K mg base (CXE P w base) 6 f fd ["text"] (spRead K NT) := by
  refine F.okEQ scRead (fun vs H Q E h => ?_) (fun cdv A outer s H vs Q E hr h => ?_)
  · obtain ⟨x, rfl, _⟩ := h; rfl
  obtain ⟨x, rfl, hx, hpl, hpn, hws, qY, qN⟩ := h
  have nd := scRead.nd
  have hr1 := hr.mono (j := 1) (by omega)
  refine ⟨_, qb_cons (qs_set (i := 1) nd rfl (Or.inl rfl) (qe_lst qa_nil)) (qb_cons (qs_set (i := 2) nd rfl (Or.inl rfl) (qe_lst qa_nil))
    (qb_cons (qs_set (i := 3) nd rfl (Or.inl rfl) (qe_weak (qe_ifExp (qt_cmpR op_eq (qv 0) (qe_g N.nothing) (nomark _)) (qe_lst qa_nil) (qe_bmK (K := K) rfl PySem.F.plainAttrs_str PySem.F.slot_str_split PySem.F.type_str_split mt_split (qv 0) (qa_str qa_nil))) pieces_weak))
    (qb_cons (qs_nox (qs_for PassesOwn.never rfl (qi_list (qv 3)) (qg_name (i := 4) nd rfl (Or.inl rfl))
      (qb_cons (qs_set (i := 5) nd rfl (Or.inl rfl) (qe_bmK (K := K) rfl PySem.F.plainAttrs_str PySem.F.slot_str_split PySem.F.type_str_split mt_split (qv 4) (qa_str qa_nil)))
      (qb_one (qs_if (qt_val (qe_call GW hr1 rfl cW.name cW.keep cW.bind .nil pass0 (qa_nm (qv 5) qa_nil)))
        (qb_one (qs_expr (qe_bmK (K := K) rfl PySem.F.plainAttrs_list PySem.F.slot_list_append PySem.F.type_list_append mt_append (qv 1)
          (qa_tp (qa_sub (qe_ix ix_list (qv 5) qe_int (fun _ _ => rfl)) (qa_sub (qe_ix ix_list (qv 5) qe_int (fun _ _ => rfl)) (qa_sub (qe_ix ix_list (qv 5) qe_int (fun _ _ => rfl)) qa_nil))) qa_nil))))
        (qb_one (qs_expr (qe_bmK (K := K) rfl PySem.F.plainAttrs_list PySem.F.slot_list_append PySem.F.type_list_append mt_append (qv 2)
          (qa_call (qe_callTy call_tuple_of rfl C.tuple PyProof.Rows.boot_tuple (qa_nm (qv 5) qa_nil)) qa_nil)))))))))
    (qb_cons (qs_set (i := 6) nd rfl (Or.inl rfl) (qe_tup (qa_nm (qv 1) (qa_nm (qv 2) qa_nil))))
    (qb_cons (qs_expr (qe_call GC hr rfl cC.name cC.keep cC.bind .nil (pass_cx rfl) (qa_nm (qv 6) qa_nil)))
    (qb_one (qs_ret (qv 6)))))))), ?_⟩
  refine ⟨Nat.zero_le _, fun fa hfa => ?_⟩
  have s1 := same_new hfa (.lst [])
  refine ⟨Nat.zero_le _, fun pa hpa => ?_⟩
  have s2 := same_new hpa (.lst [])
  have hfp : fa ≠ pa := fun e => by rw [← e, upd_same] at hpa; cases hpa
  have hpa0 : H pa = none := s1.free hpa
  refine ⟨x, rfl, hx, fun pc hpc => ?_⟩
  have s3 := same_new hpc (.lst ((pieces x).map V.str))
  have hcf : pc ≠ fa := Ne.symm (ne_of_none (s2 _ _ (upd_same (H := H) (a := fa) (o := .lst []))) hpc)
  have hcp : pc ≠ pa := fun e => by rw [e, upd_same] at hpc; cases hpc
  refine ⟨_, rfl, pc, rfl, ⟨_, SqL.of upd_same⟩, ?_⟩
  refine for_list (xs := (pieces x).map V.str) (fun i σ H' => Same H H' ∧ H' pc = some (.lst ((pieces x).map V.str)) ∧ ∃ fas pas z4 z5, H' fa = some (.lst (fas.map V.ref)) ∧ H' pa = some (.lst (pas.map V.ref)) ∧ Paired (fun b r => RowAt K H' b r) fas (readFacts ((pieces x).take i)) ∧ Paired (fun b r => RowAt K H' b r) pas (readParts ((pieces x).take i)) ∧
      σ = [some (.str x), some (.ref fa), some (.ref pa), some (.ref pc), z4, z5, none]) ⟨s1.trans (s2.trans s3), upd_same, [], [], none, none, s3 _ _ (s2 _ _ upd_same), s3 _ _ upd_same, .nil, .nil, rfl⟩ (fun i σ H' _ p => SqL.of p.2.1) ?_ ?_
  · rintro i v σ H' hi ⟨e, hc', fas, pas, z4, z5, hF, hP, pF, pP, rfl⟩
    rw [List.getElem?_map] at hi
    cases hb : (pieces x)[i]? with
    | none => rw [hb] at hi; cases hi
    | some p =>
      rw [hb] at hi
      have hv : v = .str p := (Option.some.inj hi).symm
      subst hv
      have hm : p ∈ pieces x := List.mem_of_getElem? hb
      have hi2 : i < (pieces x).length := (List.getElem?_eq_some_iff.mp hb).1
      have hw5 := (hws p hm).1
      have ht1 : (pieces x).take (i + 1) = (pieces x).take i ++ [p] := by rw [List.take_add_one, hb]; rfl
      refine ⟨_, rfl, rfl, p, sp1, rfl, rfl, by decide +kernel, Nat.le_trans (hpl p hm) (by decide), Nat.le_trans hw5 (by decide), fun wl hwl => ?_⟩
      have s4 : Same H' (upd H' wl (.lst ((wordsOf p).map V.str))) := same_new hwl _
      have hwf : wl ≠ fa := fun e => by rw [e, hF] at hwl; cases hwl
      have hwp : wl ≠ pa := fun e => by rw [e, hP] at hwl; cases hwl
      have hfl : fas.length ≤ 200 := by
        have h1 := Paired.length pF
        have h2 := readFacts_len ((pieces x).take i)
        have h3 := List.length_take_le i (pieces x)
        omega
      have hpl2 : pas.length ≤ 200 := by
        have h1 := Paired.length pP
        have h2 := readParts_len ((pieces x).take i)
        have h3 := List.length_take_le i (pieces x)
        omega
      refine ⟨_, rfl, wl, wordsOf p, rfl, SqL.of upd_same, by omega, _, rfl, iteB (fun c => ?_) (fun c => ?_)⟩
      · have h3 : (wordsOf p).length = 3 := by
          unfold writesFact at c
          rw [Bool.and_eq_true, decide_eq_true_eq] at c
          exact c.1
        have hW : SqL K (upd H' wl (.lst ((wordsOf p).map V.str))) wl ((wordsOf p).map V.str) := SqL.of upd_same
        refine ⟨_, rfl, .inl ⟨rfl, _, SqL.of (s4 _ _ hF)⟩, _, rfl, wl, _, 1, _, rfl, rfl, hW, getD_at (i := 1) (by omega), _, rfl, wl, _, 0, _, rfl, rfl, hW, getD_at (i := 0) (by omega), _, rfl, wl, _, 2, _, rfl, rfl, hW, getD_at (i := 2) (by omega), (show 3 ≤ sizeLine by decide), fun tp htp => ?_⟩
        have s5 := same_new htp (.tup ((factRow (wordsOf p)).map V.str))
        have hF5 := s5 _ _ (s4 _ _ hF)
        refine ⟨fa, _, .ref tp, rfl, rfl, hF5, by rw [List.length_map]; exact Nat.lt_of_le_of_lt hfl (by decide), ?_⟩
        refine ⟨same_put hfa (e.trans (s4.trans s5)) _, ?_, fas ++ [tp], pas, _, _, ?_, ?_, ?_, ?_, rfl⟩
        · rw [upd_ne hcf]; exact s5 _ _ (s4 _ _ hc')
        · rw [upd_same, List.map_append]; rfl
        · rw [upd_ne (Ne.symm hfp)]; exact s5 _ _ (s4 _ _ hP)
        · rw [ht1, readFacts_snoc, if_pos c]
          exact snocR pF (fun b r z => row_put hF5 ((z.same s4).same s5)) (row_put hF5 (SqT.of upd_same))
        · rw [ht1, readParts_snoc, if_pos c]
          exact Paired.mapP pP fun b r z => row_put hF5 ((z.same s4).same s5)
      · have c' : ¬ writesFact (wordsOf p) = true := by rw [c]; exact Bool.false_ne_true
        refine ⟨_, rfl, .inl ⟨rfl, _, SqL.of (s4 _ _ hP)⟩, _, rfl, wl, _, rfl, .inl ⟨SqL.of upd_same, fun tp htp => ?_⟩⟩
        have s5 := same_new htp (.tup ((wordsOf p).map V.str))
        have hP5 := s5 _ _ (s4 _ _ hP)
        refine ⟨pa, _, .ref tp, rfl, rfl, hP5, by rw [List.length_map]; exact Nat.lt_of_le_of_lt hpl2 (by decide), ?_⟩
        refine ⟨same_put hpa0 (e.trans (s4.trans s5)) _, ?_, fas, pas ++ [tp], _, _, ?_, ?_, ?_, ?_, rfl⟩
        · rw [upd_ne hcp]; exact s5 _ _ (s4 _ _ hc')
        · rw [upd_ne hfp]; exact s5 _ _ (s4 _ _ hF)
        · rw [upd_same, List.map_append]; rfl
        · rw [ht1, readFacts_snoc, if_neg c']
          exact Paired.mapP pF fun b r z => row_put hP5 ((z.same s4).same s5)
        · rw [ht1, readParts_snoc, if_neg c']
          exact snocR pP (fun b r z => row_put hP5 ((z.same s4).same s5)) (row_put hP5 (SqT.of upd_same))
  · rintro σ H' ⟨e, hc', fas, pas, z4, z5, hF, hP, pF, pP, rfl⟩
    rw [List.length_map, List.take_length] at pF pP
    refine ⟨_, rfl, _, rfl, (show 2 ≤ sizeLine by decide), fun t ht => ?_⟩
    have s6 := same_new ht (.tup [.ref fa, .ref pa])
    have NTl : NewTell K H (upd H' t (.tup [.ref fa, .ref pa])) t (readFacts (pieces x)) (readParts (pieces x)) fa pa :=
      ⟨e.trans s6, SqT.of upd_same, ⟨fas, s6 _ _ hF, Paired.mapP pF fun b r z => z.same s6⟩, ⟨pas, s6 _ _ hP, Paired.mapP pP fun b r z => z.same s6⟩, hfa, hpa0, hfp⟩
    have shF : ShortRows (readFacts (pieces x)) := ⟨Nat.le_trans (readFacts_len _) hpn, fun r hr' => by
      obtain ⟨p, hp, rfl⟩ := List.mem_map.mp hr'
      have hp' := (List.mem_filter.mp hp)
      have hh := hws p hp'.1
      refine ⟨by show 3 ≤ 5; omega, fun y hy => ?_⟩
      have h3 : (wordsOf p).length = 3 := by
        have c := hp'.2
        unfold writesFact at c
        rw [Bool.and_eq_true, decide_eq_true_eq] at c
        exact c.1
      obtain ⟨a0, a1, a2, ea⟩ := row3 h3
      rw [ea] at hy hh
      have hy' : y ∈ ([a1, a0, a2] : List Str) := hy
      refine hh.2 y ?_
      simp only [List.mem_cons, List.not_mem_nil, or_false] at hy' ⊢
      rcases hy' with h | h | h <;> simp [h]⟩
    have shP : ShortRows (readParts (pieces x)) := ⟨Nat.le_trans (readParts_len _) hpn, fun r hr' => by
      obtain ⟨p, hp, rfl⟩ := List.mem_map.mp hr'
      exact hws p (List.mem_filter.mp hp).1⟩
    refine ⟨_, rfl, t, [readFacts (pieces x), readParts (pieces x)], rfl, NTl.tell, ⟨by simp, fun rs hrs => ?_⟩, fun H2 e2 => iteB (fun c => ?_) (fun c => ?_)⟩
    · simp only [List.mem_cons, List.not_mem_nil, or_false] at hrs
      rcases hrs with rfl | rfl
      · exact shF
      · exact shP
    · exact ⟨_, rfl, qY c t fa pa H2 ⟨NTl.same.trans e2, e2.seqT NTl.tup, NTl.facts.same e2, NTl.parts.same e2, hfa, hpa0, hfp⟩⟩
    · exact qN c H2 (NTl.same.trans e2)
end
end K3

set_option Elab.async false
set_option linter.all false
set_option maxRecDepth 100000
set_option maxHeartbeats 4000000
namespace K3
open PySem PySem.Spec L2 Mir
abbrev sCell : Stmt := top 29
abbrev sTake : Stmt := top 30
abbrev sValue2 : Stmt := top 33
abbrev sField : Stmt := top 34
abbrev sFact2 : Stmt := top 35
abbrev sPart2 : Stmt := top 36
def cellAt (ns : List Int) (k : Nat) : Int := (ns[k]?).getD 0
def spCell (K : PySem.W.Frag) : Sp := fun vs H Q _ => ∃ (a : Addr) (ns : List Int) (k : Nat), vs = [.ref a, .int (k : Int)] ∧ SqL K H a (ns.map V.int) ∧ Q (.int (cellAt ns k)) H
def ValueOf (xs : List Str) (y : Str) : Prop := y = "nil" ∨ y ∈ xs
def FieldOf (xs : List Str) (y : Str) : Prop := y = "any" ∨ ValueOf xs y
def FactOf (xs : List Str) (r : List Str) : Prop := ∃ k u v : Str, r = [k, u, v] ∧ (k = "is" ∨ k = "not") ∧ ValueOf xs u ∧ ValueOf xs v
def PartOf (xs : List Str) (r : List Str) : Prop := (∃ a b c : Str, r = [("cell" : Str), a, b, c] ∧ ValueOf xs a ∧ FieldOf xs b ∧ FieldOf xs c) ∨ (∃ a b : Str, r = [("stretch" : Str), a, b] ∧ ValueOf xs a ∧ ValueOf xs b) ∨ (∃ a : Str, r = [("tree" : Str), a] ∧ ValueOf xs a)
def Few8 (xs : List Str) : Prop := xs ≠ [] ∧ xs.length ≤ 8
theorem at_mod {α : Type} {xs : List α} {m : Int} {i : Int} (hl : (xs.length : Int) = m) (hm : 0 < m) : ∃ v, atI xs (i % m) = some v ∧ v ∈ xs := by
  have h0 := Int.emod_nonneg i (Int.ne_of_gt hm)
  have h1 := Int.emod_lt_of_pos i hm
  generalize i % m = j at h0 h1
  obtain ⟨k, rfl⟩ := Int.eq_ofNat_of_zero_le h0
  have hk : k < xs.length := by omega
  exact ⟨xs[k], atI_nat (List.getElem?_eq_getElem hk), List.getElem_mem hk⟩
/-- a value, a field of the names -/
def spVal (K : PySem.W.Frag) (R : List Str → Str → Prop) : Sp := fun vs H Q _ => ∃ (i : Int) (a : Addr) (xs : List Str), vs = [.int i, .ref a] ∧ SqL K H a (xs.map V.str) ∧ Few8 xs ∧ ∀ y, R xs y → Q (.str y) H
/-- a row of the names -/
def spRowOf (K : PySem.W.Frag) (R : List Str → List Str → Prop) : Sp := fun vs H Q _ => ∃ (i : Int) (a : Addr) (xs : List Str), vs = [.int i, .ref a] ∧ SqL K H a (xs.map V.str) ∧ Few8 xs ∧ ∀ t r H', Same H H' → H' t = some (.tup (r.map V.str)) → R xs r → Q (.ref t) H'
theorem qt_weak {X : Cx} {e : Expr} {t t' : TT} (h : QT X e t) (w : ∀ σ H Q, t' σ H Q → t σ H Q) : QT X e t' := ⟨fun pins s σ H Q I q => h.run pins s σ H Q I (w σ H Q q)⟩
section
variable {P : Program} {w : World} {K : PySem.W.Frag} {mg : Str → Option Value} {base : Heap} {f g g2 : Addr} {fd gd gd2 : FuncData}
theorem scCell : FnScope ["_law_script", "_law_k"] ["_law_script", "_law_k"] (defScope sCell) := ⟨rfl, rfl, rfl, by decide +kernel, rfl, by decide +kernel, by decide +kernel⟩
theorem ok_cellAt (C : Con K mg w) (F : Fun K "_law_cell_at" "_law_cell_at" sCell f fd) : FnOk P w K mg base CX0 1 f fd ["_law_script", "_law_k"] (spCell K) := by
  refine F.okQ scCell (fun vs H Q E h => ?_) (fun cdv A outer s H vs Q E hr h => ?_)
  · obtain ⟨a, ns, k, rfl, _⟩ := h; rfl
  obtain ⟨a, ns, k, rfl, hS, q⟩ := h
  refine ⟨_, qb_cons (qs_if (qt_cmpR op_lt (qv 1) (qe_callB call_len_seq rfl C.len PySem.boot_len (qa_nm (qv 0) qa_nil)) (nomark _)) (qb_one (qs_ret (qe_ix ix_list (qv 0) (qv 1) (fun _ _ => rfl)))) qb_nil)
    (qb_one (qs_ret qe_int)), ?_⟩
  have hl : (ns.map V.int).length = ns.length := List.length_map _
  refine ⟨_, rfl, _, rfl, a, _, rfl, .inl hS, _, _, rfl, rfl, _, rfl, iteB (fun c => ?_) (fun c => ?_)⟩
  · have c' := of_decide_eq_true c
    rw [hl] at c'
    have hk : k < ns.length := by omega
    have e : cellAt ns k = ns[k] := by unfold cellAt; rw [List.getElem?_eq_getElem hk]; rfl
    rw [e] at q
    exact ⟨_, rfl, _, rfl, a, _, _, _, rfl, rfl, hS, atI_nat (by rw [List.getElem?_map, List.getElem?_eq_getElem hk]; rfl), q⟩
  · have c' := of_decide_eq_false c
    rw [hl] at c'
    have hk : ns.length ≤ k := by omega
    have e : cellAt ns k = 0 := by unfold cellAt; rw [List.getElem?_eq_none hk]; rfl
    rw [e] at q
    exact q
theorem scValue2 : FnScope ["_law_cell", "_law_names_here"] ["_law_cell", "_law_names_here"] (defScope sValue2) := ⟨rfl, rfl, rfl, by decide +kernel, rfl, by decide +kernel, by decide +kernel⟩
theorem ok_value2 (C : Con K mg w) (F : Fun K "_law_value" "_law_value" sValue2 f fd) : FnOk P w K mg base CX0 1 f fd ["_law_cell", "_law_names_here"] (spVal K ValueOf) := by
  refine F.okQ scValue2 (fun vs H Q E h => ?_) (fun cdv A outer s H vs Q E hr h => ?_)
  · obtain ⟨i, a, xs, rfl, _⟩ := h; rfl
  obtain ⟨i, a, xs, rfl, hS, hf, q⟩ := h
  refine ⟨_, qb_cons (qs_if (qt_cmpR op_eq (qe_op op_mod (qv 0) qe_int) qe_int (nomark _)) (qb_one (qs_ret qe_str)) qb_nil)
    (qb_one (qs_ret (qe_ix ix_list (qv 1) (qe_op op_mod (qe_op op_mod (qv 0) qe_int) (qe_callB call_len_seq rfl C.len PySem.boot_len (qa_nm (qv 1) qa_nil))) (fun _ _ => rfl)))), ?_⟩
  refine ⟨_, rfl, _, _, rfl, rfl, (show (0 : Int) < 10 by decide), rfl, _, rfl, iteB (fun c => q _ (.inl rfl)) (fun c => ?_)⟩
  have hl0 : 0 < xs.length := by
    cases xs with
    | nil => exact absurd rfl hf.1
    | cons => simp
  obtain ⟨v, hv, hm⟩ := at_mod (xs := xs.map V.str) (m := ((xs.map V.str).length : Int)) (i := i % 10) rfl (by rw [List.length_map]; omega)
  obtain ⟨y, hy, rfl⟩ := List.mem_map.mp hm
  exact ⟨_, rfl, _, rfl, _, _, rfl, rfl, (show (0 : Int) < 10 by decide), _, rfl, a, _, rfl, .inl hS, _, _, rfl, rfl, (show (0 : Int) < ((xs.map V.str).length : Int) by rw [List.length_map]; omega), a, _, _, _, rfl, rfl, hS, hv, q y (.inr hy)⟩
theorem scField : FnScope ["_law_cell", "_law_names_here"] ["_law_cell", "_law_names_here"] (defScope sField) := ⟨rfl, rfl, rfl, by decide +kernel, rfl, by decide +kernel, by decide +kernel⟩
theorem ok_field (F : Fun K "_law_field" "_law_field" sField f fd) (G : FnOk P w K mg base CX0 1 g gd ["_law_cell", "_law_names_here"] (spVal K ValueOf)) (cG : Cal K mg "_law_value" g gd ["_law_cell", "_law_names_here"]) : FnOk P w K mg base CX0 2 f fd ["_law_cell", "_law_names_here"] (spVal K FieldOf) := by
  refine F.okQ scField (fun vs H Q E h => ?_) (fun cdv A outer s H vs Q E hr h => ?_)
  · obtain ⟨i, a, xs, rfl, _⟩ := h; rfl
  obtain ⟨i, a, xs, rfl, hS, hf, q⟩ := h
  refine ⟨_, qb_cons (qs_if (qt_cmpR op_eq (qe_op op_mod (qv 0) qe_int) qe_int (nomark _)) (qb_one (qs_ret qe_str)) qb_nil)
    (qb_one (qs_ret (qe_call G hr rfl cG.name cG.keep cG.bind .nil pass0 (qa_bop (qe_op op_fdiv (qv 0) qe_int) (qa_nm (qv 1) qa_nil))))), ?_⟩
  refine ⟨_, rfl, _, _, rfl, rfl, (show (0 : Int) < 5 by decide), rfl, _, rfl, iteB (fun c => q _ (.inl rfl)) (fun c => ?_)⟩
  exact ⟨_, rfl, _, _, rfl, rfl, (show CDiv _ 5 from ⟨by decide, by decide⟩), _, rfl, _, a, xs, rfl, hS, hf, fun y hy => q y (.inr hy)⟩
theorem scFact2 : FnScope ["_law_cell", "_law_names_here"] ["_law_cell", "_law_names_here"] (defScope sFact2) := ⟨rfl, rfl, rfl, by decide +kernel, rfl, by decide +kernel, by decide +kernel⟩
theorem ok_fact2 (F : Fun K "_law_fact" "_law_fact" sFact2 f fd) (G : FnOk P w K mg base CX0 1 g gd ["_law_cell", "_law_names_here"] (spVal K ValueOf)) (cG : Cal K mg "_law_value" g gd ["_law_cell", "_law_names_here"]) : FnOk P w K mg base CX0 2 f fd ["_law_cell", "_law_names_here"] (spRowOf K FactOf) := by
  refine F.okQ scFact2 (fun vs H Q E h => ?_) (fun cdv A outer s H vs Q E hr h => ?_)
  · obtain ⟨i, a, xs, rfl, _⟩ := h; rfl
  obtain ⟨i, a, xs, rfl, hS, hf, q⟩ := h
  refine ⟨_, qb_one (qs_ret (qe_tup (qa_sub (qe_ix ix_list (qe_lst (qa_str (qa_str qa_nil))) (qe_op op_mod (qv 0) qe_int) (fun _ _ => rfl))
    (qa_call (qe_call G hr rfl cG.name cG.keep cG.bind .nil pass0 (qa_bop (qe_op op_fdiv (qv 0) qe_int) (qa_nm (qv 1) qa_nil)))
    (qa_call (qe_call G hr rfl cG.name cG.keep cG.bind .nil pass0 (qa_bop (qe_op op_fdiv (qv 0) qe_int) (qa_nm (qv 1) qa_nil))) qa_nil))))), ?_⟩
  refine ⟨(show 2 ≤ sizeLine by decide), fun l hl => ?_⟩
  have s1 := same_new hl (.lst [.str "is", .str "not"])
  obtain ⟨v, hv, hm⟩ := at_mod (xs := [V.str "is", V.str "not"]) (m := 2) (i := i) rfl (by decide)
  obtain ⟨k, hk, rfl⟩ : ∃ k : Str, (k = "is" ∨ k = "not") ∧ v = .str k := by
    simp only [List.mem_cons, List.not_mem_nil, or_false] at hm
    rcases hm with h | h
    · exact ⟨_, .inl rfl, h⟩
    · exact ⟨_, .inr rfl, h⟩
  refine ⟨_, rfl, _, _, rfl, rfl, (show (0 : Int) < 2 by decide), l, _, _, _, rfl, rfl, SqL.of upd_same, hv, ?_⟩
  refine ⟨_, rfl, _, _, rfl, rfl, (show CDiv _ 2 from ⟨by decide, by decide⟩), _, rfl, _, a, xs, rfl, s1.seq hS, hf, fun u hu => ?_⟩
  refine ⟨_, rfl, _, _, rfl, rfl, (show CDiv _ 20 from ⟨by decide, by decide⟩), _, rfl, _, a, xs, rfl, s1.seq hS, hf, fun u2 hu2 => ?_⟩
  refine ⟨(show 3 ≤ sizeLine by decide), fun t ht => ?_⟩
  exact q t [k, u, u2] _ (s1.trans (same_new ht _)) upd_same ⟨k, u, u2, rfl, hk, hu, hu2⟩
theorem scPart2 : FnScope ["_law_cell", "_law_names_here", "_law_first"] ["_law_cell", "_law_names_here"] (defScope sPart2) := ⟨rfl, rfl, rfl, by decide +kernel, rfl, by decide +kernel, by decide +kernel⟩
theorem ok_part2 (F : Fun K "_law_part" "_law_part" sPart2 f fd) (G : FnOk P w K mg base CX0 1 g gd ["_law_cell", "_law_names_here"] (spVal K ValueOf)) (cG : Cal K mg "_law_value" g gd ["_law_cell", "_law_names_here"])
    (G2 : FnOk P w K mg base CX0 2 g2 gd2 ["_law_cell", "_law_names_here"] (spVal K FieldOf)) (cG2 : Cal K mg "_law_field" g2 gd2 ["_law_cell", "_law_names_here"]) : FnOk P w K mg base CX0 3 f fd ["_law_cell", "_law_names_here"] (spRowOf K PartOf) := by
  refine F.okQ scPart2 (fun vs H Q E h => ?_) (fun cdv A outer s H vs Q E hr h => ?_)
  · obtain ⟨i, a, xs, rfl, _⟩ := h; rfl
  obtain ⟨i, a, xs, rfl, hS, hf, q⟩ := h
  have nd := scPart2.nd
  have hr1 := hr.mono (j := 1) (by omega)
  refine ⟨_, qb_cons (qs_if (qt_cmpR op_lt (qe_op op_mod (qv 0) qe_int) qe_int (nomark _))
      (qb_cons (qs_set (i := 2) nd rfl (Or.inl rfl) (qe_call G2 hr rfl cG2.name cG2.keep cG2.bind .nil pass0 (qa_bop (qe_op op_fdiv (qv 0) qe_int) (qa_nm (qv 1) qa_nil))))
      (qb_one (qs_ret (qe_tup (qa_str (qa_call (qe_call G hr1 rfl cG.name cG.keep cG.bind .nil pass0 (qa_bop (qe_op op_fdiv (qv 0) qe_int) (qa_nm (qv 1) qa_nil))) (qa_nm (qv 2)
        (qa_call (qe_call G2 hr rfl cG2.name cG2.keep cG2.bind .nil pass0 (qa_bop (qe_op op_fdiv (qv 0) qe_int) (qa_nm (qv 1) qa_nil))) qa_nil))))))))
      qb_nil)
    (qb_cons (qs_if (qt_cmpR op_eq (qe_op op_mod (qv 0) qe_int) qe_int (nomark _))
      (qb_one (qs_ret (qe_tup (qa_str (qa_call (qe_call G hr1 rfl cG.name cG.keep cG.bind .nil pass0 (qa_bop (qe_op op_fdiv (qv 0) qe_int) (qa_nm (qv 1) qa_nil)))
        (qa_call (qe_call G hr1 rfl cG.name cG.keep cG.bind .nil pass0 (qa_bop (qe_op op_fdiv (qv 0) qe_int) (qa_nm (qv 1) qa_nil))) qa_nil))))))
      qb_nil)
    (qb_one (qs_ret (qe_tup (qa_str (qa_call (qe_call G hr1 rfl cG.name cG.keep cG.bind .nil pass0 (qa_bop (qe_op op_fdiv (qv 0) qe_int) (qa_nm (qv 1) qa_nil))) qa_nil)))))), ?_⟩
  refine ⟨_, rfl, _, _, rfl, rfl, (show (0 : Int) < 4 by decide), _, _, rfl, rfl, _, rfl, iteB (fun c => ?_) (fun c => ?_)⟩
  · refine ⟨_, rfl, _, _, rfl, rfl, (show CDiv _ 40 from ⟨by decide, by decide⟩), _, rfl, _, a, xs, rfl, hS, hf, fun b hb => ?_⟩
    refine ⟨_, rfl, _, _, rfl, rfl, (show CDiv _ 4 from ⟨by decide, by decide⟩), _, rfl, _, a, xs, rfl, hS, hf, fun u hu => ?_⟩
    refine ⟨_, rfl, _, rfl, _, _, rfl, rfl, (show CDiv _ 2000 from ⟨by decide, by decide⟩), _, rfl, _, a, xs, rfl, hS, hf, fun d hd => ?_⟩
    exact ⟨(show 4 ≤ sizeLine by decide), fun t ht => q t ["cell", u, b, d] _ (same_new ht _) upd_same (.inl ⟨u, b, d, rfl, hu, hb, hd⟩)⟩
  refine ⟨_, rfl, _, _, rfl, rfl, (show (0 : Int) < 4 by decide), rfl, _, rfl, iteB (fun c => ?_) (fun c => ?_)⟩
  · refine ⟨_, rfl, _, _, rfl, rfl, (show CDiv _ 4 from ⟨by decide, by decide⟩), _, rfl, _, a, xs, rfl, hS, hf, fun u hu => ?_⟩
    refine ⟨_, rfl, _, _, rfl, rfl, (show CDiv _ 40 from ⟨by decide, by decide⟩), _, rfl, _, a, xs, rfl, hS, hf, fun u2 hu2 => ?_⟩
    exact ⟨(show 3 ≤ sizeLine by decide), fun t ht => q t ["stretch", u, u2] _ (same_new ht _) upd_same (.inr (.inl ⟨u, u2, rfl, hu, hu2⟩))⟩
  · refine ⟨_, rfl, _, _, rfl, rfl, (show CDiv _ 4 from ⟨by decide, by decide⟩), _, rfl, _, a, xs, rfl, hS, hf, fun u hu => ?_⟩
    exact ⟨(show 2 ≤ sizeLine by decide), fun t ht => q t ["tree", u] _ (same_new ht _) upd_same (.inr (.inr ⟨u, rfl, hu⟩))⟩
end
end K3

set_option Elab.async false
set_option linter.all false
set_option maxRecDepth 100000
set_option maxHeartbeats 4000000
namespace K3
open PySem PySem.Spec L2 Mir
abbrev sAnyNames : Stmt := top 31
abbrev sNames : Stmt := top 32
def spTake : Sp := fun vs H Q _ => ∃ (a : Addr) (n m : Int), vs = [.ref a, .int m] ∧ H a = some (.lst [.int n]) ∧ 0 < m ∧ m < 1073741824 ∧ Q (.int (n % m)) (upd H a (.lst [.int (n / m)]))
def letters36 : Str := "abcdefghijklmnopqrstuvwxyz0123456789"
theorem letters36_len : letters36.cps.toList.length = 36 := by decide +kernel
theorem letters36_line : letters36.length ≤ sizeLine := by decide +kernel
theorem letters36_ok : ∀ c ∈ letters36.cps.toList, okSign c = true := by decide +kernel
theorem letters26_ok : ∀ c ∈ letters36.cps.toList.take 26, decide (c ∈ Mir.letters.cps.toList) = true := by decide +kernel
/-- a list of eight names, made anew -/
def spMade (mg : Str → Option Value) : Sp := fun vs H Q _ => ∃ (i : Int), vs = [.int i] ∧ ∀ (p : Addr) (xs : List Str) (H' : Hp), Same H H' → H p = none → H' p = some (.lst (xs.map V.str)) → xs.length = 8 → (∀ x ∈ xs, isName x = true) → Q (.ref p) H'
/-- a word under way: a letter first, letters and figures -/
def Word (n : Nat) (x : Str) : Prop := x.length = n ∧ headOk x.cps.toList = true ∧ x.cps.toList.all okSign = true
theorem Word.name {n : Nat} {x : Str} (h : Word n x) (h1 : 1 ≤ n) (h8 : n ≤ 8) (hn : ¬ x ∈ Mir.noNames) : isName x = true := by
  unfold isName
  rw [if_neg, h.2.1, h.2.2]
  · rfl
  · rintro (z | z | z)
    · have := h.1; rw [z] at this; have e : (("" : Str)).length = 0 := by decide +kernel
      rw [e] at this; omega
    · have := h.1; omega
    · exact hn z
theorem Word.more {n : Nat} {x : Str} {c : Nat} (h : Word n x) (h1 : 1 ≤ n) (hc : okSign c = true) : Word (n + 1) (x ++ ⟨#[c]⟩) := by
  have e : (x ++ (⟨#[c]⟩ : Str)).cps.toList = x.cps.toList ++ [c] := by show (x.cps ++ #[c]).toList = _; rw [Array.toList_append]
  have hl : (x ++ (⟨#[c]⟩ : Str)).length = x.length + 1 := by show (x.cps ++ #[c]).size = _; rw [Array.size_append]; rfl
  refine ⟨by rw [hl, h.1], ?_, ?_⟩
  · rw [e]
    have h2 := h.2.1
    cases e2 : x.cps.toList with
    | nil => rw [e2] at h2; cases h2
    | cons d r => rw [e2] at h2; exact h2
  · rw [e, List.all_append, h.2.2]; simp [hc]
theorem Word.one {c : Nat} (h : decide (c ∈ Mir.letters.cps.toList) = true) : Word 1 ⟨#[c]⟩ := by
  refine ⟨rfl, h, ?_⟩
  show ([c].all okSign) = true
  unfold okSign
  simp only [List.all_cons, List.all_nil, h, Bool.true_or, Bool.and_true]
theorem at_mod26 {xs : List Nat} {i : Int} (hl : 26 ≤ xs.length) : ∃ v, atI xs (i % 26) = some v ∧ v ∈ xs.take 26 := by
  have h0 := Int.emod_nonneg i (show (26 : Int) ≠ 0 by decide)
  have h1 := Int.emod_lt_of_pos i (show (0 : Int) < 26 by decide)
  generalize i % 26 = j at h0 h1
  obtain ⟨k, rfl⟩ := Int.eq_ofNat_of_zero_le h0
  have hk : k < xs.length := by omega
  refine ⟨xs[k], atI_nat (List.getElem?_eq_getElem hk), ?_⟩
  refine List.mem_of_getElem? (i := k) ?_
  rw [List.getElem?_take_of_lt (by omega), List.getElem?_eq_getElem hk]
def qn (k : Nat) : Str := ("q" : Str) ++ Str.ofString (toString ((0 : Int) + (k : Nat)))
theorem qn_facts : ∀ k ∈ List.range 9, ("q" : Str).length + (Str.ofString (toString ((0 : Int) + (k : Nat)))).length ≤ sizeLine ∧ isName (qn k) = true := by decide +kernel
def qs : List Str := (List.range 9).map qn
theorem qs_nodup : qs.Nodup := by decide +kernel
theorem qs_left {xs : List Str} (h : xs.length ≤ 8) : ∃ y r, qs.filter (fun x => !decide (x ∈ xs)) = y :: r ∧ isName y = true := by
  cases e : qs.filter (fun x => !decide (x ∈ xs)) with
  | nil =>
    exfalso
    have hs : ∀ y ∈ qs, y ∈ xs := fun y hy => by
      apply Classical.byContradiction
      intro hn
      have : y ∈ qs.filter (fun x => !decide (x ∈ xs)) := List.mem_filter.mpr ⟨hy, by simpa using hn⟩
      rw [e] at this
      simp at this
    have h1 := List.Nodup.length_le_of_subset qs_nodup hs
    have h2 : qs.length = 9 := by unfold qs; rw [List.length_map, List.length_range]
    omega
  | cons y r =>
    refine ⟨y, r, rfl, ?_⟩
    have hm : y ∈ qs.filter (fun x => !decide (x ∈ xs)) := by rw [e]; exact List.mem_cons_self ..
    obtain ⟨k, hk, rfl⟩ := List.mem_map.mp (List.mem_filter.mp hm).1
    exact (qn_facts k hk).2
/-- whether the word is taken, as far as it matters -/
def tTaken : TT := fun σ H Q => ∃ (wd : Str) (tk nl : Addr) (xs : List Str), σ[7]? = some (some (.str wd)) ∧ σ[3]? = some (some (.ref tk)) ∧ σ[4]? = some (some (.ref nl)) ∧ H tk = some (.lst (Mir.noNames.map V.str)) ∧ H nl = some (.lst (xs.map V.str)) ∧ ∀ b : Bool, (b = false → ¬ wd ∈ Mir.noNames) → Q b H
theorem taken_weak {K : PySem.W.Frag} (σ : St) (H : Hp) (Q : Bool → Hp → Prop) (h : tTaken σ H Q) : tOr (tTest (tOp (rIn K false) (tVar 7) (tVar 3))) (tTest (tOp (rIn K false) (tVar 7) (tVar 4))) σ H Q := by
  obtain ⟨wd, tk, nl, xs, h7, h3, h4, hT, hN, q⟩ := h
  refine ⟨_, h7, _, h3, tk, _, rfl, .inl (SqL.of hT), rfl, flat_strs Mir.noNames, _, rfl, iteB (fun c => q true (fun z => by cases z)) (fun c => ?_)⟩
  have c' : inV (.str wd) (Mir.noNames.map V.str) = false := c
  rw [inV_strs] at c'
  exact ⟨_, h7, _, h4, nl, _, rfl, .inl (SqL.of hN), rfl, flat_strs xs, _, rfl, q _ fun _ => of_decide_eq_false c'⟩
section
variable {P : Program} {w : World} {K : PySem.W.Frag} {mg : Str → Option Value} {base : Heap} {f g : Addr} {fd gd : FuncData}
theorem scTake : FnScope ["_law_feed", "_law_many", "_law_number"] ["_law_feed", "_law_many"] (defScope sTake) := ⟨rfl, rfl, rfl, by decide +kernel, rfl, by decide +kernel, by decide +kernel⟩
theorem ok_take (F : Fun K "_law_take" "_law_take" sTake f fd) : FnOk P w K mg base CX0 1 f fd ["_law_feed", "_law_many"] spTake := by
  refine F.okQ scTake (fun vs H Q E h => ?_) (fun cdv A outer s H vs Q E hr h => ?_)
  · obtain ⟨a, n, m, rfl, _⟩ := h; rfl
  obtain ⟨a, n, m, rfl, hA, h0, h1, q⟩ := h
  have nd := scTake.nd
  refine ⟨_, qb_cons (qs_set (i := 2) nd rfl (Or.inl rfl) (qe_ix ix_list (qv 0) qe_int (fun _ _ => rfl)))
    (qb_cons (qs_asg (qe_op op_fdiv (qv 2) (qv 1)) (qg_sub (qv 0) qe_int set_list)) (qb_one (qs_ret (qe_op op_mod (qv 2) (qv 1))))), ?_⟩
  refine ⟨_, rfl, a, _, 0, .int n, rfl, rfl, SqL.of hA, rfl, ?_⟩
  refine ⟨_, rfl, _, rfl, _, _, rfl, rfl, ⟨h0, h1⟩, _, rfl, a, _, 0, 0, rfl, rfl, hA, rfl, ?_⟩
  exact ⟨_, rfl, _, rfl, _, _, rfl, rfl, h0, q⟩
theorem scAnyNames : FnScope ["_law_cell", "_law_feed", "_law_letters", "_law_taken", "_law_names_here", "_law_k", "_law_size", "_law_word", "_law_j"] ["_law_cell"] (defScope sAnyNames) := ⟨rfl, rfl, rfl, by decide +kernel, rfl, by decide +kernel, by decide +kernel⟩
theorem ok_anyNames (C : Con K mg w) (hrg : mg "range" = none) (F : Fun K "_law_any_names" "_law_any_names" sAnyNames f fd) (G : FnOk P w K mg base CX0 1 g gd ["_law_feed", "_law_many"] spTake) (cG : Cal K mg "_law_take" g gd ["_law_feed", "_law_many"]) :
    FnOk P w K mg base CX0 2 f fd ["_law_cell"] (spMade mg) := by
  refine F.okQ scAnyNames (fun vs H Q E h => ?_) (fun cdv A outer s H vs Q E hr h => ?_)
  · obtain ⟨i, rfl, _⟩ := h; rfl
  obtain ⟨i, rfl, q⟩ := h
  have nd := scAnyNames.nd
  refine ⟨_, qb_cons (qs_set (i := 1) nd rfl (Or.inl rfl) (qe_lst (qa_nm (qv 0) qa_nil)))
    (qb_cons (qs_set (i := 2) nd rfl (Or.inl rfl) qe_str)
    (qb_cons (qs_set (i := 3) nd rfl (Or.inl rfl) (qe_lst (qa_str (qa_str (qa_str (qa_str (qa_str (qa_str (qa_str (qa_str (qa_str (qa_str qa_nil))))))))))))
    (qb_cons (qs_set (i := 4) nd rfl (Or.inr rfl) (qe_lst qa_nil))
    (qb_cons (qs_for PassesOwn.never rfl (qi_range1 rfl hrg (qa_int qa_nil)) (qg_name (i := 5) nd rfl (Or.inl rfl))
      (qb_cons (qs_set (i := 6) nd rfl (Or.inl rfl) (qe_op op_add qe_int (qe_call G hr rfl cG.name cG.keep cG.bind .nil pass0 (qa_nm (qv 1) (qa_int qa_nil)))))
      (qb_cons (qs_set (i := 7) nd rfl (Or.inl rfl) (qe_ix ix_str (qv 2) (qe_call G hr rfl cG.name cG.keep cG.bind .nil pass0 (qa_nm (qv 1) (qa_int qa_nil))) (fun _ _ => rfl)))
      (qb_cons (qs_for PassesOwn.never rfl (qi_range1 rfl hrg (qa_bop (qe_op op_sub (qv 6) qe_int) qa_nil)) (qg_name (i := 8) nd rfl (Or.inl rfl))
        (qb_one (qs_set (i := 7) nd rfl (Or.inl rfl) (qe_op op_add_str (qv 7) (qe_ix ix_str (qv 2) (qe_call G hr rfl cG.name cG.keep cG.bind .nil pass0 (qa_nm (qv 1) (qa_int qa_nil))) (fun _ _ => rfl))))))
      (qb_cons (qs_if (qt_weak (QW.qt (qw_or (qt_cmpR op_in_seq (qv 7) (qv 3) (by with_unfolding_all rfl)) (qw_or1 (qt_cmpR op_in_seq (qv 7) (qv 4) (by with_unfolding_all rfl))))) (taken_weak (K := K)))
        (qb_one (qs_set (i := 7) nd rfl (Or.inl rfl) (qe_ix ix_list (qe_comp1 4 (qi_list (qe_comp0 (qi_range1 rfl hrg (qa_int qa_nil)) (fun _ _ _ _ => qts_nil) (fun _ _ _ _ => qe_op op_add_str qe_str (qe_callTy call_str_int rfl C.str PyProof.Rows.boot_str (qa_nm (qv 0) qa_nil)))))
          (fun _ _ _ _ => qts_one (qt_cmpR (show OpR _ _ (rIn K true) from op_notIn_seq) (qv 0) (qv 1) (by with_unfolding_all rfl))) (fun _ _ _ _ => qv 0)) qe_int (fun _ _ => rfl)))) qb_nil)
      (qb_one (qs_expr (qe_bmK (K := K) rfl PySem.F.plainAttrs_list PySem.F.slot_list_append PySem.F.type_list_append mt_append (qv 4) (qa_nm (qv 7) qa_nil)))))))))
    (qb_one (qs_ret (qv 4))))))), ?_⟩
  refine ⟨_, rfl, (show 1 ≤ sizeLine by decide), fun fe hfe => ?_⟩
  have s1 := same_new hfe (.lst [.int i])
  refine ⟨(show 10 ≤ sizeLine by decide), fun tk htk => ?_⟩
  have s2 := same_new htk (.lst (Mir.noNames.map V.str))
  refine ⟨Nat.zero_le _, fun nl hnl => ?_⟩
  have s3 := same_new hnl (.lst [])
  have hft : fe ≠ tk := ne_of_none upd_same htk
  have hfn : fe ≠ nl := ne_of_none (s2 _ _ upd_same) hnl
  have htn : tk ≠ nl := ne_of_none upd_same hnl
  have hn0 : H nl = none := s1.free (s2.free hnl)
  refine ⟨_, rfl, (by decide), (by decide), ?_⟩
  refine for_range (lo := 0) (n := 8) (fun k σ H' => Same H H' ∧ ∃ n xs z5 z6 z7 z8, H' fe = some (.lst [.int n]) ∧ H' tk = some (.lst (Mir.noNames.map V.str)) ∧ H' nl = some (.lst ((xs : List Str).map V.str)) ∧ xs.length = k ∧ (∀ x ∈ xs, isName x = true) ∧
    σ = [some (.int i), some (.ref fe), some (.str letters36), some (.ref tk), some (.ref nl), z5, z6, z7, z8]) ⟨s1.trans (s2.trans s3), i, [], none, none, none, none, s3 _ _ (s2 _ _ upd_same), s3 _ _ upd_same, upd_same, rfl, by simp, rfl⟩ ?_ ?_
  · rintro k σ H' hk ⟨e, n, xs, z5, z6, z7, z8, hF, hT, hN, hxl, hxs, rfl⟩
    refine ⟨_, rfl, fe, n, 8, rfl, hF, by decide, by decide, _, _, rfl, rfl, ?_⟩
    have g0 := Int.emod_nonneg n (show (8 : Int) ≠ 0 by decide)
    have g1 := Int.emod_lt_of_pos n (show (0 : Int) < 8 by decide)
    obtain ⟨c, hc, hcm⟩ := at_mod26 (xs := letters36.cps.toList) (i := n / 8) (by rw [letters36_len]; decide)
    refine ⟨_, rfl, _, rfl, fe, n / 8, 26, rfl, upd_same, by decide, by decide, letters36, _, c, rfl, rfl, letters36_line, hc, ?_⟩
    refine ⟨_, rfl, _, _, rfl, rfl, _, rfl, (by show -(2 ^ 62) ≤ 1 + n % 8 - 1; omega), (by show 1 + n % 8 - 1 < 2 ^ 62; omega), ?_⟩
    have up : ∀ {Hx : Hp} {b : Addr} {o u : HO}, b ≠ fe → Hx b = some o → upd Hx fe u b = some o := fun hb hq => by rw [upd_ne hb]; exact hq
    refine for_range (lo := 0) (n := (1 + n % 8 - 1).toNat) (fun j σ H2 => Same H H2 ∧ ∃ n2 wd z8, H2 fe = some (.lst [.int n2]) ∧ H2 tk = some (.lst (Mir.noNames.map V.str)) ∧ H2 nl = some (.lst (xs.map V.str)) ∧ Word (1 + j) wd ∧
      σ = [some (.int i), some (.ref fe), some (.str letters36), some (.ref tk), some (.ref nl), some (.int (0 + (k : Int))), some (.int (1 + n % 8)), some (.str wd), z8])
      ⟨same_put hfe (same_put hfe e _) _, n / 8 / 26, ⟨#[c]⟩, z8, upd_same, up (Ne.symm hft) (up (Ne.symm hft) hT), up (Ne.symm hfn) (up (Ne.symm hfn) hN), Word.one (letters26_ok c hcm), rfl⟩ ?_ ?_
    · rintro j σ H2 hj ⟨e2, n2, wd, z8, hF2, hT2, hN2, hW, rfl⟩
      obtain ⟨d, hd, hdm⟩ := at_mod (xs := letters36.cps.toList) (m := 36) (i := n2) (by rw [letters36_len]; rfl) (by decide)
      refine ⟨_, rfl, _, rfl, _, rfl, fe, n2, 36, rfl, hF2, by decide, by decide, letters36, _, d, rfl, rfl, letters36_line, hd, wd, _, rfl, rfl, ?_, ?_⟩
      · rw [hW.1]; exact Nat.le_trans (show 1 + j + 1 ≤ 1000 by omega) (by decide)
      · exact ⟨same_put hfe e2 _, _, _, _, upd_same, up (Ne.symm hft) hT2, up (Ne.symm hfn) hN2, hW.more (by omega) (letters36_ok d hdm), rfl⟩
    · rintro σ H2 ⟨e2, n2, wd, z8, hF2, hT2, hN2, hW, rfl⟩
      have hx8 : xs.length ≤ 8 := by omega
      have fin : ∀ (H3 : Hp) (w2 : Str), Same H H3 → H3 fe = some (.lst [.int n2]) → H3 tk = some (.lst (Mir.noNames.map V.str)) → H3 nl = some (.lst (xs.map V.str)) → isName w2 = true → xs.length < sizeLine := fun _ _ _ _ _ _ _ => Nat.lt_of_le_of_lt hx8 (by decide)
      refine ⟨wd, tk, nl, xs, rfl, rfl, rfl, hT2, hN2, fun b hb => iteB (fun cb => ?_) (fun cb => ?_)⟩
      · -- another word in its place
        refine ⟨_, rfl, (by decide), (by decide), ?_⟩
        refine comp_str (nums 0 9) (List.range 9) qn jseq_rng trivial (by simp [nums]) (by simp [nums]) (fun i' x r hx hr' H4 e4 Q' q' => ?_) fun D1 H4 hD1 e4 hd1 => ?_
        · have hr9 : r ∈ List.range 9 := List.mem_of_getElem? hr'
          have hx' : x = .int ((0 : Int) + (r : Nat)) := by
            unfold nums at hx
            rw [List.getElem?_map, hr'] at hx
            exact (Option.some.inj hx).symm
          subst hx'
          have hlt : r < 9 := List.mem_range.mp hr9
          refine ⟨_, rfl, _, rfl, ?_, _, _, rfl, rfl, (qn_facts r hr9).1, q' H4 (Same.refl _)⟩
          exact Nat.lt_of_le_of_lt (Nat.log2_le_self _) (by omega)
        refine ⟨D1, rfl, ⟨_, SqL.of hd1⟩, ?_⟩
        refine comp_map (qs.map V.str) (fun v => !inV v (xs.map V.str)) id jseq_list (SqL.of hd1) ?_ ?_ ?_ ?_
        · rw [List.length_map]; exact (by decide +kernel : qs.length ≤ sizeLine)
        · intro v hv H5 e5 Q' q'
          obtain ⟨y, hy, rfl⟩ := List.mem_map.mp hv
          exact ⟨_, rfl, _, rfl, nl, _, rfl, .inl (SqL.of (e5 _ _ (e4 _ _ hN2))), rfl, flat_strs _, _, rfl, q' H5 (Same.refl _)⟩
        · intro v hv hpv H5 e5 Q' q'
          obtain ⟨y, hy, rfl⟩ := List.mem_map.mp hv
          exact ⟨_, rfl, q' H5 (Same.refl _)⟩
        · intro D2 H5 hD2 e5 hd2
          have hw : ((qs.map V.str).filter (fun v => !inV v (xs.map V.str))).map id = (qs.filter fun x => !decide (x ∈ xs)).map V.str := by
            rw [List.map_id, List.filter_map]
            congr 1
            apply List.filter_congr
            intro x _
            show (!inV (.str x) (xs.map V.str)) = _
            rw [inV_strs]
          rw [hw] at hd2
          obtain ⟨y, r, ey, hy⟩ := qs_left hx8
          rw [ey] at hd2
          have e6 := e4.trans e5
          refine ⟨D2, _, 0, .str y, rfl, rfl, SqL.of hd2, atI_nat (j := 0) rfl, ?_⟩
          refine ⟨_, rfl, .inl ⟨rfl, _, SqL.of (e6 _ _ hN2)⟩, _, rfl, nl, _, .str y, rfl, rfl, e6 _ _ hN2, ?_, ?_⟩
          · rw [List.length_map]; exact Nat.lt_of_le_of_lt hx8 (by decide)
          refine ⟨same_put hn0 (e2.trans e6) _, n2, xs ++ [y], _, _, _, _, ?_, ?_, ?_, ?_, ?_, rfl⟩
          · rw [upd_ne hfn]; exact e6 _ _ hF2
          · rw [upd_ne htn]; exact e6 _ _ hT2
          · rw [upd_same, List.map_append]; rfl
          · rw [List.length_append, List.length_singleton, hxl]
          · intro x hx
            rcases List.mem_append.mp hx with h | h
            · exact hxs x h
            · simp only [List.mem_cons, List.not_mem_nil, or_false] at h; rw [h]; exact hy
      · have hnm : isName wd = true := hW.name (by omega) (by omega) (hb cb)
        refine ⟨_, rfl, .inl ⟨rfl, _, SqL.of hN2⟩, _, rfl, nl, _, .str wd, rfl, rfl, hN2, ?_, ?_⟩
        · rw [List.length_map]; exact Nat.lt_of_le_of_lt hx8 (by decide)
        refine ⟨same_put hn0 e2 _, n2, xs ++ [wd], _, _, _, _, ?_, ?_, ?_, ?_, ?_, rfl⟩
        · rw [upd_ne hfn]; exact hF2
        · rw [upd_ne htn]; exact hT2
        · rw [upd_same, List.map_append]; rfl
        · rw [List.length_append, List.length_singleton, hxl]
        · intro x hx
          rcases List.mem_append.mp hx with h | h
          · exact hxs x h
          · simp only [List.mem_cons, List.not_mem_nil, or_false] at h; rw [h]; exact hnm
  · rintro σ H' ⟨e, n, xs, z5, z6, z7, z8, hF, hT, hN, hxl, hxs, rfl⟩
    exact ⟨_, rfl, q nl xs H' e hn0 hN hxl hxs⟩
end
end K3

set_option Elab.async false
set_option linter.all false
set_option maxRecDepth 100000
set_option maxHeartbeats 4000000
namespace K3
open PySem PySem.Spec L2 Mir
def jx : Str := "jx4jx4jx"
def yy : Str := "y"
def ah : Str := "abcdefgh"
def s26 : Str := "abcdefghijklmnopqrstuvwxyz"
def fig : Str := "0123456789"
def s36 : Str := s26 ++ fig
def jxWord (m : Int) : Str := cutS jx (some m) none ++ yy
def jxName (m : Int) (k : Nat) : Str := cutS (jxWord m) none (some (1 + (0 + (k : Int))))
theorem jx_names : ∀ m ∈ [(0 : Int), 1], (cutS jx (some m) none).length + yy.length ≤ sizeLine ∧ (jxWord m).length ≤ sizeLine ∧ ∀ k ∈ List.range 8, isName (jxName m k) = true := by decide +kernel
theorem jx_line : jx.length ≤ sizeLine := by decide +kernel
theorem ah_line : ah.length ≤ sizeLine := by decide +kernel
theorem ah_len : (ah.cps.toList.length : Int) = 8 := by decide +kernel
theorem s26_len : s26.length = 26 := by decide +kernel
theorem s36_len : s36.length = 36 := by decide +kernel
theorem ah_ok : ∀ c ∈ ah.cps.toList, decide (c ∈ Mir.letters.cps.toList) = true ∧ okSign c = true := by decide +kernel
theorem s26_ok : ∀ c ∈ s26.cps.toList, decide (c ∈ Mir.letters.cps.toList) = true ∧ okSign c = true := by decide +kernel
theorem s36_ok : ∀ c ∈ s36.cps.toList, okSign c = true := by decide +kernel
/-- signs beyond h -/
def far (l : List Nat) : Nat := (l.filter fun c => !decide (c ∈ ah.cps.toList)).length
theorem far_app (a b : List Nat) : far (a ++ b) = far a + far b := by unfold far; rw [List.filter_append, List.length_append]
theorem far_rep {c : Nat} (h : c ∈ ah.cps.toList) (n : Nat) : far (List.replicate n c) = 0 := by
  unfold far
  rw [List.filter_eq_nil_iff.mpr]
  · rfl
  · intro x hx
    rw [List.eq_of_mem_replicate hx]
    simp [h]
theorem far_one (d : Nat) : far [d] ≤ 1 := by unfold far; exact List.length_filter_le _ _
theorem far_no : ∀ x ∈ Mir.noNames, 2 ≤ far x.cps.toList := by decide +kernel
/-- a name alike but for one sign -/
def oneName (c0 d : Nat) (a b : Int) : Str := reps c0 a ++ ⟨#[d]⟩ ++ reps c0 b
theorem oneName_ok {c0 d : Nat} {a b : Int} (hc : c0 ∈ ah.cps.toList) (ha : 0 ≤ a) (hb : 0 ≤ b) (hab : a + b ≤ 7) (hd : okSign d = true) (h0 : a = 0 → decide (d ∈ Mir.letters.cps.toList) = true) : isName (oneName c0 d a b) = true := by
  have e : (oneName c0 d a b).cps.toList = List.replicate a.toNat c0 ++ [d] ++ List.replicate b.toNat c0 := by
    unfold oneName reps
    show (((List.replicate a.toNat c0).toArray ++ #[d]) ++ (List.replicate b.toNat c0).toArray).toList = _
    rw [Array.toList_append, Array.toList_append]
  have hl : (oneName c0 d a b).length = a.toNat + 1 + b.toNat := by
    show (oneName c0 d a b).cps.size = _
    rw [← Array.length_toList, e, List.length_append, List.length_append, List.length_replicate, List.length_replicate]; rfl
  have hco := ah_ok c0 hc
  have hW : Word (a.toNat + 1 + b.toNat) (oneName c0 d a b) := by
    refine ⟨hl, ?_, ?_⟩
    · rw [e]
      by_cases ha0 : a = 0
      · subst ha0; exact h0 rfl
      · obtain ⟨n, hn⟩ : ∃ n, a.toNat = n + 1 := ⟨a.toNat - 1, by omega⟩
        rw [hn, List.replicate_succ]
        exact hco.1
    · rw [e, List.all_append, List.all_append]
      have h1 : ∀ n, (List.replicate n c0).all okSign = true := fun n => by
        rw [List.all_eq_true]; intro x hx; rw [List.eq_of_mem_replicate hx]; exact hco.2
      rw [h1, h1]; simp [hd]
  refine hW.name (by omega) (by omega) fun hn => ?_
  have h1 := far_no _ hn
  rw [e, far_app, far_app, far_rep hc, far_rep hc] at h1
  have h2 := far_one d
  omega
theorem set_same {σ : St} {i : Nat} {v : Option V} (h : σ[i]? = some v) : σ.set i v = σ := by
  apply List.ext_getElem?
  intro j
  by_cases hj : i = j
  · subst hj
    rw [List.getElem?_set_self (List.getElem?_eq_some_iff.mp h).1, h]
  · rw [List.getElem?_set_ne hj]
theorem qs_weak {X : Cx} {st : Stmt} {t t' : TS} (h : QS X st t) (w : ∀ D σ H, t' D σ H → t D σ H) : QS X st t' := ⟨fun pins s σ H D I q => h.run pins s σ H D I (w D σ H q)⟩
/-- the signs to draw from -/
def tSome : TS := fun D σ H => ∃ a : Int, σ[4]? = some (some (.int a)) ∧ σ[6]? = some (some (.str s26)) ∧ ∀ sm : Str, (sm = s26 ∨ (0 < a ∧ sm = s36)) → D.nx (σ.set 6 (some (.str sm))) H
theorem some_weak (D : Ends) (σ : St) (H : Hp) (h : tSome D σ H) : tIfS (tTest (tOp (rI0 fun i j => .bl (decide (j < i))) (tVar 4) (tC (.int 0)))) (tAsg (tOp (fun x y H Q => ∃ i j, x = .str i ∧ y = .str j ∧ i.length + j.length ≤ sizeLine ∧ Q (.str (i ++ j)) H) (tVar 6) (tC (.str fig))) (gName 6)) tNext D σ H := by
  obtain ⟨a, h4, h6, q⟩ := h
  refine ⟨_, h4, _, _, rfl, rfl, _, rfl, iteB (fun c => ?_) (fun c => ?_)⟩
  · refine ⟨_, h6, s26, fig, rfl, rfl, by decide +kernel, ?_⟩
    exact q s36 (.inr ⟨of_decide_eq_true c, rfl⟩)
  · have := q s26 (.inl rfl)
    rw [set_same h6] at this
    exact this
section
variable {P : Program} {w : World} {K : PySem.W.Frag} {mg : Str → Option Value} {base : Heap} {f g : Addr} {fd gd : FuncData}
theorem scNames : FnScope ["_law_cell", "_law_word", "_law_k", "_law_size", "_law_at", "_law_other", "_law_some", "_law_names_here", "_law_one"] ["_law_cell"] (defScope sNames) := ⟨rfl, rfl, rfl, by decide +kernel, rfl, by decide +kernel, by decide +kernel⟩
theorem ok_names (C : Con K mg w) (hrg : mg "range" = none) (F : Fun K "_law_names" "_law_names" sNames f fd) (G : FnOk P w K mg base CX0 2 g gd ["_law_cell"] (spMade mg)) (cG : Cal K mg "_law_any_names" g gd ["_law_cell"]) :
    FnOk P w K mg base CX0 3 f fd ["_law_cell"] (spMade mg) := by
  refine F.okQ scNames (fun vs H Q E h => ?_) (fun cdv A outer s H vs Q E hr h => ?_)
  · obtain ⟨i, rfl, _⟩ := h; rfl
  obtain ⟨i, rfl, q⟩ := h
  have nd := scNames.nd
  refine ⟨_, qb_cons (qs_if (qt_cmpR op_eq (qe_op op_mod (qv 0) qe_int) qe_int (nomark _)) (qb_one (qs_ret (qe_call G hr rfl cG.name cG.keep cG.bind .nil pass0 (qa_bop (qe_op op_fdiv (qv 0) qe_int) qa_nil)))) qb_nil)
    (qb_cons (qs_set (i := 0) nd rfl (Or.inl rfl) (qe_op op_fdiv (qv 0) qe_int))
    (qb_cons (qs_if (qt_cmpR op_eq (qe_op op_mod (qv 0) qe_int) qe_int (nomark _))
      (qb_cons (qs_set (i := 1) nd rfl (Or.inr rfl) (qe_op op_add_str (qe_slice sl_str qe_str (qo_some (qe_op op_mod (qe_op op_fdiv (qv 0) qe_int) qe_int)) qo_none) qe_str))
      (qb_one (qs_ret (qe_comp1 1 (qi_range1 rfl hrg (qa_int qa_nil)) (fun _ _ _ _ => qts_nil) (fun _ _ _ _ => qe_slice sl_str (qv 1) qo_none (qo_some (qe_op op_add qe_int (qv 0)))))))) qb_nil)
    (qb_cons (qs_set (i := 3) nd rfl (Or.inl rfl) (qe_op op_add qe_int (qe_op op_mod (qe_op op_fdiv (qv 0) qe_int) qe_int)))
    (qb_cons (qs_set (i := 4) nd rfl (Or.inl rfl) (qe_op op_mod (qe_op op_fdiv (qv 0) qe_int) (qv 3)))
    (qb_cons (qs_set (i := 5) nd rfl (Or.inl rfl) (qe_ix ix_str qe_str (qe_op op_mod (qe_op op_fdiv (qv 0) qe_int) qe_int) (fun _ _ => rfl)))
    (qb_cons (qs_set (i := 6) nd rfl (Or.inl rfl) qe_str)
    (qb_cons (qs_weak (qs_if (qt_cmpR op_gt (qv 4) qe_int (nomark _)) (qb_one (qs_set (i := 6) nd rfl (Or.inl rfl) (qe_op op_add_str (qv 6) qe_str))) qb_nil) some_weak)
    (qb_cons (qs_set (i := 7) nd rfl (Or.inl rfl) (qe_lst qa_nil))
    (qb_cons (qs_for PassesOwn.never rfl (qi_range1 rfl hrg (qa_int qa_nil)) (qg_name (i := 2) nd rfl (Or.inl rfl))
      (qb_cons (qs_set (i := 8) nd rfl (Or.inl rfl) (qe_ix ix_str (qv 6) (qe_op op_mod (qe_op op_add (qe_op op_fdiv (qv 0) qe_int) (qe_op op_mul (qv 2) (qe_op op_add qe_int (qe_op op_mod (qv 0) qe_int)))) (qe_callB call_len_str rfl C.len PySem.boot_len (qa_nm (qv 6) qa_nil))) (fun _ _ => rfl)))
      (qb_one (qs_expr (qe_bmK (K := K) rfl PySem.F.plainAttrs_list PySem.F.slot_list_append PySem.F.type_list_append mt_append (qv 7)
        (qa_bop (qe_op op_add_str (qe_op op_add_str (qe_op op_mul_sign (qv 5) (qv 4)) (qv 8)) (qe_op op_mul_sign (qv 5) (qe_op op_sub (qe_op op_sub (qv 3) qe_int) (qv 4)))) qa_nil))))))
    (qb_one (qs_ret (qv 7)))))))))))), ?_⟩
  refine ⟨_, rfl, _, _, rfl, rfl, (show (0 : Int) < 2 by decide), rfl, _, rfl, iteB (fun c => ?_) (fun c => ?_)⟩
  · exact ⟨_, rfl, _, _, rfl, rfl, (show CDiv _ 2 from ⟨by decide, by decide⟩), _, rfl, q⟩
  refine ⟨_, rfl, _, _, rfl, rfl, (show CDiv _ 2 from ⟨by decide, by decide⟩), ?_⟩
  refine ⟨_, rfl, _, _, rfl, rfl, (show (0 : Int) < 3 by decide), rfl, _, rfl, iteB (fun c2 => ?_) (fun c2 => ?_)⟩
  · -- beginnings of one another
    have m0 := Int.emod_nonneg (i / 2 / 3) (show (2 : Int) ≠ 0 by decide)
    have m1 := Int.emod_lt_of_pos (i / 2 / 3) (show (0 : Int) < 2 by decide)
    have hm : i / 2 / 3 % 2 ∈ [(0 : Int), 1] := by
      simp only [List.mem_cons, List.not_mem_nil, or_false]; omega
    obtain ⟨j1, j2, j3⟩ := jx_names _ hm
    refine ⟨_, rfl, _, _, rfl, rfl, (show CDiv _ 3 from ⟨by decide, by decide⟩), _, _, rfl, rfl, (show (0 : Int) < 2 by decide), _, rfl, jx, rfl, jx_line, _, yy, rfl, rfl, j1, ?_⟩
    refine ⟨_, rfl, (by decide), (by decide), ?_⟩
    refine comp_str (nums 0 8) (List.range 8) (jxName (i / 2 / 3 % 2)) jseq_rng trivial (by simp [nums]) (by simp [nums]) (fun i' x r hx hr' H4 e4 Q' q' => ?_) fun D1 H4 hD1 e4 hd1 => ?_
    · have hx' : x = .int ((0 : Int) + (r : Nat)) := by
        unfold nums at hx
        rw [List.getElem?_map, hr'] at hx
        exact (Option.some.inj hx).symm
      subst hx'
      exact ⟨_, rfl, _, rfl, _, _, rfl, rfl, _, rfl, _, rfl, j2, q' H4 (Same.refl _)⟩
    · refine q D1 _ H4 e4 hD1 hd1 (by simp) fun x hx => ?_
      obtain ⟨k, hk, rfl⟩ := List.mem_map.mp hx
      exact j3 k hk
  -- alike but for one sign
  have g0 := Int.emod_nonneg (i / 2 / 3) (show (8 : Int) ≠ 0 by decide)
  have g1 := Int.emod_lt_of_pos (i / 2 / 3) (show (0 : Int) < 8 by decide)
  have hsz : (0 : Int) < 1 + i / 2 / 3 % 8 := by omega
  have a0 := Int.emod_nonneg (i / 2 / 24) (show 1 + i / 2 / 3 % 8 ≠ 0 by omega)
  have a1 := Int.emod_lt_of_pos (i / 2 / 24) hsz
  obtain ⟨c0, hc0, hcm⟩ := at_mod (xs := ah.cps.toList) (m := 8) (i := i / 2 / 192) ah_len (by decide)
  refine ⟨_, rfl, _, _, rfl, rfl, (show CDiv _ 3 from ⟨by decide, by decide⟩), _, _, rfl, rfl, (show (0 : Int) < 8 by decide), _, _, rfl, rfl, ?_⟩
  refine ⟨_, rfl, _, _, rfl, rfl, (show CDiv _ 24 from ⟨by decide, by decide⟩), _, rfl, _, _, rfl, rfl, hsz, ?_⟩
  refine ⟨_, rfl, _, _, rfl, rfl, (show CDiv _ 192 from ⟨by decide, by decide⟩), _, _, rfl, rfl, (show (0 : Int) < 8 by decide), ah, _, c0, rfl, rfl, ah_line, hc0, ?_⟩
  refine ⟨_, rfl, rfl, fun sm hsm => ?_⟩
  have hsml : sm.length = 26 ∨ sm.length = 36 := by
    rcases hsm with h | h
    · exact .inl (by rw [h]; exact s26_len)
    · exact .inr (by rw [h.2]; exact s36_len)
  have hsmLine : sm.length ≤ sizeLine := by
    rcases hsml with h | h <;> rw [h] <;> decide
  have hsm2 : sm.cps.toList.length = sm.length := Array.length_toList ..
  refine ⟨Nat.zero_le _, fun nl hnl => ?_⟩
  have s1 := same_new hnl (.lst [])
  refine ⟨_, rfl, (by decide), (by decide), ?_⟩
  refine for_range (lo := 0) (n := 8) (fun k σ H' => Same H H' ∧ ∃ xs z2 z8, H' nl = some (.lst ((xs : List Str).map V.str)) ∧ xs.length = k ∧ (∀ x ∈ xs, isName x = true) ∧
    σ = [some (.int (i / 2)), none, z2, some (.int (1 + i / 2 / 3 % 8)), some (.int (i / 2 / 24 % (1 + i / 2 / 3 % 8))), some (.str ⟨#[c0]⟩), some (.str sm), some (.ref nl), z8]) ⟨s1, [], none, none, upd_same, rfl, by simp, rfl⟩ ?_ ?_
  · rintro k σ H' hk ⟨e, xs, z2, z8, hN, hxl, hxs, rfl⟩
    obtain ⟨d, hd, hdm⟩ := at_mod (xs := sm.cps.toList) (m := (sm.length : Int)) (i := i / 2 / 1536 + (0 + (k : Int)) * (1 + i / 2 % 3)) (by rw [hsm2]) (by omega)
    refine ⟨_, rfl, _, rfl, _, _, rfl, rfl, (show CDiv _ 1536 from ⟨by decide, by decide⟩), _, rfl, _, rfl, _, _, rfl, rfl, (show (0 : Int) < 3 by decide), _, _, rfl, rfl, _, _, rfl, rfl, .inl ⟨by omega, by omega⟩, _, _, rfl, rfl, _, rfl, sm, rfl, hsmLine, _, _, rfl, rfl, (by omega), sm, _, d, rfl, rfl, hsmLine, hd, ?_⟩
    have hdo : okSign d = true := by
      rcases hsm with h | h
      · rw [h] at hdm; exact (s26_ok d hdm).2
      · rw [h.2] at hdm; exact s36_ok d hdm
    have hd0 : i / 2 / 24 % (1 + i / 2 / 3 % 8) = 0 → decide (d ∈ Mir.letters.cps.toList) = true := fun h0 => by
      rcases hsm with h | h
      · rw [h] at hdm; exact (s26_ok d hdm).1
      · have := h.1; omega
    have hnm := oneName_ok (c0 := c0) (d := d) (a := i / 2 / 24 % (1 + i / 2 / 3 % 8)) (b := 1 + i / 2 / 3 % 8 - 1 - i / 2 / 24 % (1 + i / 2 / 3 % 8)) hcm a0 (by omega) (by omega) hdo hd0
    have r1 : ∀ n : Int, (reps c0 n).length = n.toNat := fun n => by
      show (List.toArray _).size = _
      rw [List.size_toArray, List.length_replicate]
    refine ⟨_, rfl, .inl ⟨rfl, _, SqL.of hN⟩, _, rfl, _, rfl, c0, _, rfl, rfl, a0, (by omega), _, rfl, _, _, rfl, rfl, ?_, ?_⟩
    · rw [r1]; exact Nat.le_trans (show (i / 2 / 24 % (1 + i / 2 / 3 % 8)).toNat + 1 ≤ 1000 by omega) (by decide)
    refine ⟨_, rfl, _, rfl, _, _, rfl, rfl, _, rfl, _, _, rfl, rfl, c0, _, rfl, rfl, (by omega), (by omega), _, _, rfl, rfl, ?_, ?_⟩
    · have hl : (reps c0 (i / 2 / 24 % (1 + i / 2 / 3 % 8)) ++ (⟨#[d]⟩ : Str)).length = (i / 2 / 24 % (1 + i / 2 / 3 % 8)).toNat + 1 := by
        rw [Str.length_append, r1]; rfl
      rw [hl, r1]
      exact Nat.le_trans (show (i / 2 / 24 % (1 + i / 2 / 3 % 8)).toNat + 1 + (1 + i / 2 / 3 % 8 - 1 - i / 2 / 24 % (1 + i / 2 / 3 % 8)).toNat ≤ 1000 by omega) (by decide)
    refine ⟨nl, _, _, rfl, rfl, hN, ?_, ?_⟩
    · rw [List.length_map, hxl]; exact Nat.lt_of_le_of_lt (show k ≤ 1000 by omega) (by decide)
    refine ⟨same_put hnl e _, xs ++ [oneName c0 d (i / 2 / 24 % (1 + i / 2 / 3 % 8)) (1 + i / 2 / 3 % 8 - 1 - i / 2 / 24 % (1 + i / 2 / 3 % 8))], _, _, ?_, ?_, ?_, rfl⟩
    · rw [upd_same, List.map_append]; rfl
    · rw [List.length_append, List.length_singleton, hxl]
    · intro x hx
      rcases List.mem_append.mp hx with h | h
      · exact hxs x h
      · simp only [List.mem_cons, List.not_mem_nil, or_false] at h; rw [h]; exact hnm
  · rintro σ H' ⟨e, xs, z2, z8, hN, hxl, hxs, rfl⟩
    exact ⟨_, rfl, q nl xs H' e hnl hN hxl hxs⟩
end
end K3

set_option Elab.async false
set_option linter.all false
set_option maxRecDepth 100000
set_option maxHeartbeats 4000000
namespace K3
open PySem PySem.Spec L2 Mir
/-- a text that can be laid -/
def Ok (x : Str) : Prop := (PyData.str x).canLay0 = true
theorem Ok.app {x y : Str} (hx : Ok x) (hy : Ok y) : Ok (x ++ y) := by
  unfold Ok at *
  simp only [PyData.canLay0] at *
  unfold PyData.strOk at *
  rw [Str.cps_append, Array.all_append, hx, hy]; rfl
theorem ok_sp : Ok sp1 := (by decide +kernel : (PyData.str sp1).canLay0 = true)
/-- a row's words, one blank between -/
def rowTo (x : Str) (ws : List Str) : Str := ws.foldl (fun a p => a ++ sp1 ++ p) x
theorem rowTo_cps : ∀ (ws : List Str) (x : Str), (rowTo x ws).cps = ws.foldl (fun acc p => acc ++ sp1.cps ++ p.cps) x.cps
  | [], _ => rfl
  | p :: ws, x => rowTo_cps ws (x ++ sp1 ++ p)
theorem rowTo_join (x : Str) (ws : List Str) : Txt.join sp1 (x :: ws) = rowTo x ws := Str.ext' (rowTo_cps ws x).symm
theorem rowTo_ok (x : Str) (hx : Ok x) : ∀ (ws : List Str), (∀ y ∈ ws, Ok y) → Ok (rowTo x ws) := fun ws => by
  induction ws generalizing x with
  | nil => intro _; exact hx
  | cons p ws ih => intro h; exact ih (x ++ sp1 ++ p) ((hx.app ok_sp).app (h p (List.mem_cons_self ..))) fun y hy => h y (List.mem_cons_of_mem _ hy)
theorem fact_text (k u v : Str) : u ++ sp1 ++ k ++ sp1 ++ v = showFact [k, u, v] := (rowTo_join u [k, v]).symm
section
variable {P : Program} {w : World} {K : PySem.W.Frag} {mg : Str → Option Value} {base : Heap} {f g : Addr} {fd gd : FuncData}
theorem eqOk_strs {l : List Str} (h : ∀ y ∈ l, Ok y) : EqOk (.list (dStrs l)) := by
  constructor
  · simp only [PyData.canLay0]
    unfold dStrs
    induction l with
    | nil => simp only [List.map_nil, PyData.canLayAll0]
    | cons x l ih =>
      simp only [List.map_cons, PyData.canLayAll0, Bool.and_eq_true]
      exact ⟨h x (List.mem_cons_self ..), ih fun y hy => h y (List.mem_cons_of_mem _ hy)⟩
  · have : PyData.depthAll (dStrs l) ≤ 0 := by
      unfold dStrs
      clear h
      induction l with
      | nil => simp only [List.map_nil, PyData.depthAll]; exact Nat.le_refl _
      | cons x l ih => simp only [List.map_cons, PyData.depthAll, PyData.depth]; exact Nat.max_le.mpr ⟨Nat.le_refl _, ih⟩
    simp only [PyData.depth]
    omega
theorem eqv_nil (l : List Str) : PyData.eqv (.list (dStrs l)) (.list []) = l.isEmpty := by
  cases l with
  | nil => rfl
  | cons x l => rfl
end
end K3

set_option Elab.async false
set_option linter.all false
set_option maxRecDepth 100000
set_option maxHeartbeats 4000000
namespace K3
open PySem PySem.Spec L2 Mir
/-! what was shown is read again -/
theorem mem_glue {y : List Nat} {c : Nat} : ∀ {ps : List (List Nat)}, c ∈ Spl.glue y ps → c ∈ y ∨ ∃ p ∈ ps, c ∈ p
  | [], h => by simp [Spl.glue] at h
  | [p], h => .inr ⟨p, by simp, h⟩
  | p :: q :: r, h => by
    have h' : c ∈ p ++ (y ++ Spl.glue y (q :: r)) := h
    rcases List.mem_append.mp h' with h1 | h1
    · exact .inr ⟨p, by simp, h1⟩
    · rcases List.mem_append.mp h1 with h2 | h2
      · exact .inl h2
      · rcases mem_glue h2 with h3 | ⟨z, hz, h3⟩
        · exact .inl h3
        · exact .inr ⟨z, List.mem_cons_of_mem _ hz, h3⟩
theorem mem_join {sep : Str} {c : Nat} {ts : List Str} (h : c ∈ (Txt.join sep ts).cps.toList) : c ∈ sep.cps.toList ∨ ∃ t ∈ ts, c ∈ t.cps.toList := by
  have e : Txt.join sep ts = Str.join sep ts := StrLaws.glued_eq_join sep ts
  rw [e, Spl.join_glue] at h
  rcases mem_glue h with h | ⟨p, hp, h⟩
  · exact .inl h
  · obtain ⟨t, ht, rfl⟩ := List.mem_map.mp hp
    exact .inr ⟨t, ht, h⟩
theorem blank_in : ∀ {ts : List Str} {a b : Str}, 32 ∈ (Txt.join sp1 (a :: b :: ts)).cps.toList := fun {ts a b} => by
  have e : Txt.join sp1 (a :: b :: ts) = Str.join sp1 (a :: b :: ts) := StrLaws.glued_eq_join sp1 _
  rw [e, Spl.join_glue]
  show 32 ∈ a.cps.toList ++ (sp1.cps.toList ++ _)
  refine List.mem_append_right _ (List.mem_append_left _ ?_)
  exact (by decide +kernel : 32 ∈ sp1.cps.toList)
theorem head_in : ∀ {ts : List Str} {a : Str} {c : Nat}, c ∈ a.cps.toList → c ∈ (Txt.join sepC (a :: ts)).cps.toList := fun {ts a c} h => by
  have e : Txt.join sepC (a :: ts) = Str.join sepC (a :: ts) := StrLaws.glued_eq_join sepC _
  rw [e, Spl.join_glue]
  cases ts with
  | nil => exact h
  | cons b r => exact List.mem_append_left _ h
/-- a word without blank and comma -/
def Clean (y : Str) : Prop := ¬ 32 ∈ y.cps.toList ∧ ¬ 44 ∈ y.cps.toList
theorem clean_name {y : Str} (h : isName y = true) : Clean y := by
  have hall : y.cps.toList.all okSign = true := by
    unfold isName at h
    split at h
    · cases h
    · exact (Bool.and_eq_true _ _ ▸ h).2
  rw [List.all_eq_true] at hall
  refine ⟨fun z => ?_, fun z => ?_⟩
  · have := hall 32 z; exact absurd this (by decide +kernel)
  · have := hall 44 z; exact absurd this (by decide +kernel)
theorem clean_consts : ∀ y ∈ ([("is" : Str), "not", "cell", "stretch", "tree", "nil", "any"] : List Str), ¬ 32 ∈ y.cps.toList ∧ ¬ 44 ∈ y.cps.toList := by decide +kernel
variable {xs : List Str}
theorem clean_value (hx : ∀ x ∈ xs, isName x = true) {y : Str} (h : ValueOf xs y) : Clean y := by
  rcases h with rfl | h
  · exact clean_consts _ (by simp)
  · exact clean_name (hx y h)
theorem clean_field (hx : ∀ x ∈ xs, isName x = true) {y : Str} (h : FieldOf xs y) : Clean y := by
  rcases h with rfl | h
  · exact clean_consts _ (by simp)
  · exact clean_value hx h
theorem clean_fact (hx : ∀ x ∈ xs, isName x = true) {r : List Str} (h : FactOf xs r) : ∀ y ∈ r, Clean y := by
  obtain ⟨k, u, v, rfl, hk, hu, hv⟩ := h
  intro y hy
  simp only [List.mem_cons, List.not_mem_nil, or_false] at hy
  rcases hy with rfl | rfl | rfl
  · rcases hk with rfl | rfl <;> exact clean_consts _ (by simp)
  · exact clean_value hx hu
  · exact clean_value hx hv
theorem clean_part (hx : ∀ x ∈ xs, isName x = true) {r : List Str} (h : PartOf xs r) : ∀ y ∈ r, Clean y := by
  intro y hy
  rcases h with ⟨a, b, c, rfl, ha, hb, hc⟩ | ⟨a, b, rfl, ha, hb⟩ | ⟨a, rfl, ha⟩ <;> simp only [List.mem_cons, List.not_mem_nil, or_false] at hy
  · rcases hy with rfl | rfl | rfl | rfl
    · exact clean_consts _ (by simp)
    · exact clean_value hx ha
    · exact clean_field hx hb
    · exact clean_field hx hc
  · rcases hy with rfl | rfl | rfl
    · exact clean_consts _ (by simp)
    · exact clean_value hx ha
    · exact clean_value hx hb
  · rcases hy with rfl | rfl
    · exact clean_consts _ (by simp)
    · exact clean_value hx ha
theorem words_join {r : List Str} (hne : r ≠ []) (h : ∀ y ∈ r, Clean y) : wordsOf (Txt.join sp1 r) = r :=
  Spl.split_join sp1 32 [] (by decide +kernel) (by decide +kernel) r hne fun p hp => (h p hp).1
theorem no_comma {r : List Str} (h : ∀ y ∈ r, Clean y) : ¬ 44 ∈ (Txt.join sp1 r).cps.toList := fun z => by
  rcases mem_join z with h1 | ⟨t, ht, h1⟩
  · exact absurd h1 (by decide +kernel)
  · exact (h t ht).2 h1
theorem value_no_is (hx : ∀ x ∈ xs, isName x = true) {y : Str} (h : ValueOf xs y) : ¬ y ∈ [("is" : Str), "not"] := fun z => by
  rcases h with rfl | h
  · exact absurd z (by decide +kernel)
  · have hm : y ∈ Mir.noNames := by
      simp only [List.mem_cons, List.not_mem_nil, or_false] at z
      rcases z with rfl | rfl <;> decide +kernel
    have hn : isName y = false := by unfold isName; rw [if_pos (.inr (.inr hm))]
    rw [hx y h] at hn; cases hn
theorem fact_reads (hx : ∀ x ∈ xs, isName x = true) {r : List Str} (h : FactOf xs r) : writesFact (wordsOf (showFact r)) = true ∧ factRow (wordsOf (showFact r)) = r := by
  have hcl := clean_fact hx h
  obtain ⟨k, u, v, rfl, hk, hu, hv⟩ := h
  have e : wordsOf (showFact [k, u, v]) = [u, k, v] := words_join (r := [u, k, v]) (by simp) fun y hy => hcl y (by simp only [List.mem_cons, List.not_mem_nil, or_false] at hy ⊢; rcases hy with h | h | h <;> simp [h])
  rw [e]
  refine ⟨?_, rfl⟩
  show (decide (3 = 3) && decide (k ∈ [("is" : Str), "not"])) = true
  rw [decide_eq_true (show k ∈ [("is" : Str), "not"] by rcases hk with h | h <;> simp [h])]
  rfl
theorem part_ne {r : List Str} (h : PartOf xs r) : r ≠ [] := by
  rcases h with ⟨a, b, c, rfl, _⟩ | ⟨a, b, rfl, _⟩ | ⟨a, rfl, _⟩ <;> simp
theorem part_reads (hx : ∀ x ∈ xs, isName x = true) {r : List Str} (h : PartOf xs r) : writesFact (wordsOf (Txt.join sp1 r)) = false ∧ wordsOf (Txt.join sp1 r) = r := by
  have e := words_join (part_ne h) (clean_part hx h)
  refine ⟨?_, e⟩
  rw [e]
  rcases h with ⟨a, b, c, rfl, _⟩ | ⟨a, b, rfl, ha, _⟩ | ⟨a, rfl, _⟩
  · rfl
  · show (decide (3 = 3) && decide (a ∈ [("is" : Str), "not"])) = false
    rw [decide_eq_false (value_no_is hx ha)]; rfl
  · rfl
end K3

set_option Elab.async false
set_option linter.all false
set_option maxRecDepth 100000
set_option maxHeartbeats 4000000
namespace K3
open PySem PySem.Spec L2 Mir
/-! what was drawn is a telling -/
theorem mem_words {rs : List (List Str)} {y : Str} : y ∈ words rs ↔ ∃ r ∈ rs, y ∈ r.drop 1 ∧ ¬ y ∈ Mir.noNames := by
  unfold words rowWords
  simp only [List.mem_flatten, List.mem_map]
  constructor
  · rintro ⟨l, ⟨r, hr, rfl⟩, hy⟩
    rw [List.mem_filter] at hy
    exact ⟨r, hr, hy.1, by simpa using hy.2⟩
  · rintro ⟨r, hr, hy, hn⟩
    exact ⟨_, ⟨r, hr, rfl⟩, List.mem_filter.mpr ⟨hy, by simpa using hn⟩⟩
theorem no_dups : ∀ l : List Str, ∃ zs : List Str, zs.Nodup ∧ (∀ y, y ∈ zs ↔ y ∈ l)
  | [] => ⟨[], List.nodup_nil, fun _ => Iff.rfl⟩
  | x :: l => by
    obtain ⟨zs, h1, h2⟩ := no_dups l
    by_cases h : x ∈ zs
    · refine ⟨zs, h1, fun y => ?_⟩
      rw [h2 y, List.mem_cons]
      constructor
      · exact .inr
      · rintro (rfl | z)
        · exact (h2 _).mp h
        · exact z
    · refine ⟨x :: zs, List.nodup_cons.mpr ⟨h, h1⟩, fun y => ?_⟩
      rw [List.mem_cons, List.mem_cons, h2 y]
variable {xs : List Str}
theorem val_value (hx : ∀ x ∈ xs, isName x = true) {y : Str} (h : ValueOf xs y) : isValue y = true := by
  unfold isValue
  rcases h with rfl | h
  · rw [decide_eq_true rfl]; rfl
  · rw [hx y h, Bool.or_true]
theorem val_field (hx : ∀ x ∈ xs, isName x = true) {y : Str} (h : FieldOf xs y) : (decide (y = "any") || isValue y) = true := by
  rcases h with rfl | h
  · rw [decide_eq_true rfl]; rfl
  · rw [val_value hx h, Bool.or_true]
theorem fact_yes (hx : ∀ x ∈ xs, isName x = true) {r : List Str} (h : FactOf xs r) : isFact r = true := by
  obtain ⟨k, u, v, rfl, hk, hu, hv⟩ := h
  show (decide (3 = 3) && decide (k ∈ [("is" : Str), "not"]) && (isValue u && (isValue v && true))) = true
  rw [decide_eq_true (show k ∈ [("is" : Str), "not"] by rcases hk with h | h <;> simp [h]), val_value hx hu, val_value hx hv]
  rfl
theorem part_yes (hx : ∀ x ∈ xs, isName x = true) {r : List Str} (h : PartOf xs r) : isPart r = true := by
  rcases h with ⟨a, b, c, rfl, ha, hb, hc⟩ | ⟨a, b, rfl, ha, hb⟩ | ⟨a, rfl, ha⟩
  · show (decide (partLen "cell" = some 4) && (if ("cell" : Str) = "cell" then isValue a && ((decide (b = "any") || isValue b) && ((decide (c = "any") || isValue c) && true)) else ([a, b, c] : List Str).all isValue)) = true
    rw [if_pos rfl, val_value hx ha, val_field hx hb, val_field hx hc, decide_eq_true (by decide +kernel : partLen "cell" = some 4)]
    rfl
  · show (decide (partLen "stretch" = some 3) && (if ("stretch" : Str) = "cell" then isValue a && ([b] : List Str).all (fun w => decide (w = "any") || isValue w) else (isValue a && (isValue b && true)))) = true
    rw [if_neg (by decide +kernel), val_value hx ha, val_value hx hb, decide_eq_true (by decide +kernel : partLen "stretch" = some 3)]
    rfl
  · show (decide (partLen "tree" = some 2) && (if ("tree" : Str) = "cell" then isValue a && ([] : List Str).all (fun w => decide (w = "any") || isValue w) else (isValue a && true))) = true
    rw [if_neg (by decide +kernel), val_value hx ha, decide_eq_true (by decide +kernel : partLen "tree" = some 2)]
    rfl
theorem in_names {y : Str} (h : FieldOf xs y) (hn : ¬ y ∈ Mir.noNames) : y ∈ xs := by
  rcases h with rfl | rfl | h
  · exact absurd (by decide +kernel) hn
  · exact absurd (by decide +kernel) hn
  · exact h
theorem row_fields {r : List Str} (h : FactOf xs r ∨ PartOf xs r) : ∀ y ∈ r.drop 1, FieldOf xs y := by
  intro y hy
  rcases h with ⟨k, u, v, rfl, hk, hu, hv⟩ | ⟨a, b, c, rfl, ha, hb, hc⟩ | ⟨a, b, rfl, ha, hb⟩ | ⟨a, rfl, ha⟩
  · have hy' : y ∈ [u, v] := hy
    simp only [List.mem_cons, List.not_mem_nil, or_false] at hy'
    rcases hy' with rfl | rfl
    · exact .inr hu
    · exact .inr hv
  · have hy' : y ∈ [a, b, c] := hy
    simp only [List.mem_cons, List.not_mem_nil, or_false] at hy'
    rcases hy' with rfl | rfl | rfl
    · exact .inr ha
    · exact hb
    · exact hc
  · have hy' : y ∈ [a, b] := hy
    simp only [List.mem_cons, List.not_mem_nil, or_false] at hy'
    rcases hy' with rfl | rfl
    · exact .inr ha
    · exact .inr hb
  · have hy' : y ∈ [a] := hy
    simp only [List.mem_cons, List.not_mem_nil, or_false] at hy'
    rw [hy']; exact .inr ha
theorem tell_yes (hx : ∀ x ∈ xs, isName x = true) (hxl : xs.length ≤ 8) {fs ps : List (List Str)} (lf : fs.length ≤ 8) (lp : ps.length ≤ 6) (hf : ∀ r ∈ fs, FactOf xs r) (hp : ∀ r ∈ ps, PartOf xs r) : isTelling [fs, ps] = true := by
  refine isTelling_yes (rss := [fs, ps]) ⟨lf, lp, List.all_eq_true.mpr fun r hr => fact_yes hx (hf r hr), List.all_eq_true.mpr fun r hr => part_yes hx (hp r hr), ?_⟩
  obtain ⟨zs, h1, h2⟩ := no_dups (words (fs ++ ps))
  refine ⟨zs, h1, h2, Nat.le_trans (List.Nodup.length_le_of_subset h1 fun y hy => ?_) hxl⟩
  obtain ⟨r, hr, hy', hn⟩ := mem_words.mp ((h2 y).mp hy)
  refine in_names (row_fields ?_ y hy') hn
  rcases List.mem_append.mp hr with h | h
  · exact .inl (hf r h)
  · exact .inr (hp r h)
/-- short, and their signs plain -/
theorem name_short {y : Str} (h : isName y = true) : y.length ≤ 8 := by
  unfold isName at h
  split at h
  · cases h
  · rename_i hn
    simp only [not_or] at hn
    omega
theorem ok_consts : ∀ y ∈ ([("is" : Str), "not", "cell", "stretch", "tree", "nil", "any"] : List Str), y.length ≤ 8 ∧ (PyData.str y).canLay0 = true := by decide +kernel
theorem okSign_small : ∀ c ∈ Mir.letters.cps.toList ++ Mir.figures.cps.toList, c < 128 := by decide +kernel
theorem ok_name {y : Str} (h : isName y = true) : Ok y := by
  have hall : y.cps.toList.all okSign = true := by
    unfold isName at h
    split at h
    · cases h
    · exact (Bool.and_eq_true _ _ ▸ h).2
  rw [List.all_eq_true] at hall
  unfold Ok
  simp only [PyData.canLay0]
  unfold PyData.strOk
  rw [← Array.all_toList, List.all_eq_true]
  intro c hc
  have h1 := hall c hc
  unfold okSign at h1
  rw [Bool.or_eq_true, decide_eq_true_eq, decide_eq_true_eq] at h1
  have := okSign_small c (List.mem_append.mpr h1)
  exact decide_eq_true (by omega)
theorem row_good (hx : ∀ x ∈ xs, isName x = true) {r : List Str} (h : FactOf xs r ∨ PartOf xs r) : r.length ≤ 4 ∧ r ≠ [] ∧ ∀ y ∈ r, y.length ≤ 8 ∧ Ok y := by
  have val : ∀ {y : Str}, FieldOf xs y → y.length ≤ 8 ∧ Ok y := fun {y} h => by
    rcases h with rfl | rfl | h
    · exact ok_consts _ (by simp)
    · exact ok_consts _ (by simp)
    · exact ⟨name_short (hx y h), ok_name (hx y h)⟩
  have rf := row_fields h
  rcases h with ⟨k, u, v, rfl, hk, hu, hv⟩ | ⟨a, b, c, rfl, ha, hb, hc⟩ | ⟨a, b, rfl, ha, hb⟩ | ⟨a, rfl, ha⟩ <;> refine ⟨by simp, by simp, fun y hy => ?_⟩ <;> rcases List.mem_cons.mp hy with rfl | hy'
  · rcases hk with rfl | rfl <;> exact ok_consts _ (by simp)
  · exact val (rf y hy')
  · exact ok_consts _ (by simp)
  · exact val (rf y hy')
  · exact ok_consts _ (by simp)
  · exact val (rf y hy')
  · exact ok_consts _ (by simp)
  · exact val (rf y hy')
end K3

set_option Elab.async false
set_option linter.all false
set_option maxRecDepth 100000
set_option maxHeartbeats 4000000
namespace K3
open PySem PySem.Spec L2 Mir
def spLaw (K : PySem.W.Frag) : Sp := fun vs H Q _ => ∃ (a : Addr) (ns : List Int), vs = [.ref a] ∧ SqL K H a (ns.map V.int) ∧ ∀ H', Q (.bl true) H'
theorem passN {X : Cx} {P : Program} {w : World} {base : Heap} : Passes (CXE P w base) X E0 := fun pins σ H s e s' I c => by
  obtain ⟨_, _, _, _, _, _, _, _, _, _, _, _, _, _, _, _, hE⟩ := c
  exact hE.elim
theorem cut_ints (ns : List Int) (lo hi : Option Int) : ∃ ms : List Int, cutV (ns.map V.int) lo hi = ms.map V.int := by
  refine ⟨(ns.drop (HT.sIx ns.length 0 lo)).take (HT.sIx ns.length ns.length hi - HT.sIx ns.length 0 lo), ?_⟩
  unfold cutV
  rw [List.length_map, List.map_take, List.map_drop]
theorem cut_take (xs : List Str) (n : Nat) (hn : n ≤ xs.length) : cutV (xs.map V.str) none (some (n : Int)) = (xs.take n).map V.str := by
  unfold cutV
  rw [HT.sIx_nat, HT.sIx_none, List.length_map, Nat.min_eq_left hn, List.drop_zero, Nat.sub_zero, List.map_take]
theorem sq_put {K : PySem.W.Frag} {H : Hp} {l b : Addr} {xs ys zs : List V} (hl : H l = some (.lst xs)) (h : SqT K H b zs) : SqT K (upd H l (.lst ys)) b zs := by
  rcases h with (h | ⟨o, h⟩) | h
  · have hne : b ≠ l := fun e => by rw [e, hl] at h; cases h
    exact .inl (.inl (by show upd H l _ b = _; rw [upd_ne hne]; exact h))
  · have hne : b ≠ l := fun e => by rw [e, hl] at h; cases h
    exact .inl (.inr ⟨o, by show upd H l _ b = _; rw [upd_ne hne]; exact h⟩)
  · exact .inr h
theorem qg_tup2 {X : Cx} {i j : Nat} {x y : Str} {px py pos : Pos} {k : Nat} (h1 : QG X (.Name x px) (gName i)) (h2 : QG X (.Name y py) (gName j)) (hc : X.calm = true := by rfl)
    (a1 : (assignEach [.Name x px, .Name y py] X.env).map (·.2) = assign (.Name x px) X.env :: (assignEach [.Name y py] X.env).map (·.2) := by rfl) (a2 : (assignEach [.Name y py] X.env).map (·.2) = assign (.Name y py) X.env :: (assignEach [] X.env).map (·.2) := by rfl)
    (hn : (assignEach [.Name x px, .Name y py] X.env).length = 2 := by rfl) (hst : (assignEach [.Name x px, .Name y py] X.env).findIdx? (·.1) = none := by rfl) : QG X (.Tuple [.Name x px, .Name y py] k pos) (gTup X.K 2 (gCons (gName i) (gCons (gName j) gNil))) :=
  ⟨pg_tup hc (pgs_cons h1.run (pgs_cons h2.run pgs_nil a2) a1) hn hst⟩
theorem iteN {b : Bool} {A B : Prop} (h : b = true) (hB : B) : if (!b) = true then A else B := by rw [h]; exact hB
theorem eqOk_row {r : List Str} (h : ∀ y ∈ r, Ok y) : EqOk (dRow r) := by
  have e := eqOk_strs h
  unfold dRow
  constructor
  · have e1 := e.1
    simp only [PyData.canLay0] at e1 ⊢
    exact e1
  · have e2 := e.2
    simp only [PyData.depth] at e2 ⊢
    exact e2
end K3

set_option Elab.async false
set_option linter.all false
set_option maxRecDepth 100000
set_option maxHeartbeats 4000000
namespace K3
open PySem PySem.Spec L2 Mir
abbrev sRenR : Stmt := top 22
abbrev sRen : Stmt := top 23
/-- a dict of texts by texts -/
def dt (m : List (Str × Str)) : List (Key × V) := m.map fun p => (Sum.inr p.1, V.str p.2)
def lk (m : List (Str × Str)) (x : Str) : Option Str := (m.find? fun p => decide (p.1 = x)).map (·.2)
theorem valV_dt : ∀ (m : List (Str × Str)) (x : Str), valV (dt m) (Sum.inr x) = (lk m x).map V.str
  | [], x => rfl
  | p :: m, x => by
    have ih := valV_dt m x
    by_cases h : p.1 = x
    · have e1 : valV (dt (p :: m)) (Sum.inr x) = some (.str p.2) := valV_pos (p := ((Sum.inr p.1, V.str p.2) : Key × V)) (show (Sum.inr p.1 : Key) = Sum.inr x by rw [h])
      have e2 : lk (p :: m) x = some p.2 := by unfold lk; simp [List.find?_cons, h]
      rw [e1, e2]; rfl
    · have e1 : valV (dt (p :: m)) (Sum.inr x) = valV (dt m) (Sum.inr x) := valV_neg (p := ((Sum.inr p.1, V.str p.2) : Key × V)) (show ¬ (Sum.inr p.1 : Key) = Sum.inr x from fun z => h (Sum.inr.inj z))
      have e2 : lk (p :: m) x = lk m x := by unfold lk; simp [List.find?_cons, h]
      rw [e1, e2, ih]
theorem dt_self (m : List (Str × Str)) : ∀ p ∈ dt m, selfV p.2 = true := fun p hp => by
  obtain ⟨q, _, rfl⟩ := List.mem_map.mp hp
  rfl
def ren (m : List (Str × Str)) (x : Str) : Str := if x ∈ Mir.noNames then x else (lk m x).getD x
def renRow (m : List (Str × Str)) (r : List Str) : List Str := r.take 1 ++ (r.drop 1).map (ren m)
def Mid (r : List Str) : Prop := 2 ≤ r.length ∧ r.length ≤ 5
def spRenR (K : PySem.W.Frag) : Sp := fun vs H Q _ => ∃ a d r m, vs = [.ref a, .ref d] ∧ RowAt K H a r ∧ Mid r ∧ H d = some (.dK (dt m)) ∧ ∀ t H', Same H H' → H' t = some (.tup ((renRow m r).map V.str)) → Q (.ref t) H'
theorem cut_pre {r : List Str} {k : Nat} (hk : k ≤ r.length) : cutV (r.map V.str) none (some (k : Int)) = (r.take k).map V.str := cut_take r k hk
section
variable {P : Program} {w : World} {K : PySem.W.Frag} {mg : Str → Option Value} {base : Heap} {f g : Addr} {fd gd : FuncData}
theorem scRenR : FnScope ["row", "names"] ["row", "names"] (defScope sRenR) := ⟨rfl, rfl, rfl, by decide +kernel, rfl, by decide +kernel, by decide +kernel⟩
theorem ok_renR (C : Con K mg w) (F : Fun K "renamed_row" "renamed_row" sRenR f fd) : FnOk P w K mg base CX0 1 f fd ["row", "names"] (spRenR K) := by
  refine F.okQ scRenR (fun vs H Q E h => ?_) (fun cdv A outer s H vs Q E hr h => ?_)
  · obtain ⟨a, d, r, m, rfl, _⟩ := h; rfl
  obtain ⟨a, d, r, m, rfl, hR, hM, hD, q⟩ := h
  obtain ⟨aN, gN, tN⟩ := C.noNames
  have hu := hu_of hr
  refine ⟨_, qb_one (qs_ret (qe_op op_catT (qe_slice sl_tup (qv 0) qo_none (qo_some qe_int))
    (qe_callTy call_tuple_of rfl C.tuple PyProof.Rows.boot_tuple (qa_cons (qe_compF ["word", "names"] [1] (qi_tup (qe_slice sl_tup (qv 0) (qo_some qe_int) qo_none)) (fun _ _ _ _ => qts_nil)
      (fun _ _ _ _ => qe_ifExp (qt_cmpR (show OpR _ _ (rIn K false) from op_in_seq) (qv 0) (qe_g gN) (by with_unfolding_all rfl)) (qv 0) (qe_dget2 hu (qv 1) (qv 0) (qv 0)))) qa_nil)))), ?_⟩
  have h2 := hM.1
  have h5 := hM.2
  refine ⟨_, rfl, _, rfl, a, _, rfl, hR, ?_, fun p1 hp1 => ?_⟩
  · rw [List.length_map, show (some (1 : Int)) = some ((1 : Nat) : Int) from rfl, HT.sIx_nat, Nat.min_eq_left (by omega)]; omega
  have e1 : cutV (r.map V.str) none (some 1) = (r.take 1).map V.str := cut_pre (k := 1) (by omega)
  rw [e1]
  have s1 := same_new hp1 (.tup ((r.take 1).map V.str))
  refine ⟨_, rfl, _, rfl, a, _, rfl, hR.same s1, ?_, fun p2 hp2 => ?_⟩
  · rw [List.length_map, show (some (1 : Int)) = some ((1 : Nat) : Int) from rfl, HT.sIx_nat, Nat.min_eq_left (by omega)]; omega
  have e2 : cutV (r.map V.str) (some 1) none = (r.drop 1).map V.str := cut_row (k := 1)
  rw [e2]
  have s2 := same_new hp2 (.tup ((r.drop 1).map V.str))
  refine ⟨p2, rfl, ⟨_, SqT.of upd_same⟩, ?_⟩
  refine comp_str ((r.drop 1).map V.str) (r.drop 1) (ren m) jseq_tup (SqT.of upd_same) (by rw [List.length_map, List.length_drop]; omega) (by rw [List.length_map]) (fun i x y hx hy H2 e2 Q' q' => ?_) fun D1 H1 hD1 e3 hd1 => ?_
  · have hx' : x = .str y := by rw [List.getElem?_map, hy] at hx; exact (Option.some.inj hx).symm
    subst hx'
    have hD2 := e2 _ _ (s2 _ _ (s1 _ _ hD))
    refine ⟨_, rfl, aN, _, rfl, .inr (tN _), rfl, flat_strs _, _, rfl, iteB (fun c => ?_) (fun c => ?_)⟩
    · have c' : inV (.str y) (Mir.noNames.map V.str) = true := c
      rw [inV_strs, decide_eq_true_eq] at c'
      have e : ren m y = y := by unfold ren; rw [if_pos c']
      have q2 := q' H2 (Same.refl _)
      rw [e] at q2
      exact ⟨_, rfl, q2⟩
    · have c' : inV (.str y) (Mir.noNames.map V.str) = false := c
      rw [inV_strs, decide_eq_false_iff_not] at c'
      have e : ren m y = (lk m y).getD y := by unfold ren; rw [if_neg c']
      have q2 := q' H2 (Same.refl _)
      rw [e] at q2
      refine ⟨_, rfl, d, rfl, .inl ⟨_, .inl hD2⟩, _, rfl, _, rfl, _, DGet.k (k := Sum.inr y) hD2, ?_⟩
      rw [valV_dt]
      cases hl : lk m y with
      | none => rw [hl] at q2; exact q2
      | some z => rw [hl] at q2; exact q2
  refine ⟨D1, _, rfl, .inl ⟨SqL.of hd1, fun p3 hp3 => ?_⟩⟩
  have s3 := same_new hp3 (.tup (((r.drop 1).map (ren m)).map V.str))
  have e4 := (s2.trans e3).trans s3
  refine ⟨p1, p3, _, _, rfl, rfl, SqT.of (e4 _ _ upd_same), SqT.of upd_same, ?_, ?_, fun z => ?_, fun _ p4 hp4 => ?_⟩
  · intro z
    have := congrArg List.length z
    rw [List.length_map, List.length_take] at this
    have e0 : ([] : List V).length = 0 := rfl
    rw [e0] at this; omega
  · rw [List.length_map, List.length_map, List.length_map, List.length_take, List.length_drop]; exact Nat.le_trans (show _ ≤ 10 by omega) (by decide)
  · exfalso
    have := congrArg List.length z
    rw [List.length_map, List.length_map, List.length_drop] at this
    have e0 : ([] : List V).length = 0 := rfl
    rw [e0] at this; omega
  · rw [← List.map_append]
    exact q p4 _ (s1.trans (e4.trans (same_new hp4 _))) upd_same
def spRen (K : PySem.W.Frag) : Sp := fun vs H Q _ => ∃ a d fs ps m, vs = [.ref a, .ref d] ∧ TellAt K H a [fs, ps] ∧ fs.length ≤ 200 ∧ ps.length ≤ 200 ∧ (∀ r ∈ fs ++ ps, Mid r) ∧ H d = some (.dK (dt m)) ∧
  ∀ t fa pa H', NewTell K H H' t (fs.map (renRow m)) (ps.map (renRow m)) fa pa → Q (.ref t) H'
theorem row_keeps (H H' : Hp) (a : Addr) (r : List Str) (h : RowAt K H a r) (k : ∀ b u, H b = some u → (∀ ys, u ≠ .lst ys) → H' b = some u) : RowAt K H' a r := by
  rcases h with (h | ⟨o, h⟩) | h
  · exact .inl (.inl (k _ _ h fun ys z => by cases z))
  · exact .inl (.inr ⟨o, k _ _ h fun ys z => by cases z⟩)
  · exact .inr h
theorem scRen : FnScope ["telling", "names", "facts", "parts"] ["telling", "names"] (defScope sRen) := ⟨rfl, rfl, rfl, by decide +kernel, rfl, by decide +kernel, by decide +kernel⟩
theorem ok_ren (F : Fun K "renamed" "renamed" sRen f fd) (G : FnOk P w K mg base CX0 1 g gd ["row", "names"] (spRenR K)) (cG : Cal K mg "renamed_row" g gd ["row", "names"]) : FnOk P w K mg base CX0 2 f fd ["telling", "names"] (spRen K) := by
  refine F.okQ scRen (fun vs H Q E h => ?_) (fun cdv A outer s H vs Q E hr h => ?_)
  · obtain ⟨a, d, fs, ps, m, rfl, _⟩ := h; rfl
  obtain ⟨a, d, fs, ps, m, rfl, ht, lf, lp, hM, hD, q⟩ := h
  have nd := scRen.nd
  obtain ⟨as, t1, t2⟩ := ht
  cases t2 with
  | @cons fa _ _ _ t3 t4 =>
  cases t4 with
  | @cons pa _ _ _ t5 t6 =>
  cases t6
  obtain ⟨fas, f1, f2⟩ := t3
  obtain ⟨pas, p1, p2⟩ := t5
  have fl : fas.length = fs.length := Paired.length f2
  have pl : pas.length = ps.length := Paired.length p2
  refine ⟨_, qb_cons (qs_setCF ["row", "names"] [1] (i := 2) nd rfl (Or.inl rfl) (qi_list (qe_ix ix_tup (qv 0) qe_int (fun _ _ => rfl))) (fun _ _ _ _ => qts_nil) (fun _ _ _ _ => qe_call G hr rfl cG.name cG.keep cG.bind .nil pass0 (qa_nm (qv 0) (qa_nm (qv 1) qa_nil))))
    (qb_cons (qs_setCF ["row", "names"] [1] (i := 3) nd rfl (Or.inl rfl) (qi_list (qe_ix ix_tup (qv 0) qe_int (fun _ _ => rfl))) (fun _ _ _ _ => qts_nil) (fun _ _ _ _ => qe_call G hr rfl cG.name cG.keep cG.bind .nil pass0 (qa_nm (qv 0) (qa_nm (qv 1) qa_nil))))
    (qb_one (qs_ret (qe_tup (qa_nm (qv 2) (qa_nm (qv 3) qa_nil)))))), ?_⟩
  refine ⟨_, rfl, a, _, 0, .ref fa, rfl, rfl, t1, rfl, fa, rfl, ⟨_, SqL.of f1⟩, ?_⟩
  refine comp_rows (fas.map V.ref) fs (fun H a r => RowAt K H a r) (renRow m) jseq_list (SqL.of f1) (by rw [List.length_map]; omega) (by rw [List.length_map]; omega) row_keeps (fun i x r hx hr' H2 e2 Q' q' => ?_) fun D1 H1 as1 hD1 e1 hd1 pr1 => ?_
  · obtain ⟨b, hb, rfl⟩ := ref_at hx
    have hrs : RowAt K H b r := Paired.at2 f2 hb hr'
    have hm := List.mem_of_getElem? hr'
    exact ⟨_, rfl, _, rfl, b, d, r, m, rfl, hrs.same e2, hM r (List.mem_append_left _ hm), e2 _ _ hD, fun t H' e' ht' => q' t H' e' (SqT.of ht')⟩
  refine ⟨_, rfl, a, _, 1, .ref pa, rfl, rfl, e1.seqT t1, rfl, pa, rfl, ⟨_, SqL.of (e1 _ _ p1)⟩, ?_⟩
  refine comp_rows (pas.map V.ref) ps (fun H a r => RowAt K H a r) (renRow m) jseq_list (SqL.of (e1 _ _ p1)) (by rw [List.length_map]; omega) (by rw [List.length_map]; omega) row_keeps (fun i x r hx hr' H2 e2 Q' q' => ?_) fun D2 H2 as2 hD2 e2 hd2 pr2 => ?_
  · obtain ⟨b, hb, rfl⟩ := ref_at hx
    have hrs : RowAt K H b r := Paired.at2 p2 hb hr'
    have hm := List.mem_of_getElem? hr'
    exact ⟨_, rfl, _, rfl, b, d, r, m, rfl, hrs.same (e1.trans e2), hM r (List.mem_append_right _ hm), e2 _ _ (e1 _ _ hD), fun t H' e' ht' => q' t H' e' (SqT.of ht')⟩
  refine ⟨_, rfl, _, rfl, (show 2 ≤ sizeLine by decide), fun t ht => ?_⟩
  have s6 := same_new ht (.tup [.ref D1, .ref D2])
  exact q t D1 D2 _ ⟨(e1.trans e2).trans s6, SqT.of upd_same, ⟨as1, s6 _ _ (e2 _ _ hd1), Paired.mapP pr1 fun b r z => (z.same e2).same s6⟩, ⟨as2, s6 _ _ hd2, Paired.mapP pr2 fun b r z => z.same s6⟩, hD1, e1.free hD2, ne_of_none hd1 hD2⟩
end
end K3

set_option Elab.async false
set_option linter.all false
set_option maxRecDepth 100000
set_option maxHeartbeats 4000000
namespace K3
open PySem PySem.Spec L2 Mir
abbrev sAlike : Stmt := top 39
abbrev sTurned : Stmt := top 38
/-- a telling of these rows is alike to them -/
def spAlike (K : PySem.W.Frag) : Sp := fun vs H Q _ => ∃ a fb pb fs ps, vs = [.ref a, .ref fb, .ref pb] ∧ TellAt K H a [fs, ps] ∧ RowsAt K H fb fs ∧ RowsAt K H pb ps ∧ ShortRows fs ∧ ShortRows ps ∧ (∀ r ∈ fs ++ ps, ∀ y ∈ r, Ok y) ∧ ∀ H', Same H H' → Q (.bl true) H'
section
variable {P : Program} {w : World} {K : PySem.W.Frag} {mg : Str → Option Value} {base : Heap} {f : Addr} {fd : FuncData}
theorem scAlike : FnScope ["_law_found", "_law_facts", "_law_parts", "_law_rows_here", "_law_others", "_law_row", "_law_other"] ["_law_found", "_law_facts", "_law_parts"] (defScope sAlike) := ⟨rfl, rfl, rfl, by decide +kernel, rfl, by decide +kernel, by decide +kernel⟩
theorem ok_alike (C : Con K mg w) (hzp : mg "zip" = none) (F : Fun K "_law_alike" "_law_alike" sAlike f fd) : FnOk P w K mg base CX0 1 f fd ["_law_found", "_law_facts", "_law_parts"] (spAlike K) := by
  refine F.okQ scAlike (fun vs H Q E h => ?_) (fun cdv A outer s H vs Q E hr h => ?_)
  · obtain ⟨a, fb, pb, fs, ps, rfl, _⟩ := h; rfl
  obtain ⟨a, fb, pb, fs, ps, rfl, ta, v3, v5, sF, sP, hok, q⟩ := h
  have nd := scAlike.nd
  have hu := Nat.lt_of_le_of_lt (Nat.add_le_add_left (show 32 ≤ 64 by decide) _) hr.units
  refine ⟨_, qb_cons (qs_if (QW.qt (qw_or (qt_not (qt_val (qe_callB call_isi_tuple rfl C.isi PyProof.Rows.boot_isinstance (qa_nm (qv 0) (qa_nm ⟨gty C.tuple PyProof.Rows.boot_tuple⟩ qa_nil))))) (qw_or1 (qt_cmpR op_ne (qe_callB call_len_seq rfl C.len PySem.boot_len (qa_nm (qv 0) qa_nil)) qe_int (nomark _))))) (qb_one (qs_ret qe_bl)) qb_nil)
    (qb_cons (qs_for PassesOwn.never rfl (qi_zipU rfl hzp (qa_nm (qv 0) (qa_ls (qa_nm (qv 1) (qa_nm (qv 2) qa_nil)) qa_nil))) (qg_tup2 (qg_name (i := 3) nd rfl (Or.inl rfl)) (qg_name (i := 4) nd rfl (Or.inl rfl)))
      (qb_cons (qs_if (QW.qt (qw_or (qt_not (qt_val (qe_callB call_isi_list rfl C.isi PyProof.Rows.boot_isinstance (qa_nm (qv 3) (qa_nm ⟨gty C.list PyProof.Rows.boot_list⟩ qa_nil))))) (qw_or1 (qt_cmpR op_ne (qe_callB call_len_seq rfl C.len PySem.boot_len (qa_nm (qv 3) qa_nil)) (qe_callB call_len_seq rfl C.len PySem.boot_len (qa_nm (qv 4) qa_nil)) (nomark _))))) (qb_one (qs_ret qe_bl)) qb_nil)
      (qb_one (qs_for PassesOwn.never rfl (qi_zip rfl hzp (qa_nm (qv 3) (qa_nm (qv 4) qa_nil))) (qg_tup2 (qg_name (i := 5) nd rfl (Or.inl rfl)) (qg_name (i := 6) nd rfl (Or.inl rfl)))
        (qb_one (qs_if (QW.qt (qw_or (qt_not (qt_val (qe_callB call_isi_tuple rfl C.isi PyProof.Rows.boot_isinstance (qa_nm (qv 5) (qa_nm ⟨gty C.tuple PyProof.Rows.boot_tuple⟩ qa_nil)))))
          (qw_or (qt_cmpR (op_neD hu) (qe_comp0 (qi_tup (qv 5)) (fun _ _ _ _ => qts_one (qt_not (qt_val (qe_callB call_isi_str rfl C.isi PyProof.Rows.boot_isinstance (qa_nm (qv 0) (qa_nm ⟨gty C.str PyProof.Rows.boot_str⟩ qa_nil)))))) (fun _ _ _ _ => qv 0)) (qe_lst qa_nil) (nomark _))
          (qw_or1 (qt_cmpR (op_neD hu) (qv 5) (qv 6) (nomark _)))))) (qb_one (qs_ret qe_bl)) qb_nil))))))
    (qb_one (qs_ret qe_bl))), ?_⟩
  obtain ⟨as, t1, t2⟩ := ta
  cases t2 with
  | @cons fa _ _ _ t3 t4 =>
  cases t4 with
  | @cons pa _ _ _ t5 t6 =>
  cases t6
  refine ⟨_, rfl, a, _, rfl, t1, _, rfl, iteF ?_⟩
  refine ⟨_, rfl, a, _, rfl, .inr t1, rfl, _, rfl, iteNS rfl ?_⟩
  refine ⟨_, rfl, _, rfl, _, rfl, (show 2 ≤ sizeLine by decide), fun l hl => ?_⟩
  have s0 := same_new hl (.lst [.ref fb, .ref pb])
  refine ⟨a, l, _, _, rfl, s0.seqT t1, SqL.of upd_same, ?_⟩
  refine for_zipU (K := K) (xs := [.ref fa, .ref pa]) (ys := [.ref fb, .ref pb]) (fun i σ H' => Same H H' ∧ H' l = some (.lst [.ref fb, .ref pb]) ∧ ∃ z2 z3 z4 z5, σ = [some (.ref a), some (.ref fb), some (.ref pb), z2, z3, z4, z5]) ⟨s0, upd_same, none, none, none, none, rfl⟩ (fun i σ H' p => ⟨p.1.seqT t1, SqL.of p.2.1⟩) rfl ?_ ?_
  · rintro i x y σ H' p hx hy ⟨e, hL, z2, z3, z4, z5, rfl⟩ hpn
    obtain ⟨ra, rb, rs, rfl, rfl, w1, w2, hs, ho⟩ : ∃ ra rb rs, x = .ref ra ∧ y = .ref rb ∧ RowsAt K H ra rs ∧ RowsAt K H rb rs ∧ ShortRows rs ∧ ∀ r ∈ rs, ∀ y ∈ r, Ok y := by
      match i with
      | 0 => exact ⟨fa, fb, fs, (Option.some.inj hx).symm, (Option.some.inj hy).symm, t3, v3, sF, fun r hr' => hok r (List.mem_append_left _ hr')⟩
      | 1 => exact ⟨pa, pb, ps, (Option.some.inj hx).symm, (Option.some.inj hy).symm, t5, v5, sP, fun r hr' => hok r (List.mem_append_right _ hr')⟩
      | n + 2 => simp at hx
    have s1 := same_new hpn (.tup [.ref ra, .ref rb])
    have e1 := e.trans s1
    have hL1 := s1 _ _ hL
    obtain ⟨as1, c1, c2⟩ := w1
    obtain ⟨as2, d1, d2⟩ := w2
    have l1 : as1.length = rs.length := Paired.length c2
    have l2 : as2.length = rs.length := Paired.length d2
    refine ⟨p, [.ref ra, .ref rb], rfl, SqT.of upd_same, rfl, .ref ra, [.ref rb], rfl, .ref rb, [], rfl, rfl, ?_⟩
    refine ⟨_, rfl, ra, _, rfl, SqL.of (e1 _ _ c1), _, rfl, iteF ?_⟩
    refine ⟨_, rfl, ra, _, rfl, .inl (SqL.of (e1 _ _ c1)), _, rfl, rb, _, rfl, .inl (SqL.of (e1 _ _ d1)), rfl, _, rfl, iteNS (by rw [List.length_map, List.length_map, l1, l2]) ?_⟩
    refine ⟨_, rfl, _, rfl, ra, rb, _, _, rfl, e1 _ _ c1, e1 _ _ d1, ?_⟩
    refine for_zip (xs := as1.map V.ref) (ys := as2.map V.ref) (fun j σ H2 => Same H H2 ∧ H2 l = some (.lst [.ref fb, .ref pb]) ∧ ∃ z4 z5, σ = [some (.ref a), some (.ref fb), some (.ref pb), some (.ref ra), some (.ref rb), z4, z5]) ⟨e1, hL1, z4, z5, rfl⟩ (fun j σ H2 p => ⟨p.1 _ _ c1, p.1 _ _ d1⟩) (by rw [List.length_map, List.length_map, l1, l2]) ?_ ?_
    · rintro j x y σ H2 p2 hx2 hy2 ⟨e2, hL2, z4, z5, rfl⟩ hpn2
      obtain ⟨b1, hb1, rfl⟩ := ref_at hx2
      obtain ⟨b2, hb2, rfl⟩ := ref_at hy2
      obtain ⟨r, hr1, hr2⟩ := Paired.nth c2 hb1
      have hr3 : RowAt K H b2 r := Paired.at2 d2 hb2 hr1
      have hrm := List.mem_of_getElem? hr1
      have s2 := same_new hpn2 (.tup [.ref b1, .ref b2])
      have e3 := e2.trans s2
      have okr := eqOk_row (ho r hrm)
      refine ⟨p2, [.ref b1, .ref b2], rfl, SqT.of upd_same, rfl, .ref b1, [.ref b2], rfl, .ref b2, [], rfl, rfl, ?_⟩
      refine ⟨_, rfl, b1, _, rfl, hr2.same e3, _, rfl, iteF ?_⟩
      refine ⟨_, rfl, b1, rfl, ⟨_, hr2.same e3⟩, ?_⟩
      refine comp_map (r.map V.str) (fun _ => false) id jseq_tup (hr2.same e3) (by rw [List.length_map]; exact Nat.le_trans (hs.2 r hrm).1 (by decide)) ?_ ?_ ?_
      · intro v hv H5 e5 Q' q'
        obtain ⟨y, hy, rfl⟩ := List.mem_map.mp hv
        exact ⟨_, rfl, y, rfl, _, rfl, q' H5 (Same.refl _)⟩
      · intro v hv hpv H5 e5 Q' q'
        cases hpv
      · intro D5 H5 hD5 e5 hd5
        have hd6 : H5 D5 = some (.lst []) := by
          rw [hd5, List.filter_eq_nil_iff.mpr (fun _ _ => Bool.false_ne_true)]; rfl
        refine ⟨Nat.zero_le _, fun l6 hl6 => ?_⟩
        have s6 := same_new hl6 (.lst [])
        have e7 := (e3.trans e5).trans s6
        refine ⟨.list [], .list [], .lst (SqL.of (s6 _ _ hd6)) .nil, .lst (SqL.of upd_same) .nil, eqOk_strs (l := []) (by simp), eqOk_strs (l := []) (by simp), _, rfl, iteN rfl ?_⟩
        refine ⟨_, rfl, _, rfl, dRow r, dRow r, (hr2.same e7).dp, (hr3.same e7).dp, okr, okr, _, rfl, iteN (SeqAt.eqv_refl _ okr.1) ?_⟩
        exact ⟨e7, s6 _ _ (e5 _ _ (s2 _ _ hL2)), _, _, rfl⟩
    · rintro σ H2 ⟨e2, hL2, z4, z5, rfl⟩
      exact ⟨e2, hL2, _, _, _, _, rfl⟩
  · rintro σ H' ⟨e, hL, z2, z3, z4, z5, rfl⟩
    exact q H' e
end
end K3

set_option Elab.async false
set_option linter.all false
set_option maxRecDepth 100000
set_option maxHeartbeats 4000000
namespace K3
open PySem PySem.Spec L2 Mir
def tw (m : List (Str × Str)) (x : Str) : Str := (lk m x).getD x
def turnRow (m : List (Str × Str)) (r : List Str) : List Str := r.take 1 ++ (r.drop 1).map (tw m)
def spTurned (K : PySem.W.Frag) : Sp := fun vs H Q _ => ∃ a d rs m, vs = [.ref a, .ref d] ∧ RowsAt K H a rs ∧ rs.length ≤ 200 ∧ (∀ r ∈ rs, Mid r) ∧ H d = some (.dK (dt m)) ∧ ∀ l H', Same H H' → RowsAt K H' l (rs.map (turnRow m)) → Q (.ref l) H'
section
variable {P : Program} {w : World} {K : PySem.W.Frag} {mg : Str → Option Value} {base : Heap} {f : Addr} {fd : FuncData}
theorem scTurned : FnScope ["_law_rows_here", "_law_names_here", "_law_found", "_law_row", "_law_words", "_law_word"] ["_law_rows_here", "_law_names_here"] (defScope sTurned) := ⟨rfl, rfl, rfl, by decide +kernel, rfl, by decide +kernel, by decide +kernel⟩
theorem ok_turned (C : Con K mg w) (F : Fun K "_law_turned" "_law_turned" sTurned f fd) : FnOk P w K mg base CX0 1 f fd ["_law_rows_here", "_law_names_here"] (spTurned K) := by
  refine F.okQ scTurned (fun vs H Q E h => ?_) (fun cdv A outer s H vs Q E hr h => ?_)
  · obtain ⟨a, d, rs, m, rfl, _⟩ := h; rfl
  obtain ⟨a, d, rs, m, rfl, hA, hl, hM, hD, q⟩ := h
  have nd := scTurned.nd
  have hu := hu_of hr
  obtain ⟨as, a1, a2⟩ := hA
  have al : as.length = rs.length := Paired.length a2
  refine ⟨_, qb_cons (qs_set (i := 2) nd rfl (Or.inl rfl) (qe_lst qa_nil))
    (qb_cons (qs_for PassesOwn.never rfl (qi_list (qv 0)) (qg_name (i := 3) nd rfl (Or.inl rfl))
      (qb_cons (qs_set (i := 4) nd rfl (Or.inl rfl) (qe_lst (qa_sub (qe_ix ix_tup (qv 3) qe_int (fun _ _ => rfl)) qa_nil)))
      (qb_cons (qs_for PassesOwn.never rfl (qi_tup (qe_slice sl_tup (qv 3) (qo_some qe_int) qo_none)) (qg_name (i := 5) nd rfl (Or.inl rfl))
        (qb_one (qs_if (qt_din hu (qv 5) (qv 1))
          (qb_one (qs_expr (qe_bmK (K := K) rfl PySem.F.plainAttrs_list PySem.F.slot_list_append PySem.F.type_list_append mt_append (qv 4) (qa_sub (qe_dget hu (qv 1) (qv 5) (fun _ _ => rfl)) qa_nil))))
          (qb_one (qs_expr (qe_bmK (K := K) rfl PySem.F.plainAttrs_list PySem.F.slot_list_append PySem.F.type_list_append mt_append (qv 4) (qa_nm (qv 5) qa_nil)))))))
      (qb_one (qs_expr (qe_bmK (K := K) rfl PySem.F.plainAttrs_list PySem.F.slot_list_append PySem.F.type_list_append mt_append (qv 2) (qa_call (qe_callTy call_tuple_of rfl C.tuple PyProof.Rows.boot_tuple (qa_nm (qv 4) qa_nil)) qa_nil)))))))
    (qb_one (qs_ret (qv 2)))), ?_⟩
  refine ⟨Nat.zero_le _, fun fo hfo => ?_⟩
  have s1 := same_new hfo (.lst [])
  refine ⟨_, rfl, a, rfl, ⟨_, SqL.of (s1 _ _ a1)⟩, ?_⟩
  refine for_list (xs := as.map V.ref) (fun i σ H' => Same H H' ∧ ∃ fas z3 z4 z5, H' fo = some (.lst ((fas : List Addr).map V.ref)) ∧ Paired (fun b r => RowAt K H' b r) fas ((rs.take i).map (turnRow m)) ∧ σ = [some (.ref a), some (.ref d), some (.ref fo), z3, z4, z5])
    ⟨s1, [], none, none, none, upd_same, .nil, rfl⟩ (fun i σ H' _ p => SqL.of (p.1 _ _ a1)) ?_ ?_
  · rintro i v σ H' hi ⟨e, fas, z3, z4, z5, hF, pF, rfl⟩
    obtain ⟨b, hb, rfl⟩ := ref_at hi
    obtain ⟨r, hr1, hr2⟩ := Paired.nth a2 hb
    have hrm : r ∈ rs := List.mem_of_getElem? hr1
    have h2 := (hM r hrm).1
    have h5 := (hM r hrm).2
    have hrow : RowAt K H' b r := hr2.same e
    have ht1 : rs.take (i + 1) = rs.take i ++ [r] := by rw [List.take_add_one, hr1]; rfl
    have hfl : fas.length ≤ 200 := by
      have h1 := Paired.length pF
      rw [List.length_map, List.length_take] at h1
      omega
    obtain ⟨x0, r0, rfl⟩ : ∃ x0 r0, r = x0 :: r0 := by
      cases r with
      | nil => simp at h2
      | cons x0 r0 => exact ⟨x0, r0, rfl⟩
    refine ⟨_, rfl, b, _, 0, .str x0, rfl, rfl, hrow, atI_nat (j := 0) rfl, (show 1 ≤ sizeLine by decide), fun wl hwl => ?_⟩
    have s2 := same_new hwl (.lst [.str x0])
    have hwf : wl ≠ fo := fun z => by rw [z, hF] at hwl; cases hwl
    refine ⟨_, rfl, _, rfl, b, _, rfl, hrow.same s2, ?_, fun sl hsl => ?_⟩
    · rw [List.length_map, show (some (1 : Int)) = some ((1 : Nat) : Int) from rfl, HT.sIx_nat, Nat.min_eq_left (by omega)]; omega
    have e2 : cutV ((x0 :: r0).map V.str) (some 1) none = r0.map V.str := cut_row (r := x0 :: r0) (k := 1)
    rw [e2]
    have s3 := same_new hsl (.tup (r0.map V.str))
    have hsw : sl ≠ wl := fun z => by rw [z, upd_same] at hsl; cases hsl
    refine ⟨sl, rfl, ⟨_, SqT.of upd_same⟩, ?_⟩
    refine for_tup (xs := r0.map V.str) (fun j σ H2 => Same H' H2 ∧ H2 sl = some (.tup (r0.map V.str)) ∧ ∃ z5, H2 wl = some (.lst ((x0 :: (r0.take j).map (tw m)).map V.str)) ∧ σ = [some (.ref a), some (.ref d), some (.ref fo), some (.ref b), some (.ref wl), z5])
      ⟨s2.trans s3, upd_same, z5, s3 _ _ upd_same, rfl⟩ (fun j σ H2 _ p => SqT.of p.2.1) ?_ ?_
    · rintro j v σ H2 hj ⟨e3, hS, z5, hW, rfl⟩
      rw [List.getElem?_map] at hj
      cases hx : r0[j]? with
      | none => rw [hx] at hj; cases hj
      | some x =>
        rw [hx] at hj
        have hv : v = .str x := (Option.some.inj hj).symm
        subst hv
        have htj : r0.take (j + 1) = r0.take j ++ [x] := by rw [List.take_add_one, hx]; rfl
        have hD2 := e3 _ _ (e _ _ hD)
        have hlw : ((x0 :: (r0.take j).map (tw m)).map V.str).length < sizeLine := by
          rw [List.length_map, List.length_cons, List.length_map, List.length_take]
          refine Nat.lt_of_le_of_lt (show _ ≤ 10 from ?_) (by decide)
          have : (x0 :: r0).length ≤ 5 := h5
          rw [List.length_cons] at this
          omega
        have fin : ∀ y, tw m x = y → Same H' (upd H2 wl (.lst ((x0 :: (r0.take j).map (tw m)).map V.str ++ [.str y]))) ∧ (upd H2 wl (.lst ((x0 :: (r0.take j).map (tw m)).map V.str ++ [.str y]))) sl = some (.tup (r0.map V.str)) ∧
            (upd H2 wl (.lst ((x0 :: (r0.take j).map (tw m)).map V.str ++ [.str y]))) wl = some (.lst ((x0 :: (r0.take (j + 1)).map (tw m)).map V.str)) := fun y hy => by
          refine ⟨same_put hwl e3 _, by rw [upd_ne hsw]; exact hS, ?_⟩
          rw [upd_same, htj, List.map_append, List.map_cons, List.map_cons, List.map_append]
          rw [← hy]
          rfl
        refine ⟨_, rfl, _, rfl, d, _, rfl, DGet.k (k := Sum.inr x) hD2, _, rfl, iteB (fun c => ?_) (fun c => ?_)⟩
        · rw [valV_dt] at c
          cases hlk : lk m x with
          | none => rw [hlk] at c; cases c
          | some y =>
            have hy : tw m x = y := by unfold tw; rw [hlk]; rfl
            obtain ⟨g1, g2, g3⟩ := fin y hy
            refine ⟨_, rfl, .inl ⟨rfl, _, SqL.of hW⟩, _, rfl, _, rfl, d, .str y, rfl, ?_, wl, _, .str y, rfl, rfl, hW, hlw, ?_⟩
            · have := DGet.k (k := Sum.inr x) hD2
              rw [valV_dt, hlk] at this
              exact this
            · exact ⟨g1, g2, _, g3, rfl⟩
        · rw [valV_dt] at c
          cases hlk : lk m x with
          | some y => rw [hlk] at c; cases c
          | none =>
            have hy : tw m x = x := by unfold tw; rw [hlk]; rfl
            obtain ⟨g1, g2, g3⟩ := fin x hy
            exact ⟨_, rfl, .inl ⟨rfl, _, SqL.of hW⟩, _, rfl, wl, _, .str x, rfl, rfl, hW, hlw, g1, g2, _, g3, rfl⟩
    · rintro σ H2 ⟨e3, hS, z5, hW, rfl⟩
      rw [List.length_map, List.take_length] at hW
      refine ⟨_, rfl, .inl ⟨rfl, _, SqL.of (e3 _ _ hF)⟩, _, rfl, wl, _, rfl, .inl ⟨SqL.of hW, fun tp htp => ?_⟩⟩
      have s5 := same_new htp (.tup ((x0 :: r0.map (tw m)).map V.str))
      have hF5 := s5 _ _ (e3 _ _ hF)
      refine ⟨fo, _, .ref tp, rfl, rfl, hF5, by rw [List.length_map]; exact Nat.lt_of_le_of_lt hfl (by decide), ?_⟩
      refine ⟨same_put hfo ((e.trans e3).trans s5) _, fas ++ [tp], _, _, _, ?_, ?_, rfl⟩
      · rw [upd_same, List.map_append]; rfl
      · rw [ht1, List.map_append]
        exact snocR pF (fun b r z => row_put hF5 ((z.same e3).same s5)) (row_put hF5 (SqT.of upd_same))
  · rintro σ H' ⟨e, fas, z3, z4, z5, hF, pF, rfl⟩
    rw [List.length_map, al, List.take_length] at pF
    exact ⟨_, rfl, q fo H' e ⟨fas, hF, pF⟩⟩
end
end K3

set_option Elab.async false
set_option linter.all false
set_option maxRecDepth 100000
set_option maxHeartbeats 4000000
namespace K3
open PySem PySem.Spec L2 Mir
abbrev sRows : Stmt := top 37
theorem qe_un {X : Cx} {a : Expr} {ta : TE} {pos : Pos} {op : UnaryOp} {r : V → Hp → VK → Prop} (ho : UnR X (unaryOp op) r) (ha : QE X a ta) : QE X (.UnaryOp op a pos) (tUn r ta) := ⟨pe_un ho ha.run⟩
theorem atI_last {α : Type} {xs : List α} {v : α} : atI (xs ++ [v]) (-1) = some v := by
  unfold atI ixN
  have h1 : ¬ (0 : Int) ≤ -1 := by decide
  have h2 : -(((xs ++ [v]).length : Nat) : Int) ≤ -1 := by rw [List.length_append, List.length_singleton]; omega
  rw [if_neg h1, if_pos h2]
  have h3 : ((-1 : Int) + (((xs ++ [v]).length : Nat) : Int)).toNat = xs.length := by rw [List.length_append, List.length_singleton]; omega
  rw [h3]
  simp
/-- texts of rows, as they come -/
structure RowsOk (xs rows : List Str) (fs ps : List (List Str)) : Prop where
  len : rows.length = fs.length + ps.length
  text : ∀ x ∈ rows, (∃ r, FactOf xs r ∧ x = showFact r) ∨ (∃ r, PartOf xs r ∧ x = Txt.join sp1 r)
  facts : readFacts rows = fs
  parts : readParts rows = ps
theorem RowsOk.fact {xs rows : List Str} {fs ps : List (List Str)} (h : RowsOk xs rows fs ps) (hx : ∀ x ∈ xs, isName x = true) {r : List Str} (hr : FactOf xs r) : RowsOk xs (rows ++ [showFact r]) (fs ++ [r]) ps := by
  have g := fact_reads hx hr
  refine ⟨by rw [List.length_append, List.length_append, h.len, List.length_singleton, List.length_singleton]; omega, fun x hm => ?_, ?_, ?_⟩
  · rcases List.mem_append.mp hm with m | m
    · exact h.text x m
    · simp only [List.mem_cons, List.not_mem_nil, or_false] at m; exact .inl ⟨r, hr, m⟩
  · rw [readFacts_snoc, if_pos g.1, g.2, h.facts]
  · rw [readParts_snoc, if_pos g.1, h.parts]
theorem RowsOk.part {xs rows : List Str} {fs ps : List (List Str)} (h : RowsOk xs rows fs ps) (hx : ∀ x ∈ xs, isName x = true) {r : List Str} (hr : PartOf xs r) : RowsOk xs (rows ++ [Txt.join sp1 r]) fs (ps ++ [r]) := by
  have g := part_reads hx hr
  have gn : ¬ writesFact (wordsOf (Txt.join sp1 r)) = true := by rw [g.1]; exact Bool.false_ne_true
  refine ⟨by rw [List.length_append, List.length_append, h.len, List.length_singleton, List.length_singleton]; omega, fun x hm => ?_, ?_, ?_⟩
  · rcases List.mem_append.mp hm with m | m
    · exact h.text x m
    · simp only [List.mem_cons, List.not_mem_nil, or_false] at m; exact .inr ⟨r, hr, m⟩
  · rw [readFacts_snoc, if_neg gn, h.facts]
  · rw [readParts_snoc, if_neg gn, g.2, h.parts]
def spLRows (K : PySem.W.Frag) : Sp := fun vs H Q _ => ∃ (c a : Addr) (ns : List Int) (xs : List Str), vs = [.ref c, .ref a] ∧ SqL K H c (ns.map V.int) ∧ SqL K H a (xs.map V.str) ∧ Few8 xs ∧ (∀ x ∈ xs, isName x = true) ∧
  ∀ t ra fa pa rows fs ps H', Same H H' → SqT K H' t [.ref ra, .ref fa, .ref pa] → H' ra = some (.lst (rows.map V.str)) → RowsAt K H' fa fs → RowsAt K H' pa ps → fs.length ≤ 8 → ps.length ≤ 6 → (∀ r ∈ fs, FactOf xs r) → (∀ r ∈ ps, PartOf xs r) → RowsOk xs rows fs ps → Q (.ref t) H'
/-- whether a fact is put, as far as it matters -/
def tCond : TT := fun σ H Q => ∃ (n : Int) (fa : Addr) (ys : List V), σ[5]? = some (some (.int n)) ∧ σ[2]? = some (some (.ref fa)) ∧ H fa = some (.lst ys) ∧ ∀ b : Bool, (b = true → ys.length < 8) → Q b H
theorem cond_weak {K : PySem.W.Frag} (σ : St) (H : Hp) (Q : Bool → Hp → Prop) (h : tCond σ H Q) : tAnd (tTest (tOp rEq (tOp (rI (fun _ j => 0 < j) fun i j => .int (i % j)) (tVar 5) (tC (.int 2))) (tC (.int 0))))
    (tTest (tOp (rI0 fun i j => .bl (decide (i < j))) (tCB (fun xs H Q => ∃ p ys, xs = [.ref p] ∧ (SqL K H p ys ∨ SqT K H p ys) ∧ Q (.int ys.length) H) (tCons (tVar 2) tNil)) (tC (.int 8)))) σ H Q := by
  obtain ⟨n, fa, ys, h4, h2, hF, q⟩ := h
  refine ⟨_, h4, _, _, rfl, rfl, (show (0 : Int) < 2 by decide), rfl, _, rfl, iteB (fun c => ?_) (fun c => q false (fun z => by cases z))⟩
  refine ⟨_, h2, fa, ys, rfl, .inl (SqL.of hF), _, _, rfl, rfl, _, rfl, q _ fun z => ?_⟩
  have := of_decide_eq_true z
  omega
section
variable {P : Program} {w : World} {K : PySem.W.Frag} {mg : Str → Option Value} {base : Heap} {f g g2 : Addr} {fd gd gd2 : FuncData}
theorem scRows : FnScope ["_law_cells", "_law_names_here", "_law_facts", "_law_parts", "_law_rows_here", "_law_cell", "_law_mixed"] ["_law_cells", "_law_names_here"] (defScope sRows) := ⟨rfl, rfl, rfl, by decide +kernel, rfl, by decide +kernel, by decide +kernel⟩
theorem ok_rows (C : Con K mg w) (F : Fun K "_law_rows" "_law_rows" sRows f fd) (G : FnOk P w K mg base CX0 2 g gd ["_law_cell", "_law_names_here"] (spRowOf K FactOf)) (cG : Cal K mg "_law_fact" g gd ["_law_cell", "_law_names_here"])
    (G2 : FnOk P w K mg base CX0 3 g2 gd2 ["_law_cell", "_law_names_here"] (spRowOf K PartOf)) (cG2 : Cal K mg "_law_part" g2 gd2 ["_law_cell", "_law_names_here"]) : FnOk P w K mg base CX0 4 f fd ["_law_cells", "_law_names_here"] (spLRows K) := by
  refine F.okQ scRows (fun vs H Q E h => ?_) (fun cdv A outer s H vs Q E hr h => ?_)
  · obtain ⟨c, a, ns, xs, rfl, _⟩ := h; rfl
  obtain ⟨c, a, ns, xs, rfl, hS, hA, hf, hnm, q⟩ := h
  have nd := scRows.nd
  have hr2 := hr.mono (j := 2) (by omega)
  refine ⟨_, qb_cons (qs_set (i := 2) nd rfl (Or.inl rfl) (qe_lst qa_nil)) (qb_cons (qs_set (i := 3) nd rfl (Or.inl rfl) (qe_lst qa_nil)) (qb_cons (qs_set (i := 4) nd rfl (Or.inl rfl) (qe_lst qa_nil))
    (qb_cons (qs_for PassesOwn.never rfl (qi_list (qv 0)) (qg_name (i := 5) nd rfl (Or.inl rfl))
      (qb_cons (qs_set (i := 6) nd rfl (Or.inl rfl) (qe_op op_mod (qe_op op_mul (qv 5) qe_int) qe_int))
      (qb_one (qs_if (qt_weak (QW.qt (qw_and (qt_cmpR op_eq (qe_op op_mod (qv 5) qe_int) qe_int (nomark _)) (qw_and1 (qt_cmpR op_lt (qe_callB call_len_seq rfl C.len PySem.boot_len (qa_nm (qv 2) qa_nil)) qe_int (nomark _))))) (cond_weak (K := K)))
        (qb_cons (qs_expr (qe_bmK (K := K) rfl PySem.F.plainAttrs_list PySem.F.slot_list_append PySem.F.type_list_append mt_append (qv 2) (qa_call (qe_call G hr2 rfl cG.name cG.keep cG.bind .nil pass0 (qa_nm (qv 6) (qa_nm (qv 1) qa_nil))) qa_nil)))
        (qb_one (qs_expr (qe_bmK (K := K) rfl PySem.F.plainAttrs_list PySem.F.slot_list_append PySem.F.type_list_append mt_append (qv 4) (qa_bop
          (qe_op op_add_str (qe_op op_add_str (qe_op op_add_str (qe_op op_add_str (qe_ix ix_tup (qe_ix ix_list (qv 2) (qe_un un_neg qe_int) (fun _ _ => rfl)) qe_int (fun _ _ => rfl)) qe_str)
            (qe_ix ix_tup (qe_ix ix_list (qv 2) (qe_un un_neg qe_int) (fun _ _ => rfl)) qe_int (fun _ _ => rfl))) qe_str) (qe_ix ix_tup (qe_ix ix_list (qv 2) (qe_un un_neg qe_int) (fun _ _ => rfl)) qe_int (fun _ _ => rfl))) qa_nil)))))
        (qb_one (qs_if (qt_cmpR op_lt (qe_callB call_len_seq rfl C.len PySem.boot_len (qa_nm (qv 3) qa_nil)) qe_int (nomark _))
          (qb_cons (qs_expr (qe_bmK (K := K) rfl PySem.F.plainAttrs_list PySem.F.slot_list_append PySem.F.type_list_append mt_append (qv 3) (qa_call (qe_call G2 hr rfl cG2.name cG2.keep cG2.bind .nil pass0 (qa_nm (qv 6) (qa_nm (qv 1) qa_nil))) qa_nil)))
          (qb_one (qs_expr (qe_bmK (K := K) rfl PySem.F.plainAttrs_list PySem.F.slot_list_append PySem.F.type_list_append mt_append (qv 4) (qa_call (qe_bmK (K := K) rfl PySem.F.plainAttrs_str PySem.F.slot_str_join PySem.F.type_str_join (mtJoin (K := K) rfl) qe_str
            (qa_sub (qe_ix ix_list (qv 3) (qe_un un_neg qe_int) (fun _ _ => rfl)) qa_nil)) qa_nil))))) qb_nil))))))
    (qb_one (qs_ret (qe_tup (qa_nm (qv 4) (qa_nm (qv 2) (qa_nm (qv 3) qa_nil))))))))), ?_⟩
  refine ⟨Nat.zero_le _, fun fa hfa => ?_⟩
  have s1 := same_new hfa (.lst [])
  refine ⟨Nat.zero_le _, fun pa hpa => ?_⟩
  have s2 := same_new hpa (.lst [])
  refine ⟨Nat.zero_le _, fun ra hra => ?_⟩
  have s3 := same_new hra (.lst [])
  have hfp : fa ≠ pa := ne_of_none upd_same hpa
  have hfr : fa ≠ ra := ne_of_none (s2 _ _ upd_same) hra
  have hpr : pa ≠ ra := ne_of_none upd_same hra
  have hpa0 : H pa = none := s1.free hpa
  have hra0 : H ra = none := s1.free (s2.free hra)
  refine ⟨_, rfl, c, rfl, ⟨_, s3.seq (s2.seq (s1.seq hS))⟩, ?_⟩
  refine for_list (xs := ns.map V.int) (fun i σ H' => Same H H' ∧ ∃ fas pas fs ps rows z4 z5, H' fa = some (.lst (fas.map V.ref)) ∧ H' pa = some (.lst (pas.map V.ref)) ∧ H' ra = some (.lst ((rows : List Str).map V.str)) ∧ Paired (fun b r => RowAt K H' b r) fas fs ∧ Paired (fun b r => RowAt K H' b r) pas ps ∧
      fs.length ≤ 8 ∧ ps.length ≤ 6 ∧ (∀ r ∈ fs, FactOf xs r) ∧ (∀ r ∈ ps, PartOf xs r) ∧ RowsOk xs rows fs ps ∧ σ = [some (.ref c), some (.ref a), some (.ref fa), some (.ref pa), some (.ref ra), z4, z5])
    ⟨s1.trans (s2.trans s3), [], [], [], [], [], none, none, s3 _ _ (s2 _ _ upd_same), s3 _ _ upd_same, upd_same, .nil, .nil, by simp, by simp, by simp, by simp, ⟨rfl, by simp, rfl, rfl⟩, rfl⟩ (fun i σ H' _ p => p.1.seq hS) ?_ ?_
  · rintro i v σ H' hi ⟨e, fas, pas, fs, ps, rows, z4, z5, hF, hP, hR, pF, pP, lF, lP, oF, oP, ok, rfl⟩
    obtain ⟨n, hn, rfl⟩ := List.mem_map.mp (List.mem_of_getElem? hi)
    have fl : fas.length = fs.length := Paired.length pF
    have pl : pas.length = ps.length := Paired.length pP
    have rl : (rows.map V.str).length < sizeLine := by rw [List.length_map, ok.len]; exact Nat.lt_of_le_of_lt (show _ ≤ 14 by omega) (by decide)
    refine ⟨_, rfl, _, _, rfl, rfl, .inr ⟨by decide, by decide⟩, _, _, rfl, rfl, (show (0 : Int) < 2147483647 by decide), ?_⟩
    refine ⟨n, fa, _, rfl, rfl, hF, fun b hb => iteB (fun c => ?_) (fun c => ?_)⟩
    · have hlt : fs.length < 8 := by have := hb c; rw [List.length_map] at this; omega
      refine ⟨_, rfl, .inl ⟨rfl, _, SqL.of hF⟩, _, rfl, _, rfl, _, a, xs, rfl, e.seq hA, hf, fun t r H2 e2 ht hr' => ?_⟩
      have hF2 := e2 _ _ hF
      have hgr := (row_good hnm (.inl hr')).2.2
      obtain ⟨k, u, v, rfl, hk, hu', hv'⟩ := id hr'
      refine ⟨fa, _, .ref t, rfl, rfl, hF2, by rw [List.length_map]; exact Nat.lt_of_le_of_lt (show fas.length ≤ 8 by omega) (by decide), ?_⟩
      -- the row's text
      have tup3 : SqT K (upd H2 fa (.lst (fas.map V.ref ++ [.ref t]))) t [.str k, .str u, .str v] := sq_put hF2 (SqT.of ht)
      have hFn : (upd H2 fa (.lst (fas.map V.ref ++ [.ref t]))) fa = some (.lst (fas.map V.ref ++ [.ref t])) := upd_same
      have hRn : (upd H2 fa (.lst (fas.map V.ref ++ [.ref t]))) ra = some (.lst (rows.map V.str)) := by rw [upd_ne (Ne.symm hfr)]; exact e2 _ _ hR
      have hPn : (upd H2 fa (.lst (fas.map V.ref ++ [.ref t]))) pa = some (.lst (pas.map V.ref)) := by rw [upd_ne (Ne.symm hfp)]; exact e2 _ _ hP
      have en := same_put hfa (e.trans e2) (.lst (fas.map V.ref ++ [.ref t]))
      have pFn := snocR pF (fun b r z => row_put (ys := fas.map V.ref ++ [.ref t]) hF2 (z.same e2)) (row_put (ys := fas.map V.ref ++ [.ref t]) hF2 (SqT.of ht) : RowAt K _ t [k, u, v])
      have pPn : Paired (fun b r => RowAt K (upd H2 fa (.lst (fas.map V.ref ++ [.ref t]))) b r) pas ps := Paired.mapP pP fun b r z => row_put hF2 (z.same e2)
      generalize upd H2 fa (.lst (fas.map V.ref ++ [.ref t])) = H3 at tup3 hFn hRn hPn en pFn pPn ⊢
      have lk := (hgr k (by simp)).1
      have lu := (hgr u (by simp)).1
      have lv := (hgr v (by simp)).1
      have ls : sp1.length = 1 := sp1_len
      have la : ∀ x y : Str, (x ++ y).length = x.length + y.length := fun x y => by show (x.cps ++ y.cps).size = _; rw [Array.size_append]; rfl
      have big : ∀ n : Nat, n ≤ 1000 → n ≤ sizeLine := fun n h => Nat.le_of_lt (small1000 h)
      refine ⟨_, rfl, .inl ⟨rfl, _, SqL.of hRn⟩, ?_⟩
      refine ⟨_, rfl, 1, rfl, fa, _, _, .ref t, rfl, rfl, SqL.of hFn, atI_last, t, _, 1, .str u, rfl, rfl, tup3, rfl, u, sp1, rfl, rfl, big _ (by omega), ?_⟩
      refine ⟨_, rfl, 1, rfl, fa, _, _, .ref t, rfl, rfl, SqL.of hFn, atI_last, t, _, 0, .str k, rfl, rfl, tup3, rfl, _, k, rfl, rfl, big _ (by rw [la]; omega), ?_⟩
      refine ⟨_, sp1, rfl, rfl, big _ (by rw [la, la]; omega), ?_⟩
      refine ⟨_, rfl, 1, rfl, fa, _, _, .ref t, rfl, rfl, SqL.of hFn, atI_last, t, _, 2, .str v, rfl, rfl, tup3, rfl, _, v, rfl, rfl, big _ (by rw [la, la, la]; omega), ?_⟩
      refine ⟨ra, _, _, rfl, rfl, hRn, rl, ?_⟩
      refine ⟨same_put hra0 en _, fas ++ [t], pas, fs ++ [[k, u, v]], ps, rows ++ [showFact [k, u, v]], _, _, ?_, ?_, ?_, ?_, ?_, ?_, lP, ?_, oP, ok.fact hnm hr', rfl⟩
      · rw [upd_ne hfr, hFn, List.map_append]; rfl
      · rw [upd_ne hpr]; exact hPn
      · rw [upd_same, fact_text, List.map_append]; rfl
      · exact Paired.mapP pFn fun b r z => row_put hRn z
      · exact Paired.mapP pPn fun b r z => row_put hRn z
      · rw [List.length_append, List.length_singleton]; omega
      · intro r' hr2
        rcases List.mem_append.mp hr2 with h | h
        · exact oF r' h
        · simp only [List.mem_cons, List.not_mem_nil, or_false] at h; rw [h]; exact hr'
    · refine ⟨_, rfl, pa, _, rfl, .inl (SqL.of hP), _, _, rfl, rfl, _, rfl, iteB (fun c2 => ?_) (fun c2 => ?_)⟩
      · have hlt : ps.length < 6 := by have := of_decide_eq_true c2; rw [List.length_map] at this; omega
        refine ⟨_, rfl, .inl ⟨rfl, _, SqL.of hP⟩, _, rfl, _, rfl, _, a, xs, rfl, e.seq hA, hf, fun t r H2 e2 ht hr' => ?_⟩
        have hP2 := e2 _ _ hP
        have hg := row_good hnm (.inr hr')
        refine ⟨pa, _, .ref t, rfl, rfl, hP2, by rw [List.length_map]; exact Nat.lt_of_le_of_lt (show pas.length ≤ 6 by omega) (by decide), ?_⟩
        have tupn : RowAt K (upd H2 pa (.lst (pas.map V.ref ++ [.ref t]))) t r := sq_put hP2 (SqT.of ht)
        have hPn : (upd H2 pa (.lst (pas.map V.ref ++ [.ref t]))) pa = some (.lst (pas.map V.ref ++ [.ref t])) := upd_same
        have hRn : (upd H2 pa (.lst (pas.map V.ref ++ [.ref t]))) ra = some (.lst (rows.map V.str)) := by rw [upd_ne (Ne.symm hpr)]; exact e2 _ _ hR
        have hFn : (upd H2 pa (.lst (pas.map V.ref ++ [.ref t]))) fa = some (.lst (fas.map V.ref)) := by rw [upd_ne hfp]; exact e2 _ _ hF
        have en := same_put hpa0 (e.trans e2) (.lst (pas.map V.ref ++ [.ref t]))
        have pPn := snocR pP (fun b r z => row_put (ys := pas.map V.ref ++ [.ref t]) hP2 (z.same e2)) tupn
        have pFn : Paired (fun b r => RowAt K (upd H2 pa (.lst (pas.map V.ref ++ [.ref t]))) b r) fas fs := Paired.mapP pF fun b r z => row_put hP2 (z.same e2)
        generalize upd H2 pa (.lst (pas.map V.ref ++ [.ref t])) = H3 at tupn hFn hRn hPn en pFn pPn ⊢
        have hsum : (r.map (·.length)).sum + r.length * sp1.length ≤ 36 := by
          have h1 := hg.1
          have h2 := sum_le (B := 8) (ts := r) fun y hy => (hg.2.2 y hy).1
          rw [sp1_len]; omega
        refine ⟨_, rfl, .inl ⟨rfl, _, SqL.of hRn⟩, rfl, _, rfl, 1, rfl, pa, _, _, .ref t, rfl, rfl, SqL.of hPn, atI_last, sp1, t, r, rfl, rfl, .inr tupn, Nat.le_trans hsum (by decide), ?_⟩
        refine ⟨ra, _, _, rfl, rfl, hRn, rl, ?_⟩
        refine ⟨same_put hra0 en _, fas, pas ++ [t], fs, ps ++ [r], rows ++ [Txt.join sp1 r], _, _, ?_, ?_, ?_, ?_, ?_, lF, ?_, oF, ?_, ok.part hnm hr', rfl⟩
        · rw [upd_ne hfr]; exact hFn
        · rw [upd_ne hpr, hPn, List.map_append]; rfl
        · rw [upd_same, List.map_append]; rfl
        · exact Paired.mapP pFn fun b r z => row_put hRn z
        · exact Paired.mapP pPn fun b r z => row_put hRn z
        · rw [List.length_append, List.length_singleton]; omega
        · intro r' hr2
          rcases List.mem_append.mp hr2 with h | h
          · exact oP r' h
          · simp only [List.mem_cons, List.not_mem_nil, or_false] at h; rw [h]; exact hr'
      · exact ⟨e, fas, pas, fs, ps, rows, _, _, hF, hP, hR, pF, pP, lF, lP, oF, oP, ok, rfl⟩
  · rintro σ H' ⟨e, fas, pas, fs, ps, rows, z4, z5, hF, hP, hR, pF, pP, lF, lP, oF, oP, ok, rfl⟩
    refine ⟨_, rfl, _, rfl, _, rfl, (show 3 ≤ sizeLine by decide), fun t ht => ?_⟩
    have s6 := same_new ht (.tup [.ref ra, .ref fa, .ref pa])
    exact q t ra fa pa rows fs ps _ (e.trans s6) (SqT.of upd_same) (s6 _ _ hR) ⟨fas, s6 _ _ hF, Paired.mapP pF fun b r z => z.same s6⟩ ⟨pas, s6 _ _ hP, Paired.mapP pP fun b r z => z.same s6⟩ lF lP oF oP ok
end
end K3

set_option Elab.async false
set_option linter.all false
set_option maxRecDepth 100000
set_option maxHeartbeats 4000000
namespace K3
open PySem PySem.Spec L2 Mir
abbrev sStays : Stmt := top 40
def zn (k : Nat) : Str := ("zz" : Str) ++ Str.ofString (toString ((0 : Int) + (k : Nat)))
theorem zn_facts : ∀ k ∈ List.range 9, ("zz" : Str).length + (Str.ofString (toString ((0 : Int) + (k : Nat)))).length ≤ sizeLine ∧ isName (zn k) = true := by decide +kernel
def zns : List Str := (List.range 9).map zn
theorem zns_nodup : zns.Nodup := by decide +kernel
theorem zns_left {xs : List Str} (h : xs.length ≤ 8) : ∃ y r, zns.filter (fun x => !decide (x ∈ xs)) = y :: r ∧ isName y = true ∧ ¬ y ∈ xs := by
  cases e : zns.filter (fun x => !decide (x ∈ xs)) with
  | nil =>
    exfalso
    have hs : ∀ y ∈ zns, y ∈ xs := fun y hy => by
      apply Classical.byContradiction
      intro hn
      have : y ∈ zns.filter (fun x => !decide (x ∈ xs)) := List.mem_filter.mpr ⟨hy, by simpa using hn⟩
      rw [e] at this
      simp at this
    have h1 := List.Nodup.length_le_of_subset zns_nodup hs
    have h2 : zns.length = 9 := by unfold zns; rw [List.length_map, List.length_range]
    omega
  | cons y r =>
    have hm : y ∈ zns.filter (fun x => !decide (x ∈ xs)) := by rw [e]; exact List.mem_cons_self ..
    have hm2 := (List.mem_filter.mp hm)
    obtain ⟨k, hk, rfl⟩ := List.mem_map.mp hm2.1
    exact ⟨_, r, rfl, (zn_facts k hk).2, by simpa using hm2.2⟩
theorem ren_none {m : List (Str × Str)} {r : List Str} (h : ∀ x ∈ r.drop 1, x ∈ Mir.noNames ∨ lk m x = none) : renRow m r = r := by
  unfold renRow
  have : (r.drop 1).map (ren m) = r.drop 1 := by
    refine (List.map_congr_left (g := id) fun x hx => ?_).trans (List.map_id _)
    unfold ren
    rcases h x hx with h1 | h1
    · rw [if_pos h1]; rfl
    · rw [h1]; split <;> rfl
  rw [this, List.take_append_drop]
/-- what a telling of the law's is -/
structure Good (fs ps : List (List Str)) : Prop where
  sF : ShortRows fs
  sP : ShortRows ps
  mid : ∀ r ∈ fs ++ ps, Mid r
  ok : ∀ r ∈ fs ++ ps, ∀ y ∈ r, Ok y
  few : ∀ ss : List Str, ss.Nodup → (∀ y ∈ ss, y ∈ words (fs ++ ps)) → ss.length ≤ 8
def spStays (K : PySem.W.Frag) : Sp := fun vs H Q _ => ∃ a fb pb d fs ps m, vs = [.ref a, .ref fb, .ref pb, .ref d] ∧ TellAt K H a [fs, ps] ∧ RowsAt K H fb fs ∧ RowsAt K H pb ps ∧ Good fs ps ∧ H d = some (.dK (dt m)) ∧ ∀ H', Same H H' → Q (.bl true) H'
section
variable {P : Program} {w : World} {K : PySem.W.Frag} {mg : Str → Option Value} {base : Heap} {f gN gR gA : Addr} {fd dN dR dA : FuncData}
theorem scStays : FnScope ["_law_found", "_law_facts", "_law_parts", "_law_others", "_law_there", "_law_strange", "_law_some", "_law_again"] ["_law_found", "_law_facts", "_law_parts", "_law_others"] (defScope sStays) := ⟨rfl, rfl, rfl, by decide +kernel, rfl, by decide +kernel, by decide +kernel⟩
theorem ok_stays (C : Con K mg w) (hrg : mg "range" = none) (F : Fun K "_law_stays" "_law_stays" sStays f fd) (GN : FnOk P w K mg base CX0 1 gN dN ["telling"] (spNames K)) (cN : Cal K mg "names_of" gN dN ["telling"])
    (GR : FnOk P w K mg base CX0 2 gR dR ["telling", "names"] (spRen K)) (cR : Cal K mg "renamed" gR dR ["telling", "names"])
    (GA : FnOk P w K mg base CX0 1 gA dA ["_law_found", "_law_facts", "_law_parts"] (spAlike K)) (cA : Cal K mg "_law_alike" gA dA ["_law_found", "_law_facts", "_law_parts"]) : FnOk P w K mg base CX0 3 f fd ["_law_found", "_law_facts", "_law_parts", "_law_others"] (spStays K) := by
  refine F.okQ scStays (fun vs H Q E h => ?_) (fun cdv A outer s H vs Q E hr h => ?_)
  · obtain ⟨a, fb, pb, d, fs, ps, m, rfl, _⟩ := h; rfl
  obtain ⟨a, fb, pb, d, fs, ps, m, rfl, ta, v3, v5, gd, hD, q⟩ := h
  have nd := scStays.nd
  have hr1 := hr.mono (j := 1) (by omega)
  refine ⟨_, qb_cons (qs_set (i := 4) nd rfl (Or.inr rfl) (qe_call GN hr1 rfl cN.name cN.keep cN.bind .nil pass0 (qa_nm (qv 0) qa_nil)))
    (qb_cons (qs_set (i := 5) nd rfl (Or.inl rfl) (qe_ix ix_list (qe_comp1 4 (qi_list (qe_comp0 (qi_range1 rfl hrg (qa_int qa_nil)) (fun _ _ _ _ => qts_nil) (fun _ _ _ _ => qe_op op_add_str qe_str (qe_callTy call_str_int rfl C.str PyProof.Rows.boot_str (qa_nm (qv 0) qa_nil)))))
          (fun _ _ _ _ => qts_one (qt_cmpR (show OpR _ _ (rIn K true) from op_notIn_seq) (qv 0) (qv 1) (by with_unfolding_all rfl))) (fun _ _ _ _ => qv 0)) qe_int (fun _ _ => rfl)))
    (qb_cons (qs_for PassesOwn.never rfl (qi_list (qe_lst (qa_nm (qv 3) (qa_cons qe_dnew (qa_cons (qe_disp1 (qv 5) qe_str) qa_nil))))) (qg_name (i := 6) nd rfl (Or.inl rfl))
      (qb_cons (qs_set (i := 7) nd rfl (Or.inl rfl) (qe_call GR hr rfl cR.name cR.keep cR.bind .nil pass0 (qa_nm (qv 0) (qa_nm (qv 6) qa_nil))))
      (qb_cons (qs_expr (qe_bmK (K := K) rfl PySem.F.plainAttrs_list PySem.F.slot_list_append PySem.F.type_list_append mt_append (qe_ix ix_tup (qv 7) qe_int (fun _ _ => rfl)) (qa_tp (qa_str (qa_str (qa_str qa_nil))) qa_nil)))
      (qb_cons (qs_expr (qe_bm0 PySem.F.plainAttrs_list PySem.F.slot_list_clear PySem.F.type_list_clear mt_clear (qe_ix ix_tup (qv 7) qe_int (fun _ _ => rfl))))
      (qb_one (qs_if (qt_not (qt_val (qe_call GA hr1 rfl cA.name cA.keep cA.bind .nil pass0 (qa_nm (qv 0) (qa_nm (qv 1) (qa_nm (qv 2) qa_nil)))))) (qb_one (qs_ret qe_bl)) qb_nil))))))
    (qb_one (qs_ret (qe_call GA hr1 rfl cA.name cA.keep cA.bind .nil pass0 (qa_call (qe_call GR hr rfl cR.name cR.keep cR.bind .nil pass0 (qa_nm (qv 0) (qa_cons (qe_disp1 (qv 5) qe_str) qa_nil))) (qa_nm (qv 1) (qa_nm (qv 2) qa_nil)))))))), ?_⟩
  have hne : ∀ r ∈ fs ++ ps, r ≠ [] := fun r hr' z => by have := (gd.mid r hr').1; rw [z] at this; simp at this
  have lf := gd.sF.1
  have lp := gd.sP.1
  refine ⟨_, rfl, a, fs, ps, rfl, ta, gd.sF, gd.sP, hne, fun ss h1 h2 => Nat.lt_of_le_of_lt (gd.few ss h1 h2) (by decide), fun th zs H1 hth e1 hz1 hznd hzm _ => ?_⟩
  have hz8 : zs.length ≤ 8 := gd.few zs hznd fun y hy => (hzm y).mp hy
  -- a strange name
  refine ⟨_, rfl, (by decide), (by decide), ?_⟩
  refine comp_str (nums 0 9) (List.range 9) zn jseq_rng trivial (by simp [nums]) (by simp [nums]) (fun i' x r hx hr' H4 e4 Q' q' => ?_) fun D1 H2 hD1 e2 hd1 => ?_
  · have hr9 : r ∈ List.range 9 := List.mem_of_getElem? hr'
    have hx' : x = .int ((0 : Int) + (r : Nat)) := by
      unfold nums at hx
      rw [List.getElem?_map, hr'] at hx
      exact (Option.some.inj hx).symm
    subst hx'
    have hlt : r < 9 := List.mem_range.mp hr9
    refine ⟨_, rfl, _, rfl, ?_, _, _, rfl, rfl, (zn_facts r hr9).1, q' H4 (Same.refl _)⟩
    exact Nat.lt_of_le_of_lt (Nat.log2_le_self _) (by omega)
  refine ⟨D1, rfl, ⟨_, SqL.of hd1⟩, ?_⟩
  refine comp_map (zns.map V.str) (fun v => !inV v (zs.map V.str)) id jseq_list (SqL.of hd1) ?_ ?_ ?_ ?_
  · rw [List.length_map]; exact (by decide +kernel : zns.length ≤ sizeLine)
  · intro v hv H5 e5 Q' q'
    obtain ⟨y, hy, rfl⟩ := List.mem_map.mp hv
    exact ⟨_, rfl, _, rfl, th, _, rfl, .inl (SqL.of (e5 _ _ (e2 _ _ hz1))), rfl, flat_strs _, _, rfl, q' H5 (Same.refl _)⟩
  · intro v hv hpv H5 e5 Q' q'
    obtain ⟨y, hy, rfl⟩ := List.mem_map.mp hv
    exact ⟨_, rfl, q' H5 (Same.refl _)⟩
  intro D2 H3 hD2 e3 hd2
  have hw : ((zns.map V.str).filter (fun v => !inV v (zs.map V.str))).map id = (zns.filter fun x => !decide (x ∈ zs)).map V.str := by
    rw [List.map_id, List.filter_map]
    congr 1
    apply List.filter_congr
    intro x _
    show (!inV (.str x) (zs.map V.str)) = _
    rw [inV_strs]
  rw [hw] at hd2
  obtain ⟨y, r, ey, hyn, hyz⟩ := zns_left hz8
  rw [ey] at hd2
  have u3 := (e1.trans e2).trans e3
  refine ⟨D2, _, 0, .str y, rfl, rfl, SqL.of hd2, atI_nat (j := 0) rfl, ?_⟩
  have hren : ∀ r ∈ fs ++ ps, renRow [(y, "nil")] r = r := fun r hr' => ren_none fun x hx => by
    by_cases hn : x ∈ Mir.noNames
    · exact .inl hn
    · refine .inr ?_
      have hm : x ∈ zs := (hzm x).mpr (mem_words.mpr ⟨r, hr', hx, hn⟩)
      have hne : ¬ y = x := fun z => hyz (z ▸ hm)
      unfold lk
      simp [hne]
  -- the three dicts
  refine ⟨_, rfl, fun d2 hd2' => ?_⟩
  have s4 := same_new hd2' (.dK (dt []))
  refine fun d3 hd3' => ⟨_, rfl, upd_same, [(Sum.inr y, .str "nil")], rfl, (show 1 ≤ 15 by decide), ?_⟩
  have hd3n : (upd H3 d2 (.dK [])) d3 = none := hd3'
  rw [upd_upd]
  have s5 := same_new hd3n (.dK (dt [(y, "nil")]))
  refine ⟨(show 3 ≤ sizeLine by decide), fun ll hll => ?_⟩
  have s6 := same_new hll (.lst [.ref d, .ref d2, .ref d3])
  have u6 := s4.trans (s5.trans s6)
  have uH := u3.trans u6
  refine ⟨ll, rfl, ⟨_, SqL.of upd_same⟩, ?_⟩
  have hdd : ∀ (i : Nat) (x : V), ([V.ref d, V.ref d2, V.ref d3] : List V)[i]? = some x → ∃ dd m', x = .ref dd ∧ (upd (upd (upd H3 d2 (.dK (dt []))) d3 (.dK (dt [(y, "nil")]))) ll (.lst [.ref d, .ref d2, .ref d3])) dd = some (.dK (dt m')) := fun i x hx => by
    match i with
    | 0 => exact ⟨d, m, (Option.some.inj hx).symm, uH _ _ hD⟩
    | 1 => exact ⟨d2, [], (Option.some.inj hx).symm, s6 _ _ (s5 _ _ upd_same)⟩
    | 2 => exact ⟨d3, [(y, "nil")], (Option.some.inj hx).symm, s6 _ _ upd_same⟩
    | n + 3 => simp at hx
  refine for_list (xs := [V.ref d, V.ref d2, V.ref d3]) (fun i σ H' => Same (upd (upd (upd H3 d2 (.dK (dt []))) d3 (.dK (dt [(y, "nil")]))) ll (.lst [.ref d, .ref d2, .ref d3])) H' ∧ ∃ z6 z7, σ = [some (.ref a), some (.ref fb), some (.ref pb), some (.ref d), some (.ref th), some (.str y), z6, z7])
    ⟨Same.refl _, none, none, rfl⟩ (fun i σ H' _ p => SqL.of (p.1 _ _ upd_same)) ?_ ?_
  · rintro i x σ H' hi ⟨e, z6, z7, rfl⟩
    obtain ⟨dd, m', rfl, hdd'⟩ := hdd i x hi
    have eH := uH.trans e
    refine ⟨_, rfl, _, rfl, a, dd, fs, ps, m', rfl, ta.same eH, lf, lp, gd.mid, e _ _ hdd', fun t5 fa5 pa5 H9 N5 => ?_⟩
    obtain ⟨fas5, f5, f5p⟩ := id N5.facts
    obtain ⟨pas5, p5, _⟩ := id N5.parts
    have fl5 : fas5.length ≤ 200 := by have := Paired.length f5p; rw [List.length_map] at this; omega
    refine ⟨_, rfl, t5, _, 0, .ref fa5, rfl, rfl, N5.tup, rfl, .inl ⟨rfl, _, SqL.of f5⟩, (show 3 ≤ sizeLine by decide), fun tp htp => ?_⟩
    have s11 := same_new htp (.tup [.str "is", .str "nil", .str "nil"])
    have hf5 := s11 _ _ f5
    refine ⟨fa5, _, .ref tp, rfl, rfl, hf5, by rw [List.length_map]; exact Nat.lt_of_le_of_lt fl5 (by decide), ?_⟩
    have tup12 := sq_put (ys := fas5.map V.ref ++ [.ref tp]) hf5 (s11.seqT N5.tup)
    have hp12 : (upd (upd H9 tp (.tup [.str "is", .str "nil", .str "nil"])) fa5 (.lst (fas5.map V.ref ++ [.ref tp]))) pa5 = some (.lst (pas5.map V.ref)) := by
      rw [upd_ne (Ne.symm N5.ne)]; exact s11 _ _ p5
    refine ⟨_, rfl, t5, _, 1, .ref pa5, rfl, rfl, tup12, rfl, .inl ⟨rfl, _, SqL.of hp12⟩, pa5, _, rfl, rfl, hp12, ?_⟩
    have e13 := same_put N5.newP (same_put N5.newF (N5.same.trans s11) (.lst (fas5.map V.ref ++ [.ref tp]))) (.lst [])
    have e14 := eH.trans e13
    refine ⟨_, rfl, _, rfl, _, rfl, a, fb, pb, fs, ps, rfl, ta.same e14, v3.same e14, v5.same e14, gd.sF, gd.sP, gd.ok, fun H15 e15 => ⟨_, rfl, iteF ?_⟩⟩
    exact ⟨e.trans (e13.trans e15), _, _, rfl⟩
  · rintro σ H' ⟨e, z6, z7, rfl⟩
    have eH := uH.trans e
    refine ⟨_, rfl, fun d4 hd4 => ⟨_, rfl, upd_same, [(Sum.inr y, .str "nil")], rfl, (show 1 ≤ 15 by decide), ?_⟩⟩
    rw [upd_upd]
    have s7 := same_new hd4 (.dK (dt [(y, "nil")]))
    have e7 := eH.trans s7
    refine ⟨a, d4, fs, ps, [(y, "nil")], rfl, ta.same e7, lf, lp, gd.mid, upd_same, fun t6 fa6 pa6 H14 N6 => ?_⟩
    have eF : fs.map (renRow [(y, "nil")]) = fs := (List.map_congr_left (g := id) fun r hr' => hren r (List.mem_append_left _ hr')).trans (List.map_id _)
    have eP : ps.map (renRow [(y, "nil")]) = ps := (List.map_congr_left (g := id) fun r hr' => hren r (List.mem_append_right _ hr')).trans (List.map_id _)
    rw [eF, eP] at N6
    have e8 := e7.trans N6.same
    exact ⟨_, rfl, _, rfl, t6, fb, pb, fs, ps, rfl, N6.tell, v3.same e8, v5.same e8, gd.sF, gd.sP, gd.ok, fun H15 e15 => q H15 (e8.trans e15)⟩
end
end K3

set_option Elab.async false
set_option linter.all false
set_option maxRecDepth 100000
set_option maxHeartbeats 4000000
namespace K3
open PySem PySem.Spec L2 Mir PyProof.Rows
/-! what the law's things are -/
theorem rising_all : ∀ (r : List Str) (p : Str), risingS p r = true → (∀ y ∈ r, p.cps.toList ≤ y.cps.toList) ∧ sortedS r = true
  | [], p, _ => ⟨by simp, rfl⟩
  | x :: r, p, h => by
    have h' : (!ltCps x.cps.toList p.cps.toList && risingS x r) = true := h
    rw [Bool.and_eq_true, ltCps_eq] at h'
    have h1 : p.cps.toList ≤ x.cps.toList := by
      have := h'.1
      simp only [Bool.not_eq_true', decide_eq_false_iff_not] at this
      exact this
    have ih := rising_all r x h'.2
    refine ⟨fun y hy => ?_, h'.2⟩
    rcases List.mem_cons.mp hy with rfl | hy'
    · exact h1
    · exact List.le_trans h1 (ih.1 y hy')
theorem sorted_unique : ∀ {zs ys : List Str}, sortedS zs = true → sortedS ys = true → zs.Perm ys → zs = ys
  | [], ys, _, _, p => (List.nil_perm.mp p).symm
  | x :: r, [], _, _, p => absurd p.length_eq (by simp)
  | x :: r, y :: t, h1, h2, p => by
    have g1 := rising_all r x h1
    have g2 := rising_all t y h2
    have e : x = y := by
      have hx : x ∈ y :: t := p.mem_iff.mp (List.mem_cons_self ..)
      have hy : y ∈ x :: r := p.mem_iff.mpr (List.mem_cons_self ..)
      have le1 : x.cps.toList ≤ y.cps.toList := by
        rcases List.mem_cons.mp hy with h | h
        · rw [h]; exact List.le_refl _
        · exact g1.1 y h
      have le2 : y.cps.toList ≤ x.cps.toList := by
        rcases List.mem_cons.mp hx with h | h
        · rw [h]; exact List.le_refl _
        · exact g2.1 x h
      exact Str.ext' (Array.toList_inj.mp (List.le_antisymm le1 le2))
    subst e
    rw [sorted_unique g1.2 g2.2 (List.Perm.cons_inv p)]
theorem same_names {zs ys ws ws' : List Str} (h1 : sortedS zs = true) (h2 : sortedS ys = true) (n1 : zs.Nodup) (n2 : ys.Nodup) (m : ∀ y, y ∈ zs ↔ y ∈ ys) : zs = ys :=
  sorted_unique h1 h2 ((List.perm_ext_iff_of_nodup n1 n2).mpr m)
variable {xs : List Str}
/-- the text of a row -/
theorem row_text (hx : ∀ x ∈ xs, isName x = true) {t : Str} (h : (∃ r, FactOf xs r ∧ t = showFact r) ∨ (∃ r, PartOf xs r ∧ t = Txt.join sp1 r)) :
    (¬ 44 ∈ t.cps.toList ∧ 32 ∈ t.cps.toList) ∧ t.length ≤ 36 ∧ (wordsOf t).length ≤ 5 ∧ (∀ y ∈ wordsOf t, Short y) ∧ Ok t := by
  rcases h with ⟨r, hr, rfl⟩ | ⟨r, hr, rfl⟩
  · have hgr := (row_good hx (.inl hr)).2.2
    have hcl := clean_fact hx hr
    obtain ⟨k, u, v, rfl, _⟩ := hr
    have mm : ∀ y ∈ [u, k, v], y ∈ [k, u, v] := fun y hy => by simp only [List.mem_cons, List.not_mem_nil, or_false] at hy ⊢; rcases hy with h | h | h <;> simp [h]
    have ew : wordsOf (showFact [k, u, v]) = [u, k, v] := words_join (r := [u, k, v]) (by simp) fun y hy => hcl y (mm y hy)
    have := join_len sp1 (B := 8) (ts := [u, k, v]) fun y hy => (hgr y (mm y hy)).1
    rw [sp1_len] at this
    refine ⟨⟨no_comma (r := [u, k, v]) fun y hy => hcl y (mm y hy), blank_in⟩, Nat.le_trans this (show 3 * 8 + 3 * 1 ≤ 36 by decide), by rw [ew]; exact (show 3 ≤ 5 by decide), fun y hy => ?_, ?_⟩
    · rw [ew] at hy
      exact Nat.le_trans (hgr y (mm y hy)).1 (by decide)
    · rw [← fact_text]
      exact ((((hgr u (by simp)).2.app ok_sp).app (hgr k (by simp)).2).app ok_sp).app (hgr v (by simp)).2
  · have hg := row_good hx (.inr hr)
    have ew := (part_reads hx hr).2
    have := join_len sp1 (B := 8) (ts := r) fun y hy => (hg.2.2 y hy).1
    rw [sp1_len] at this
    have h4 := hg.1
    refine ⟨⟨no_comma (clean_part hx hr), ?_⟩, by omega, by rw [ew]; omega, fun y hy => ?_, ?_⟩
    · rcases hr with ⟨a, b, c, rfl, _⟩ | ⟨a, b, rfl, _⟩ | ⟨a, rfl, _⟩ <;> exact blank_in
    · rw [ew] at hy
      exact Nat.le_trans (hg.2.2 y hy).1 (by decide)
    · cases r with
      | nil => exact absurd rfl hg.2.1
      | cons x ws =>
        rw [rowTo_join]
        exact rowTo_ok x (hg.2.2 x (by simp)).2 ws fun y hy => (hg.2.2 y (List.mem_cons_of_mem _ hy)).2
def textOf (rows : List Str) : Str := if rows = [] then nothing else Txt.join sepC rows
theorem pieces_rows (hx : ∀ x ∈ xs, isName x = true) {rows : List Str} {fs ps : List (List Str)} (h : RowsOk xs rows fs ps) : pieces (textOf rows) = rows := by
  unfold textOf
  by_cases he : rows = []
  · rw [if_pos he, he]; unfold pieces; rw [if_pos rfl]
  · rw [if_neg he]
    have hrow : ∀ t ∈ rows, ¬ 44 ∈ t.cps.toList ∧ 32 ∈ t.cps.toList := fun t ht => (row_text hx (h.text t ht)).1
    have hno : ¬ Txt.join sepC rows = nothing := fun z => by
      cases hs : rows with
      | nil => exact he hs
      | cons t ts =>
        have h1 := head_in (ts := ts) (hrow t (by rw [hs]; simp)).2
        rw [← hs, z] at h1
        exact absurd h1 (by decide +kernel)
    unfold pieces
    rw [if_neg hno]
    exact Spl.split_join sepC 44 [32] (by decide +kernel) (by decide +kernel) _ he fun t ht => (hrow t ht).1
theorem text_len (hx : ∀ x ∈ xs, isName x = true) {rows : List Str} {fs ps : List (List Str)} (h : RowsOk xs rows fs ps) (hl : rows.length ≤ 14) : (textOf rows).length ≤ 2000 := by
  unfold textOf
  split
  · decide +kernel
  · have := join_len sepC (B := 36) (ts := rows) fun t ht => (row_text hx (h.text t ht)).2.1
    rw [sepC_len] at this
    omega
/-! dicts -/
def putS (m : List (Str × Str)) (x y : Str) : List (Str × Str) := if (m.any fun p => decide (p.1 = x)) = true then m.map (fun p => if p.1 = x then (p.1, y) else p) else m ++ [(x, y)]
theorem inr_dec (a b : Str) : decide ((Sum.inr a : Key) = Sum.inr b) = decide (a = b) := key_rr a b
theorem putK_dt (m : List (Str × Str)) (x y : Str) : putK (dt m) (Sum.inr x) (.str y) = dt (putS m x y) := by
  unfold putK putS dt
  have e : (m.map (fun p => ((Sum.inr p.1, V.str p.2) : Key × V))).any (fun kv => decide (kv.1 = (Sum.inr x : Key))) = m.any fun p => decide (p.1 = x) := by
    rw [List.any_map]
    congr 1
    funext p
    exact inr_dec p.1 x
  rw [e]
  split
  · rw [List.map_map, List.map_map]
    apply List.map_congr_left
    intro p _
    show (if (Sum.inr p.1 : Key) = Sum.inr x then _ else _) = _
    by_cases h : p.1 = x
    · rw [if_pos (by rw [h])]
      show _ = ((Sum.inr (if p.1 = x then (p.1, y) else p).1, V.str (if p.1 = x then (p.1, y) else p).2) : Key × V)
      rw [if_pos h]
    · rw [if_neg (fun z => h (Sum.inr.inj z))]
      show _ = ((Sum.inr (if p.1 = x then (p.1, y) else p).1, V.str (if p.1 = x then (p.1, y) else p).2) : Key × V)
      rw [if_neg h]
  · rw [List.map_append]; rfl
theorem putS_mem {m : List (Str × Str)} {x y : Str} {p : Str × Str} (h : p ∈ putS m x y) : p ∈ m ∨ p = (x, y) := by
  unfold putS at h
  split at h
  · obtain ⟨q, hq, rfl⟩ := List.mem_map.mp h
    split
    · rename_i e; exact .inr (by rw [e])
    · exact .inl hq
  · rcases List.mem_append.mp h with h | h
    · exact .inl h
    · simp only [List.mem_cons, List.not_mem_nil, or_false] at h; exact .inr h
theorem putS_len (m : List (Str × Str)) (x y : Str) : (putS m x y).length ≤ m.length + 1 := by
  unfold putS
  split
  · rw [List.length_map]; omega
  · rw [List.length_append, List.length_singleton]; omega
def dtb (ks : List Str) : List (Key × V) := ks.map fun k => (Sum.inr k, V.bl true)
def putB (ks : List Str) (x : Str) : List Str := if x ∈ ks then ks else ks ++ [x]
theorem putK_dtb (ks : List Str) (x : Str) : putK (dtb ks) (Sum.inr x) (.bl true) = dtb (putB ks x) := by
  unfold putK putB dtb
  have e : (ks.map (fun k => ((Sum.inr k, V.bl true) : Key × V))).any (fun kv => decide (kv.1 = (Sum.inr x : Key))) = decide (x ∈ ks) := by
    rw [List.any_map, Bool.eq_iff_iff, List.any_eq_true, decide_eq_true_eq]
    constructor
    · rintro ⟨k, hk, h⟩
      have h' : decide ((Sum.inr k : Key) = Sum.inr x) = true := h
      rw [inr_dec, decide_eq_true_eq] at h'
      exact h' ▸ hk
    · intro h
      exact ⟨x, h, by show decide ((Sum.inr x : Key) = Sum.inr x) = true; rw [inr_dec]; simp⟩
  rw [e]
  by_cases h : x ∈ ks
  · rw [if_pos h, if_pos (by simpa using h), List.map_map]
    apply List.map_congr_left
    intro k _
    show (if (Sum.inr k : Key) = Sum.inr x then _ else _) = _
    split <;> rfl
  · rw [if_neg h, if_neg (by simpa using h), List.map_append]; rfl
theorem putB_mem {ks : List Str} {x y : Str} : y ∈ putB ks x ↔ y ∈ ks ∨ y = x := by
  unfold putB
  split
  · rename_i h
    constructor
    · exact .inl
    · rintro (z | rfl)
      · exact z
      · exact h
  · rw [List.mem_append, List.mem_singleton]
theorem putB_nodup {ks : List Str} {x : Str} (h : ks.Nodup) : (putB ks x).Nodup := by
  unfold putB
  split
  · exact h
  · rename_i hn; exact nd_snoc h hn
/-- what the law puts for names -/
def MapOk (m : List (Str × Str)) : Prop := ∀ p ∈ m, isName p.1 = true ∧ p.2.length ≤ 8 ∧ Ok p.2
theorem lk_mem {m : List (Str × Str)} {x y : Str} (h : lk m x = some y) : (x, y) ∈ m := by
  unfold lk at h
  cases hf : m.find? (fun p => decide (p.1 = x)) with
  | none => rw [hf] at h; cases h
  | some p =>
    rw [hf] at h
    have h2 := List.find?_some hf
    have h1 : p.1 = x := by simpa using h2
    have h3 : p.2 = y := Option.some.inj h
    rw [← h1, ← h3]
    exact List.mem_of_find?_eq_some hf
theorem name_no {x : Str} (h : isName x = true) : ¬ x ∈ Mir.noNames := fun z => by
  unfold isName at h
  rw [if_pos (.inr (.inr z))] at h
  cases h
theorem ren_tw {m : List (Str × Str)} (h : MapOk m) (x : Str) : ren m x = tw m x := by
  unfold ren tw
  by_cases hn : x ∈ Mir.noNames
  · rw [if_pos hn]
    cases hl : lk m x with
    | none => rfl
    | some y => exact absurd hn (name_no (h _ (lk_mem hl)).1)
  · rw [if_neg hn]
theorem ren_turn {m : List (Str × Str)} (h : MapOk m) (r : List Str) : renRow m r = turnRow m r := by
  unfold renRow turnRow
  rw [List.map_congr_left fun x _ => ren_tw h x]
theorem tw_ok {m : List (Str × Str)} (h : MapOk m) {x : Str} (hx : Short x ∧ Ok x) : Short (tw m x) ∧ Ok (tw m x) := by
  unfold tw
  cases hl : lk m x with
  | none => exact hx
  | some y => exact ⟨Nat.le_trans (h _ (lk_mem hl)).2.1 (by decide), (h _ (lk_mem hl)).2.2⟩
theorem turn_words {m : List (Str × Str)} (h : MapOk m) {r : List Str} (hr : ∀ x ∈ r, Short x ∧ Ok x) : ∀ y ∈ turnRow m r, Short y ∧ Ok y := fun y hy => by
  unfold turnRow at hy
  rcases List.mem_append.mp hy with h1 | h1
  · exact hr y (List.mem_of_mem_take h1)
  · obtain ⟨x, hx, rfl⟩ := List.mem_map.mp h1
    exact tw_ok h (hr x (List.mem_of_mem_drop hx))
theorem turn_len (m : List (Str × Str)) (r : List Str) : (turnRow m r).length = r.length := by
  unfold turnRow
  rw [List.length_append, List.length_map, List.length_take, List.length_drop]
  omega
structure RowsFine (rs : List (List Str)) : Prop where
  short : ShortRows rs
  mid : ∀ r ∈ rs, Mid r
  ok : ∀ r ∈ rs, ∀ y ∈ r, Ok y
theorem RowsFine.turned {m : List (Str × Str)} {rs : List (List Str)} (h : RowsFine rs) (hm : MapOk m) : RowsFine (rs.map (turnRow m)) := by
  have g : ∀ r ∈ rs, ∀ x ∈ r, Short x ∧ Ok x := fun r hr x hx => ⟨(h.short.2 r hr).2 x hx, h.ok r hr x hx⟩
  refine ⟨⟨by rw [List.length_map]; exact h.short.1, fun r hr => ?_⟩, fun r hr => ?_, fun r hr y hy => ?_⟩ <;> obtain ⟨r', hr', rfl⟩ := List.mem_map.mp hr
  · exact ⟨by rw [turn_len]; exact (h.short.2 r' hr').1, fun x hx => (turn_words hm (g r' hr') x hx).1⟩
  · unfold Mid; rw [turn_len]; exact h.mid r' hr'
  · exact (turn_words hm (g r' hr') y hy).2
theorem row_mid {r : List Str} (h : FactOf xs r ∨ PartOf xs r) : Mid r := by
  rcases h with ⟨k, u, v, rfl, _⟩ | ⟨a, b, c, rfl, _⟩ | ⟨a, b, rfl, _⟩ | ⟨a, rfl, _⟩ <;> exact ⟨by simp, by simp⟩
theorem rows_fine (hx : ∀ x ∈ xs, isName x = true) {rs : List (List Str)} (hl : rs.length ≤ 200) (h : ∀ r ∈ rs, FactOf xs r ∨ PartOf xs r) : RowsFine rs := by
  refine ⟨⟨hl, fun r hr => ?_⟩, fun r hr => row_mid (h r hr), fun r hr y hy => ((row_good hx (h r hr)).2.2 y hy).2⟩
  have g := row_good hx (h r hr)
  exact ⟨by have := g.1; omega, fun y hy => Nat.le_trans (g.2.2 y hy).1 (by decide)⟩
theorem few_names (hxl : xs.length ≤ 8) {rs : List (List Str)} (h : ∀ r ∈ rs, FactOf xs r ∨ PartOf xs r) {ss : List Str} (hn : ss.Nodup) (hs : ∀ y ∈ ss, y ∈ words rs) : ss.length ≤ 8 := by
  refine Nat.le_trans (List.Nodup.length_le_of_subset hn fun y hy => ?_) hxl
  obtain ⟨r, hr, hy', hn⟩ := mem_words.mp (hs y hy)
  exact in_names (row_fields (h r hr) y hy') hn
def nilRow : List Str := ["is", "nil", "nil"]
theorem nil_fact : FactOf xs nilRow := ⟨"is", "nil", "nil", rfl, .inl rfl, .inl rfl, .inl rfl⟩
theorem many_words {fs ps : List (List Str)} {n : Nat} (hn : fs.length ≤ n) : ∀ y, y ∈ words ((fs ++ List.replicate 40 nilRow).take n ++ ps) ↔ y ∈ words (fs ++ ps) := fun y => by
  rw [List.take_append, List.take_of_length_le hn]
  simp only [mem_words, List.mem_append]
  constructor
  · rintro ⟨r, (h | h) | h, h1, h2⟩
    · exact ⟨r, .inl h, h1, h2⟩
    · exfalso
      have e := List.eq_of_mem_replicate (List.mem_of_mem_take h)
      subst e
      have : y = "nil" := by
        have h1' : y ∈ ([("nil" : Str), "nil"] : List Str) := h1
        simp only [List.mem_cons, List.not_mem_nil, or_false] at h1'
        rcases h1' with h | h <;> exact h
      exact h2 (by rw [this]; decide +kernel)
    · exact ⟨r, .inr h, h1, h2⟩
  · rintro ⟨r, h | h, h1, h2⟩
    · exact ⟨r, .inl (.inl h), h1, h2⟩
    · exact ⟨r, .inr h, h1, h2⟩
theorem field_word (hx : ∀ x ∈ xs, isName x = true) {y : Str} (h : FieldOf xs y) : y ∈ ([("nil" : Str), "any"] : List Str) ↔ y ∈ Mir.noNames := by
  constructor
  · intro z
    simp only [List.mem_cons, List.not_mem_nil, or_false] at z
    rcases z with rfl | rfl <;> decide +kernel
  · intro z
    rcases h with rfl | rfl | h
    · simp
    · simp
    · exact absurd z (name_no (hx y h))
end K3

set_option Elab.async false
set_option linter.all false
set_option maxRecDepth 100000
set_option maxHeartbeats 8000000
namespace K3
open PySem PySem.Spec L2 Mir
abbrev sLaw : Stmt := top 41
theorem qg_tup3 {X : Cx} {i j l : Nat} {x y z : Str} {px py pz pos : Pos} {k : Nat} (h1 : QG X (.Name x px) (gName i)) (h2 : QG X (.Name y py) (gName j)) (h3 : QG X (.Name z pz) (gName l)) (hc : X.calm = true := by rfl)
    (a1 : (assignEach [.Name x px, .Name y py, .Name z pz] X.env).map (·.2) = assign (.Name x px) X.env :: (assignEach [.Name y py, .Name z pz] X.env).map (·.2) := by rfl) (a2 : (assignEach [.Name y py, .Name z pz] X.env).map (·.2) = assign (.Name y py) X.env :: (assignEach [.Name z pz] X.env).map (·.2) := by rfl) (a3 : (assignEach [.Name z pz] X.env).map (·.2) = assign (.Name z pz) X.env :: (assignEach [] X.env).map (·.2) := by rfl)
    (hn : (assignEach [.Name x px, .Name y py, .Name z pz] X.env).length = 3 := by rfl) (hst : (assignEach [.Name x px, .Name y py, .Name z pz] X.env).findIdx? (·.1) = none := by rfl) : QG X (.Tuple [.Name x px, .Name y py, .Name z pz] k pos) (gTup X.K 3 (gCons (gName i) (gCons (gName j) (gCons (gName l) gNil)))) :=
  ⟨pg_tup hc (pgs_cons h1.run (pgs_cons h2.run (pgs_cons h3.run pgs_nil a3) a2) a1) hn hst⟩
theorem set_self {α : Type} {l : List α} {i : Nat} {v : α} (h : l[i]? = some v) : l.set i v = l := by
  apply List.ext_getElem?
  intro j
  rw [List.getElem?_set]
  split
  · rename_i e
    subst e
    rw [h]
    split
    · rfl
    · rename_i hn
      exact absurd (List.getElem?_eq_some_iff.mp h).1 hn
  · rfl
/-- the text of the rows -/
def tText : TS := fun D σ H => ∃ (ra : Addr) (rows : List Str), σ[2]? = some (some (.ref ra)) ∧ σ[5]? = some (some (.str nothing)) ∧ H ra = some (.lst (rows.map V.str)) ∧ (∀ x ∈ rows, Ok x ∧ x.length ≤ 36) ∧ rows.length ≤ 14 ∧ ∀ H', Same H H' → D.nx (σ.set 5 (some (.str (textOf rows)))) H'
theorem text_weak {K : PySem.W.Frag} (D : Ends) (σ : St) (H : Hp) (h : tText D σ H) : tIfS (tTest (tOp (rNeD K) (tVar 2) (tLst tNil))) (tAsg (tBM K "str" (rJoin K) (tC (.str sepC)) (tCons (tVar 2) tNil)) (gName 5)) tNext D σ H := by
  obtain ⟨ra, rows, h2, h5, hR, hok, hl, q⟩ := h
  refine ⟨_, h2, Nat.zero_le _, fun l hl' => ?_⟩
  have s1 := same_new hl' (.lst [])
  refine ⟨.list (dStrs rows), .list [], .lst (SqL.of (s1 _ _ hR)) (dp_strs rows), .lst (SqL.of upd_same) .nil, eqOk_strs fun y hy => (hok y hy).1, eqOk_strs (l := []) (by simp), _, rfl, iteB (fun c => ?_) (fun c => ?_)⟩
  · have hne : rows ≠ [] := fun z => by rw [z] at c; cases c
    refine ⟨rfl, _, h2, sepC, ra, rows, rfl, rfl, .inl (SqL.of (s1 _ _ hR)), ?_, ?_⟩
    · have h1 := sum_le (B := 36) (ts := rows) fun x hx => (hok x hx).2
      rw [sepC_len]
      exact Nat.le_trans (show _ ≤ 1000 by omega) (by decide)
    · have e : textOf rows = Txt.join sepC rows := by unfold textOf; rw [if_neg hne]
      have := q _ s1
      rw [e] at this
      exact this
  · have he : rows = [] := by
      rw [eqv_nil] at c
      simpa using c
    have e : textOf rows = nothing := by unfold textOf; rw [if_pos he]
    have := q _ s1
    rw [e, set_self h5] at this
    exact this
theorem cut_V (xs : List V) (n : Nat) : cutV xs none (some (n : Int)) = xs.take n := by
  unfold cutV
  rw [HT.sIx_nat, HT.sIx_none, List.drop_zero, Nat.sub_zero]
  by_cases h : n ≤ xs.length
  · rw [Nat.min_eq_left h]
  · rw [Nat.min_eq_right (by omega), List.take_length, List.take_of_length_le (by omega)]
def nk (k : Nat) : Str := ("n" : Str) ++ Str.ofString (toString ((0 : Int) + (k : Nat)))
theorem nk_facts : ∀ k ∈ List.range 8, ("n" : Str).length + (Str.ofString (toString ((0 : Int) + (k : Nat)))).length ≤ sizeLine ∧ isName (nk k) = true := by decide +kernel
theorem pick3 {a b c : V} {t : Int} (h0 : 0 < t) (h4 : t < 4) : ∃ v, atI [a, b, c] (t - 1) = some v ∧ (v = a ∨ v = b ∨ v = c) := by
  have : t = 1 ∨ t = 2 ∨ t = 3 := by omega
  rcases this with rfl | rfl | rfl
  · exact ⟨a, rfl, .inl rfl⟩
  · exact ⟨b, rfl, .inr (.inl rfl)⟩
  · exact ⟨c, rfl, .inr (.inr rfl)⟩
theorem paired_take {α β : Type} {F : α → β → Prop} : ∀ {l : List α} {m : List β} (n : Nat), Paired F l m → Paired F (l.take n) (m.take n)
  | _, _, 0, _ => .nil
  | _, _, _ + 1, .nil => .nil
  | _, _, n + 1, .cons h t => .cons h (paired_take n t)
theorem paired_rep {α β : Type} {F : α → β → Prop} {a : α} {b : β} (h : F a b) : ∀ n : Nat, Paired F (List.replicate n a) (List.replicate n b)
  | 0 => .nil
  | n + 1 => .cons h (paired_rep h n)
theorem rep_one {α : Type} (a : α) : ∀ n : Nat, (List.replicate n [a]).flatten = List.replicate n a
  | 0 => rfl
  | n + 1 => by rw [List.replicate_succ, List.flatten_cons, rep_one a n]; rfl
end K3

set_option Elab.async false
set_option linter.all false
set_option maxRecDepth 100000
set_option maxHeartbeats 8000000
namespace K3
open PySem PySem.Spec L2 Mir
section
variable {P : Program} {w : World} {K : PySem.W.Frag} {mg : Str → Option Value} {base : Heap} {f gC gN gL gR gA gO gE gT gS : Addr} {fd dC dN dL dR dA dO dE dT dS : FuncData} {NT : Addr}
theorem scLaw : FnScope ["_law_script", "_law_names_here", "_law_rows_here", "_law_facts", "_law_parts", "_law_text", "_law_found", "_law_there", "_law_row", "_law_word", "_law_told", "_law_others", "_law_k", "_law_turn", "_law_kept", "_law_again", "_law_many"] ["_law_script"] (defScope sLaw) := ⟨rfl, rfl, rfl, by decide +kernel, rfl, by decide +kernel, by decide +kernel⟩
theorem ok_law (C : Con K mg w) (hrg : mg "range" = none) (hdc : mg "dict" = none) (F : Fun K "law" "law" sLaw f fd) (GC : FnOk P w K mg base CX0 1 gC dC ["_law_script", "_law_k"] (spCell K)) (cC : Cal K mg "_law_cell_at" gC dC ["_law_script", "_law_k"])
    (GN : FnOk P w K mg base CX0 3 gN dN ["_law_cell"] (spMade mg)) (cN : Cal K mg "_law_names" gN dN ["_law_cell"])
    (GL : FnOk P w K mg base CX0 4 gL dL ["_law_cells", "_law_names_here"] (spLRows K)) (cL : Cal K mg "_law_rows" gL dL ["_law_cells", "_law_names_here"])
    (GR : FnOk P w K mg base (CXE P w base) 6 gR dR ["text"] (spRead K NT)) (cR : Cal K mg "read_telling" gR dR ["text"])
    (GA : FnOk P w K mg base CX0 1 gA dA ["_law_found", "_law_facts", "_law_parts"] (spAlike K)) (cA : Cal K mg "_law_alike" gA dA ["_law_found", "_law_facts", "_law_parts"])
    (GO : FnOk P w K mg base CX0 1 gO dO ["telling"] (spNames K)) (cO : Cal K mg "names_of" gO dO ["telling"])
    (GE : FnOk P w K mg base CX0 2 gE dE ["telling", "names"] (spRen K)) (cE : Cal K mg "renamed" gE dE ["telling", "names"])
    (GT : FnOk P w K mg base CX0 1 gT dT ["_law_rows_here", "_law_names_here"] (spTurned K)) (cT : Cal K mg "_law_turned" gT dT ["_law_rows_here", "_law_names_here"])
    (GS : FnOk P w K mg base CX0 3 gS dS ["_law_found", "_law_facts", "_law_parts", "_law_others"] (spStays K)) (cS : Cal K mg "_law_stays" gS dS ["_law_found", "_law_facts", "_law_parts", "_law_others"]) : FnOk P w K mg base CX0 7 f fd ["_law_script"] (spLaw K) := by
  refine F.okQ scLaw (fun vs H Q E h => ?_) (fun cdv A outer s H vs Q E hr h => ?_)
  · obtain ⟨a, ns, rfl, _⟩ := h; rfl
  obtain ⟨a, ns, rfl, hS, q⟩ := h
  have nd := scLaw.nd
  have hr1 := hr.mono (j := 1) (by omega)
  have hr2 := hr.mono (j := 2) (by omega)
  have hr3 := hr.mono (j := 3) (by omega)
  have hr4 := hr.mono (j := 4) (by omega)
  have hu1 := hu_of hr
  have hu := Nat.lt_of_le_of_lt (Nat.add_le_add_left (show 32 ≤ 64 by decide) _) hr.units
  refine ⟨_, qb_cons (qs_set (i := 1) nd rfl (Or.inl rfl) (qe_slice sl_list (qe_call GN hr3 rfl cN.name cN.keep cN.bind .nil pass0 (qa_call (qe_call GC hr1 rfl cC.name cC.keep cC.bind .nil pass0 (qa_nm (qv 0) (qa_int qa_nil))) qa_nil)) qo_none (qo_some (qe_op op_add qe_int (qe_op op_mod (qe_call GC hr1 rfl cC.name cC.keep cC.bind .nil pass0 (qa_nm (qv 0) (qa_int qa_nil))) qe_int)))))
    (qb_cons (qs_asg (qe_call GL hr4 rfl cL.name cL.keep cL.bind .nil pass0 (qa_sub (qe_slice sl_list (qv 0) (qo_some qe_int) qo_none) (qa_nm (qv 1) qa_nil))) (qg_tup3 (qg_name (i := 2) nd rfl (Or.inl rfl)) (qg_name (i := 3) nd rfl (Or.inl rfl)) (qg_name (i := 4) nd rfl (Or.inl rfl))))
    (qb_cons (qs_set (i := 5) nd rfl (Or.inl rfl) qe_str)
    (qb_cons (qs_weak (qs_if (qt_cmpR (op_neD hu) (qv 2) (qe_lst qa_nil) (nomark _)) (qb_one (qs_set (i := 5) nd rfl (Or.inl rfl) (qe_bmK (K := K) rfl PySem.F.plainAttrs_str PySem.F.slot_str_join PySem.F.type_str_join (mtJoin (K := K) rfl) qe_str (qa_nm (qv 2) qa_nil)))) qb_nil) (text_weak (K := K)))
    (qb_cons (qs_set (i := 6) nd rfl (Or.inl rfl) (qe_call GR hr rfl cR.name cR.keep cR.bind .nil passN (qa_nm (qv 5) qa_nil)))
    (qb_cons (qs_if (qt_not (qt_val (qe_call GA hr1 rfl cA.name cA.keep cA.bind .nil pass0 (qa_nm (qv 6) (qa_nm (qv 3) (qa_nm (qv 4) qa_nil)))))) (qb_one (qs_ret qe_bl)) qb_nil)
    (qb_cons (qs_set (i := 7) nd rfl (Or.inl rfl) qe_dnew)
    (qb_cons (qs_for PassesOwn.never rfl (qi_list (qe_op op_cat (qv 3) (qv 4))) (qg_name (i := 8) nd rfl (Or.inl rfl))
      (qb_one (qs_for PassesOwn.never rfl (qi_tup (qe_slice sl_tup (qv 8) (qo_some qe_int) qo_none)) (qg_name (i := 9) nd rfl (Or.inl rfl))
        (qb_one (qs_if (qt_cmpR op_notIn_seq (qv 9) (qe_tup (qa_str (qa_str qa_nil))) (by with_unfolding_all rfl)) (qb_one (qs_dput hu1 (qv 7) (qv 9) qe_bl)) qb_nil)))))
    (qb_cons (qs_set (i := 10) nd rfl (Or.inl rfl) (qe_call GO hr1 rfl cO.name cO.keep cO.bind .nil pass0 (qa_nm (qv 6) qa_nil)))
    (qb_cons (qs_if (QW.qt (qw_or (qt_not (qt_val (qe_callB call_isi_list rfl C.isi PyProof.Rows.boot_isinstance (qa_nm (qv 10) (qa_nm ⟨gty C.list PyProof.Rows.boot_list⟩ qa_nil)))))
        (qw_or (qt_cmpR (op_neD hu) (qv 10) (qe_callB call_sorted_strs rfl C.sorted PyProof.Rows.boot_sorted (qa_call (qe_callTy (call_list_dict rfl) rfl C.list PyProof.Rows.boot_list (qa_nm (qv 7) qa_nil)) qa_nil)) (nomark _))
        (qw_or1 (qt_not (qt_val (qe_call GA hr1 rfl cA.name cA.keep cA.bind .nil pass0 (qa_nm (qv 6) (qa_nm (qv 3) (qa_nm (qv 4) qa_nil)))))))))) (qb_one (qs_ret qe_bl)) qb_nil)
    (qb_cons (qs_set (i := 11) nd rfl (Or.inl rfl) qe_dnew)
    (qb_cons (qs_for PassesOwn.never rfl (qi_range1 rfl hrg (qa_call (qe_callB call_len_seq rfl C.len PySem.boot_len (qa_nm (qv 1) qa_nil)) qa_nil)) (qg_name (i := 12) nd rfl (Or.inl rfl))
      (qb_cons (qs_set (i := 13) nd rfl (Or.inl rfl) (qe_op op_mod (qe_op op_fdiv (qe_call GC hr1 rfl cC.name cC.keep cC.bind .nil pass0 (qa_nm (qv 0) (qa_int qa_nil))) (qe_op op_add (qv 12) qe_int)) qe_int))
      (qb_one (qs_if (qt_cmpR op_gt (qv 13) qe_int (nomark _)) (qb_one (qs_dput hu1 (qv 11) (qe_ix ix_list (qv 1) (qv 12) (fun _ _ => rfl))
        (qe_ix ix_list (qe_lst (qa_sub (qe_ix ix_list (qv 1) (qe_op op_mod (qe_op op_add (qv 12) (qv 13)) (qe_callB call_len_seq rfl C.len PySem.boot_len (qa_nm (qv 1) qa_nil))) (fun _ _ => rfl)) (qa_str (qa_bop (qe_op op_add_str qe_str (qe_callTy call_str_int rfl C.str PyProof.Rows.boot_str (qa_nm (qv 12) qa_nil))) qa_nil)))) (qe_op op_sub (qv 13) qe_int) (fun _ _ => rfl)))) qb_nil))))
    (qb_cons (qs_set (i := 14) nd rfl (Or.inl rfl) (qe_callTy call_dict rfl hdc PyProof.Rows.boot_dict (qa_nm (qv 11) qa_nil)))
    (qb_cons (qs_set (i := 15) nd rfl (Or.inl rfl) (qe_call GE hr2 rfl cE.name cE.keep cE.bind .nil pass0 (qa_nm (qv 6) (qa_nm (qv 11) qa_nil))))
    (qb_cons (qs_if (QW.qt (qw_or (qt_cmpR (op_neSame hu1) (qv 11) (qv 14) (nomark _)) (qw_or1 (qt_not (qt_val (qe_call GA hr1 rfl cA.name cA.keep cA.bind .nil pass0 (qa_nm (qv 6) (qa_nm (qv 3) (qa_nm (qv 4) qa_nil))))))))) (qb_one (qs_ret qe_bl)) qb_nil)
    (qb_cons (qs_if (qt_not (qt_val (qe_call GA hr1 rfl cA.name cA.keep cA.bind .nil pass0 (qa_nm (qv 15) (qa_call (qe_call GT hr1 rfl cT.name cT.keep cT.bind .nil pass0 (qa_nm (qv 3) (qa_nm (qv 11) qa_nil))) (qa_call (qe_call GT hr1 rfl cT.name cT.keep cT.bind .nil pass0 (qa_nm (qv 4) (qa_nm (qv 11) qa_nil))) qa_nil)))))) (qb_one (qs_ret qe_bl)) qb_nil)
    (qb_cons (qs_set (i := 16) nd rfl (Or.inl rfl) (qe_slice sl_list (qe_op op_cat (qv 3) (qe_op op_rep (qe_lst (qa_tp (qa_str (qa_str (qa_str qa_nil))) qa_nil)) qe_int)) qo_none (qo_some (qe_op op_add qe_int (qe_op op_mod (qe_op op_fdiv (qe_call GC hr1 rfl cC.name cC.keep cC.bind .nil pass0 (qa_nm (qv 0) (qa_int qa_nil))) qe_int) qe_int)))))
    (qb_cons (qs_if (QW.qt (qw_or (qt_not (qt_val (qe_call GS hr3 rfl cS.name cS.keep cS.bind .nil pass0 (qa_nm (qv 6) (qa_nm (qv 3) (qa_nm (qv 4) (qa_nm (qv 11) qa_nil)))))))
        (qw_or1 (qt_cmpR (op_neD hu) (qe_call GO hr1 rfl cO.name cO.keep cO.bind .nil pass0 (qa_tp (qa_nm (qv 16) (qa_nm (qv 4) qa_nil)) qa_nil)) (qv 10) (nomark _))))) (qb_one (qs_ret qe_bl)) qb_nil)
    (qb_one (qs_ret (qe_call GA hr1 rfl cA.name cA.keep cA.bind .nil pass0 (qa_call (qe_call GE hr2 rfl cE.name cE.keep cE.bind .nil pass0 (qa_tp (qa_nm (qv 16) (qa_nm (qv 4) qa_nil)) (qa_nm (qv 11) qa_nil)))
      (qa_call (qe_call GT hr1 rfl cT.name cT.keep cT.bind .nil pass0 (qa_nm (qv 16) (qa_nm (qv 11) qa_nil))) (qa_call (qe_call GT hr1 rfl cT.name cT.keep cT.bind .nil pass0 (qa_nm (qv 4) (qa_nm (qv 11) qa_nil))) qa_nil))))))))))))))))))))))), ?_⟩
  -- the names
  refine ⟨_, rfl, a, ns, 0, rfl, hS, _, rfl, fun p xs H1 e1 hp0 hp1 hl8 hnm => ?_⟩
  obtain ⟨n, hn1, hn8, en⟩ : ∃ n : Nat, 1 ≤ n ∧ n ≤ 8 ∧ 1 + cellAt ns 1 % 8 = (n : Int) := by
    have h0 := Int.emod_nonneg (cellAt ns 1) (show (8 : Int) ≠ 0 by decide)
    have h1 := Int.emod_lt_of_pos (cellAt ns 1) (show (0 : Int) < 8 by decide)
    exact ⟨(1 + cellAt ns 1 % 8).toNat, by omega, by omega, by omega⟩
  refine ⟨_, rfl, a, ns, 1, rfl, e1.seq hS, _, _, rfl, rfl, (show (0 : Int) < 8 by decide), _, _, rfl, rfl, _, rfl, p, _, rfl, SqL.of hp1, fun l hl => ?_⟩
  have ec : cutV (xs.map V.str) none (some (1 + cellAt ns 1 % 8)) = (xs.take n).map V.str := by rw [en]; exact cut_take xs n (by omega)
  rw [ec]
  generalize hys : xs.take n = ys
  have hylen : ys.length ≤ 8 := by rw [← hys, List.length_take]; omega
  have hyne : ys ≠ [] := fun z => by
    have : (xs.take n).length = 0 := by rw [hys, z]; rfl
    rw [List.length_take] at this; omega
  have hynm : ∀ y ∈ ys, isName y = true := fun y hy => hnm y (List.mem_of_mem_take (hys ▸ hy))
  have sa := same_new hl (.lst (ys.map V.str))
  obtain ⟨ms, em⟩ := cut_ints ns (some 2) none
  refine ⟨_, rfl, _, rfl, a, _, rfl, sa.seq (e1.seq hS), fun c hc => ?_⟩
  rw [em]
  have sb := same_new hc (.lst (ms.map V.int))
  refine ⟨_, rfl, c, l, ms, ys, rfl, SqL.of upd_same, SqL.of (sb _ _ upd_same), ⟨hyne, hylen⟩, hynm, fun t ra fa pa rows fs ps H2 e2 ht hR hF hP lf lp of op rok => ?_⟩
  have hNl : H2 l = some (.lst (ys.map V.str)) := e2 _ _ (sb _ _ upd_same)
  have hS2 : SqL K H2 a (ns.map V.int) := e2.seq (sb.seq (sa.seq (e1.seq hS)))
  clear hc sb e2
  have fineF : RowsFine fs := rows_fine hynm (by omega) fun r hr' => .inl (of r hr')
  have fineP : RowsFine ps := rows_fine hynm (by omega) fun r hr' => .inr (op r hr')
  have hrow : ∀ r ∈ fs ++ ps, FactOf ys r ∨ PartOf ys r := fun r hr' => by
    rcases List.mem_append.mp hr' with h | h
    · exact .inl (of r h)
    · exact .inr (op r h)
  have hok : ∀ r ∈ fs ++ ps, ∀ y ∈ r, Ok y := fun r hr' y hy => ((row_good hynm (hrow r hr')).2.2 y hy).2
  have hmid : ∀ r ∈ fs ++ ps, Mid r := fun r hr' => row_mid (hrow r hr')
  have hne : ∀ r ∈ fs ++ ps, r ≠ [] := fun r hr' z => by have := (hmid r hr').1; rw [z] at this; simp at this
  have good : Good fs ps := ⟨fineF.short, fineP.short, hmid, hok, fun ss h1 h2 => few_names hylen hrow h1 h2⟩
  have hyes : isTelling [fs, ps] = true := tell_yes hynm hylen lf lp of op
  have hrl : rows.length ≤ 14 := by have := rok.len; omega
  refine ⟨t, _, rfl, ht, rfl, .ref ra, _, rfl, .ref fa, _, rfl, .ref pa, _, rfl, rfl, ?_⟩
  -- the text
  refine ⟨ra, rows, rfl, rfl, hR, fun x hx => ⟨(row_text hynm (rok.text x hx)).2.2.2.2, (row_text hynm (rok.text x hx)).2.1⟩, hrl, fun H3 e3 => ?_⟩
  have hpc := pieces_rows hynm rok
  have eF : readFacts (pieces (textOf rows)) = fs := by rw [hpc]; exact rok.facts
  have eP : readParts (pieces (textOf rows)) = ps := by rw [hpc]; exact rok.parts
  refine ⟨_, rfl, textOf rows, rfl, text_len hynm rok hrl, ?_, ?_, ?_, fun _ tf fa5 pa5 H4 N4 => ?_, fun z => by rw [eF, eP, hyes] at z; cases z⟩
  · rw [hpc]; exact fun x hx => Nat.le_trans (row_text hynm (rok.text x hx)).2.1 (by decide)
  · rw [hpc]; omega
  · rw [hpc]; exact fun x hx => ⟨(row_text hynm (rok.text x hx)).2.2.1, (row_text hynm (rok.text x hx)).2.2.2.1⟩
  rw [eF, eP] at N4
  have e4 := e3.trans N4.same
  have TF := N4.tell
  have hF4 := hF.same e4
  have hP4 := hP.same e4
  have hN4 : H4 l = some (.lst (ys.map V.str)) := e4 _ _ hNl
  have hS4 := e4.seq hS2
  clear N4 e4 e3 hF hP hNl hS2 hR ht
  refine ⟨_, rfl, _, rfl, _, rfl, tf, fa, pa, fs, ps, rfl, TF, hF4, hP4, fineF.short, fineP.short, hok, fun H5 e5 => ⟨_, rfl, iteF ?_⟩⟩
  -- the words that are there
  refine fun td htd => ?_
  have s6 := same_new htd (.dK (dtb []))
  have u5 := e5.trans s6
  obtain ⟨fas, f1, f2⟩ := id hF4
  obtain ⟨pas, p1, p2⟩ := id hP4
  have fl : fas.length = fs.length := Paired.length f2
  have pl : pas.length = ps.length := Paired.length p2
  refine ⟨_, rfl, _, rfl, fa, pa, _, _, rfl, rfl, u5 _ _ f1, u5 _ _ p1, ?_, fun cl hcl => ?_⟩
  · rw [List.length_map, List.length_map]; exact Nat.le_of_lt (small1000 (by omega))
  rw [← List.map_append]
  have htcl : td ≠ cl := ne_of_none upd_same hcl
  have s7 := same_new hcl (.lst ((fas ++ pas).map V.ref))
  refine ⟨cl, rfl, ⟨_, SqL.of upd_same⟩, ?_⟩
  have pr : Paired (fun b r => RowAt K H4 b r) (fas ++ pas) (fs ++ ps) := Paired.app f2 p2
  have pl2 : (fas ++ pas).length = (fs ++ ps).length := Paired.length pr
  have wmem : ∀ (rs : List (List Str)) (r : List Str) (y : Str), y ∈ words (rs ++ [r]) ↔ y ∈ words rs ∨ (y ∈ r.drop 1 ∧ ¬ y ∈ Mir.noNames) := fun rs r y => by
    rw [words_snoc, List.mem_append]
    unfold rowWords
    rw [List.mem_filter]
    simp
  refine for_list (xs := (fas ++ pas).map V.ref) (fun i σ H' => Same H5 H' ∧ H' cl = some (.lst ((fas ++ pas).map V.ref)) ∧ ∃ ks z8 z9, H' td = some (.dK (dtb ks)) ∧ ks.Nodup ∧ ks.length ≤ 4 * i ∧ (∀ y, y ∈ ks ↔ y ∈ words ((fs ++ ps).take i)) ∧
      σ = [some (.ref a), some (.ref l), some (.ref ra), some (.ref fa), some (.ref pa), some (.str (textOf rows)), some (.ref tf), some (.ref td), z8, z9, none, none, none, none, none, none, none])
    ⟨s6.trans s7, upd_same, [], none, none, s7 _ _ upd_same, List.nodup_nil, by simp, fun y => by simp [words], rfl⟩ (fun i σ H' _ p => SqL.of p.2.1) ?_ ?_
  · rintro i v σ H' hi ⟨e, hC, ks, z8, z9, hK, hkn, hkl, hkm, rfl⟩
    obtain ⟨b, hb, rfl⟩ := ref_at hi
    obtain ⟨r, hr1', hr2'⟩ := Paired.nth pr hb
    have hrm : r ∈ fs ++ ps := List.mem_of_getElem? hr1'
    have h2 := (hmid r hrm).1
    have h5 := (row_good hynm (hrow r hrm)).1
    have hi14 : i < 14 := by
      have := (List.getElem?_eq_some_iff.mp hr1').1
      rw [List.length_append] at this; omega
    have hrw : RowAt K H' b r := hr2'.same (e5.trans e)
    have ht1 : (fs ++ ps).take (i + 1) = (fs ++ ps).take i ++ [r] := by rw [List.take_add_one, hr1']; rfl
    refine ⟨_, rfl, _, rfl, b, _, rfl, hrw, ?_, fun sl hsl => ?_⟩
    · rw [List.length_map, show (some (1 : Int)) = some ((1 : Nat) : Int) from rfl, HT.sIx_nat, Nat.min_eq_left (by omega)]; omega
    have e2' : cutV (r.map V.str) (some 1) none = (r.drop 1).map V.str := cut_row (k := 1)
    rw [e2']
    have hst : sl ≠ td := fun z => by rw [z, hK] at hsl; cases hsl
    have s8 := same_new hsl (.tup ((r.drop 1).map V.str))
    refine ⟨sl, rfl, ⟨_, SqT.of upd_same⟩, ?_⟩
    refine for_tup (xs := (r.drop 1).map V.str) (fun j σ H2 => Same H5 H2 ∧ H2 cl = some (.lst ((fas ++ pas).map V.ref)) ∧ H2 sl = some (.tup ((r.drop 1).map V.str)) ∧ ∃ ks2 z9, H2 td = some (.dK (dtb ks2)) ∧ ks2.Nodup ∧ ks2.length ≤ 4 * i + j ∧ (∀ y, y ∈ ks2 ↔ y ∈ words ((fs ++ ps).take i) ∨ (y ∈ (r.drop 1).take j ∧ ¬ y ∈ Mir.noNames)) ∧
        σ = [some (.ref a), some (.ref l), some (.ref ra), some (.ref fa), some (.ref pa), some (.str (textOf rows)), some (.ref tf), some (.ref td), some (.ref b), z9, none, none, none, none, none, none, none])
      ⟨e.trans s8, s8 _ _ hC, upd_same, ks, z9, s8 _ _ hK, hkn, by omega, fun y => by rw [hkm y]; simp, rfl⟩ (fun j σ H2 _ p => SqT.of p.2.2.1) ?_ ?_
    · rintro j v σ H2 hj ⟨e3, hC3, hS3, ks2, z9, hK2, hk2n, hk2l, hk2m, rfl⟩
      rw [List.getElem?_map] at hj
      cases hx : (r.drop 1)[j]? with
      | none => rw [hx] at hj; cases hj
      | some x =>
        rw [hx] at hj
        have hv : v = .str x := (Option.some.inj hj).symm
        subst hv
        have hj4 : j < 4 := by
          have := (List.getElem?_eq_some_iff.mp hx).1
          rw [List.length_drop] at this; omega
        have htj : (r.drop 1).take (j + 1) = (r.drop 1).take j ++ [x] := by rw [List.take_add_one, hx]; rfl
        have hfw := field_word hynm (row_fields (hrow r hrm) x (List.mem_of_getElem? hx))
        refine ⟨_, rfl, (show 2 ≤ sizeLine by decide), fun tp htp => ?_⟩
        have s9 := same_new htp (.tup ((([("nil" : Str), "any"] : List Str)).map V.str))
        have hK3 := s9 _ _ hK2
        have hcd : td ≠ cl := fun z => by rw [z, hC3] at hK2; cases hK2
        refine ⟨tp, _, rfl, .inr (SqT.of upd_same), rfl, flat_strs [("nil" : Str), "any"], _, rfl, iteB (fun c => ?_) (fun c => ?_)⟩
        · have c' : inV (.str x) ((([("nil" : Str), "any"] : List Str)).map V.str) = false := by simpa using c
          rw [inV_strs, decide_eq_false_iff_not, hfw] at c'
          refine ⟨_, rfl, _, rfl, td, _, rfl, DPut.k (k := Sum.inr x) hK3 ?_, ?_⟩
          · unfold dtb; rw [List.length_map]; exact Nat.lt_of_le_of_lt (show ks2.length ≤ 100 by omega) (by decide)
          rw [putK_dtb]
          refine ⟨same_put htd (e3.trans s9) _, ?_, ?_, putB ks2 x, _, upd_same, putB_nodup hk2n, ?_, fun y => ?_, rfl⟩
          · rw [upd_ne (Ne.symm hcd)]; exact s9 _ _ hC3
          · rw [upd_ne hst]; exact s9 _ _ hS3
          · have : (putB ks2 x).length ≤ ks2.length + 1 := by
              unfold putB; split
              · omega
              · rw [List.length_append, List.length_singleton]; omega
            omega
          · rw [putB_mem, hk2m y, htj]
            simp only [List.mem_append, List.mem_singleton]
            constructor
            · rintro ((h | h) | h)
              · exact .inl h
              · exact .inr ⟨.inl h.1, h.2⟩
              · exact .inr ⟨.inr h, by rw [h]; exact c'⟩
            · rintro (h | ⟨h | h, h2⟩)
              · exact .inl (.inl h)
              · exact .inl (.inr ⟨h, h2⟩)
              · exact .inr h
        · have c' : inV (.str x) ((([("nil" : Str), "any"] : List Str)).map V.str) = true := by simpa using c
          rw [inV_strs, decide_eq_true_eq, hfw] at c'
          refine ⟨e3.trans s9, s9 _ _ hC3, s9 _ _ hS3, ks2, _, hK3, hk2n, by omega, fun y => ?_, rfl⟩
          rw [hk2m y, htj]
          simp only [List.mem_append, List.mem_singleton]
          constructor
          · rintro (h | h)
            · exact .inl h
            · exact .inr ⟨.inl h.1, h.2⟩
          · rintro (h | ⟨h | h, h2⟩)
            · exact .inl h
            · exact .inr ⟨h, h2⟩
            · exact absurd c' (h ▸ h2)
    · rintro σ H2 ⟨e3, hC3, hS3, ks2, z9, hK2, hk2n, hk2l, hk2m, rfl⟩
      rw [List.length_map, List.take_length] at hk2m
      rw [List.length_map, List.length_drop] at hk2l
      refine ⟨e3, hC3, ks2, _, _, hK2, hk2n, by omega, fun y => ?_, rfl⟩
      rw [hk2m y, ht1, wmem]
  rintro σ H6 ⟨e6, hC6, ks, z8, z9, hK6, hkn, hkl, hkm, rfl⟩
  rw [List.length_map, pl2] at hkl hkm
  rw [List.take_length] at hkm
  rw [List.length_append] at hkl
  have hk64 : ks.length < 64 := Nat.lt_of_le_of_lt (few_names hylen hrow hkn fun y hy => (hkm y).mp hy) (by decide)
  have u6 := e5.trans e6
  have TF6 := TF.same u6
  -- the names of it
  refine ⟨_, rfl, tf, fs, ps, rfl, TF6, fineF.short, fineP.short, hne, fun ss h1 h2 => Nat.lt_of_le_of_lt (few_names hylen hrow h1 h2) (by decide), fun to zs H7 hto e7 hz7 hznd hzm hzs => ?_⟩
  have hzok : ∀ y ∈ zs, Ok y := fun y hy => by
    obtain ⟨r, hr', hy', hn'⟩ := mem_words.mp ((hzm y).mp hy)
    exact ok_name (hynm y (in_names (row_fields (hrow r hr') y hy') hn'))
  refine ⟨_, rfl, to, _, rfl, SqL.of hz7, _, rfl, iteF ?_⟩
  refine ⟨_, rfl, _, rfl, td, _, rfl, e7 _ _ hK6, fun lk' hlk => ?_⟩
  have ekey : (dtb ks).map (fun kv => kV kv.1) = ks.map V.str := by
    unfold dtb; rw [List.map_map]; rfl
  rw [ekey]
  have s8 := same_new hlk (.lst (ks.map V.str))
  refine ⟨lk', ks, rfl, SqL.of upd_same, hk64, fun so zs2 hso hper hsort => ?_⟩
  have s9 := same_new hso (.lst (zs2.map V.str))
  have ezz : zs = zs2 := same_names (ws := []) (ws' := []) hzs hsort hznd (hper.nodup_iff.mpr hkn) fun y => by rw [hzm y, hper.mem_iff, hkm y]
  subst ezz
  have u8 := s8.trans s9
  have okz := eqOk_strs hzok
  refine ⟨.list (dStrs zs), .list (dStrs zs), .lst (SqL.of (u8 _ _ hz7)) (dp_strs zs), .lst (SqL.of upd_same) (dp_strs zs), okz, okz, _, rfl, iteN (SeqAt.eqv_refl _ okz.1) ?_⟩
  have u9 := (u6.trans e7).trans u8
  refine ⟨_, rfl, _, rfl, _, rfl, tf, fa, pa, fs, ps, rfl, TF.same u9, hF4.same u9, hP4.same u9, fineF.short, fineP.short, hok, fun H8 e8 => ⟨_, rfl, iteF ?_⟩⟩
  have v8 := u9.trans e8
  have hz8 : H8 to = some (.lst (zs.map V.str)) := e8 _ _ (u8 _ _ hz7)
  have hN8 : H8 l = some (.lst (ys.map V.str)) := v8 _ _ hN4
  have hS8 := v8.seq hS4
  have TF8 := TF.same v8
  have hF8 := hF4.same v8
  have hP8 := hP4.same v8
  clear hcl hC6 hK6 hz7 hto hlk hso u8 u9 u6 e7 e8 s8 s9 v8 e6 hS4 hN4 TF6 TF hF4 hP4 u5 s6 s7 f1 f2 p1 p2 pr e5
  -- other names
  refine fun od hod => ?_
  have s10 := same_new hod (.dK (dt []))
  refine ⟨_, rfl, l, _, rfl, .inl (SqL.of (s10 _ _ hN8)), _, rfl, (by rw [List.length_map]; omega), (by rw [List.length_map]; omega), ?_⟩
  refine for_range (lo := 0) (n := (((ys.map V.str).length : Nat) : Int).toNat) (fun k σ H' => Same H8 H' ∧ ∃ m z12 z13, H' od = some (.dK (dt m)) ∧ m.length ≤ k ∧ MapOk m ∧
      σ = [some (.ref a), some (.ref l), some (.ref ra), some (.ref fa), some (.ref pa), some (.str (textOf rows)), some (.ref tf), some (.ref td), z8, z9, some (.ref to), some (.ref od), z12, z13, none, none, none])
    ⟨s10, [], none, none, upd_same, by simp, fun p hp => by simp at hp, rfl⟩ ?_ ?_
  · rintro k σ H' hk ⟨e, m, z12, z13, hO, hml, hmo, rfl⟩
    have hk8 : k < ys.length := by rw [List.length_map] at hk; omega
    refine ⟨_, rfl, a, ns, 0, rfl, e.seq hS8, _, rfl, _, _, rfl, rfl, _, _, rfl, rfl, (show CDiv _ (0 + (k : Int) + 5) from ⟨by omega, by omega⟩), _, _, rfl, rfl, (show (0 : Int) < 4 by decide), ?_⟩
    have g0 := Int.emod_nonneg (cellAt ns 0 / (0 + (k : Int) + 5)) (show (4 : Int) ≠ 0 by decide)
    have g4 := Int.emod_lt_of_pos (cellAt ns 0 / (0 + (k : Int) + 5)) (show (0 : Int) < 4 by decide)
    refine ⟨_, rfl, _, _, rfl, rfl, _, rfl, iteB (fun c => ?_) (fun c => ?_)⟩
    · have c' : 0 < cellAt ns 0 / (0 + (k : Int) + 5) % 4 := of_decide_eq_true c
      have hy0 : 0 < ys.length := by omega
      obtain ⟨va, hva, hvm⟩ := at_mod (xs := ys.map V.str) (m := ((ys.map V.str).length : Int)) (i := 0 + (k : Int) + cellAt ns 0 / (0 + (k : Int) + 5) % 4) rfl (by rw [List.length_map]; omega)
      obtain ⟨ya, hya, rfl⟩ := List.mem_map.mp hvm
      have hN' := e _ _ hN8
      refine ⟨_, rfl, _, rfl, _, rfl, _, _, rfl, rfl, _, rfl, l, _, rfl, .inl (SqL.of hN'), _, _, rfl, rfl, (show (0 : Int) < ((ys.map V.str).length : Int) by rw [List.length_map]; omega), l, _, _, .str ya, rfl, rfl, SqL.of hN', hva, ?_⟩
      have hk8' : k ∈ List.range 8 := List.mem_range.mpr (by omega)
      refine ⟨_, rfl, _, rfl, ?_, _, _, rfl, rfl, (nk_facts k hk8').1, (show 3 ≤ sizeLine by decide), fun l3 hl3 => ?_⟩
      · exact Nat.lt_of_le_of_lt (Nat.log2_le_self _) (by omega)
      have s11 := same_new hl3 (.lst [.str ya, .str "nil", .str (nk k)])
      obtain ⟨vv, hvv, hvc⟩ := pick3 (a := V.str ya) (b := V.str "nil") (c := V.str (nk k)) c' g4
      obtain ⟨yv, rfl, hyv⟩ : ∃ yv : Str, vv = .str yv ∧ (yv = ya ∨ yv = "nil" ∨ yv = nk k) := by
        rcases hvc with h | h | h
        · exact ⟨_, h, .inl rfl⟩
        · exact ⟨_, h, .inr (.inl rfl)⟩
        · exact ⟨_, h, .inr (.inr rfl)⟩
      refine ⟨_, rfl, _, _, rfl, rfl, l3, _, _, .str yv, rfl, rfl, SqL.of upd_same, hvv, ?_⟩
      have hk1 : (ys.map V.str)[k]? = some (.str ys[k]) := by rw [List.getElem?_map, List.getElem?_eq_getElem hk8]; rfl
      refine ⟨_, rfl, _, rfl, _, rfl, l, _, _, .str ys[k], rfl, rfl, SqL.of (s11 _ _ hN'), (by rw [Int.zero_add]; exact atI_nat hk1), od, _, rfl, DPut.k (k := Sum.inr ys[k]) (s11 _ _ hO) ?_, ?_⟩
      · unfold dt; rw [List.length_map]; exact Nat.lt_of_le_of_lt (show m.length ≤ 8 by omega) (by decide)
      rw [putK_dt]
      refine ⟨same_put hod (e.trans s11) _, _, _, _, upd_same, ?_, fun p hp => ?_, rfl⟩
      · have := putS_len m ys[k] yv; omega
      · rcases putS_mem hp with h | h
        · exact hmo p h
        · rw [h]
          refine ⟨hynm _ (List.getElem_mem hk8), ?_⟩
          rcases hyv with rfl | rfl | rfl
          · exact ⟨name_short (hynm _ hya), ok_name (hynm _ hya)⟩
          · exact ok_consts _ (by simp)
          · exact ⟨name_short (nk_facts k hk8').2, ok_name (nk_facts k hk8').2⟩
    · exact ⟨e, m, _, _, hO, by omega, hmo, rfl⟩
  rintro σ H9 ⟨e9, m, z12, z13, hO9, hml, hmo, rfl⟩
  -- the same with other names
  refine ⟨_, rfl, od, _, rfl, hO9, fun kp hkp => ?_⟩
  have s12 := same_new hkp (.dK (dt m))
  have v12 := e9.trans s12
  have lfM : ∀ r ∈ fs, Mid r := fineF.mid
  refine ⟨_, rfl, _, rfl, tf, od, fs, ps, m, rfl, TF8.same v12, by omega, by omega, hmid, s12 _ _ hO9, fun ag fag pag H10 N10 => ?_⟩
  have w10 := s12.trans N10.same
  refine ⟨_, rfl, _, rfl, od, kp, _, rfl, rfl, w10 _ _ hO9, N10.same _ _ upd_same, dt_self m, _, rfl, iteF ?_⟩
  have v10 := v12.trans N10.same
  refine ⟨_, rfl, _, rfl, _, rfl, tf, fa, pa, fs, ps, rfl, TF8.same v10, hF8.same v10, hP8.same v10, fineF.short, fineP.short, hok, fun H11 e11 => ⟨_, rfl, iteF ?_⟩⟩
  have eRF : fs.map (renRow m) = fs.map (turnRow m) := List.map_congr_left fun r _ => ren_turn hmo r
  have eRP : ps.map (renRow m) = ps.map (turnRow m) := List.map_congr_left fun r _ => ren_turn hmo r
  have TA10 := N10.tell
  rw [eRF, eRP] at TA10
  have v11 := v10.trans e11
  have hO11 := e11 _ _ (w10 _ _ hO9)
  refine ⟨_, rfl, _, rfl, _, rfl, fa, od, fs, m, rfl, hF8.same v11, by omega, fineF.mid, hO11, fun lF H12 e12 hlF => ?_⟩
  refine ⟨_, rfl, _, rfl, pa, od, ps, m, rfl, hP8.same (v11.trans e12), by omega, fineP.mid, e12 _ _ hO11, fun lP H13 e13 hlP => ?_⟩
  have tF := fineF.turned hmo
  have tP := fineP.turned hmo
  have hokT : ∀ r ∈ fs.map (turnRow m) ++ ps.map (turnRow m), ∀ y ∈ r, Ok y := fun r hr' => by
    rcases List.mem_append.mp hr' with h | h
    · exact tF.ok r h
    · exact tP.ok r h
  refine ⟨ag, lF, lP, _, _, rfl, TA10.same (e11.trans (e12.trans e13)), hlF.same e13, hlP, tF.short, tP.short, hokT, fun H14 e14 => ⟨_, rfl, iteF ?_⟩⟩
  have v14 := v11.trans (e12.trans (e13.trans e14))
  have hO14 := e14 _ _ (e13 _ _ (e12 _ _ hO11))
  have hz14 : H14 to = some (.lst (zs.map V.str)) := v14 _ _ hz8
  have hS14 := v14.seq hS8
  have TF14 := TF8.same v14
  have hF14 := hF8.same v14
  have hP14 := hP8.same v14
  clear v14 v11 v10 v12 w10 e11 e12 e13 e14 hO11 hlF hlP TA10 N10 s12 hkp hO9 e9 hS8 hN8 hz8 TF8 hF8 hP8
  -- more facts
  obtain ⟨fas, f1, f2⟩ := id hF14
  have fl : fas.length = fs.length := Paired.length f2
  refine ⟨_, rfl, (show 3 ≤ sizeLine by decide), fun tn htn => ⟨(show 1 ≤ sizeLine by decide), fun l1 hl1 => ?_⟩⟩
  have s15 := same_new htn (.tup (nilRow.map V.str))
  have s16 := same_new hl1 (.lst [.ref tn])
  refine ⟨l1, 40, _, rfl, rfl, upd_same, by decide, by decide, (show 1 * 40 ≤ sizeLine by decide), fun l2 hl2 => ?_⟩
  have erep : (List.replicate (40 : Int).toNat [V.ref tn]).flatten = (List.replicate 40 tn).map V.ref := by
    rw [show (40 : Int).toNat = 40 from rfl, rep_one, List.map_replicate]
  rw [erep]
  have s17 := same_new hl2 (.lst ((List.replicate 40 tn).map V.ref))
  have u17 := s15.trans (s16.trans s17)
  refine ⟨fa, l2, _, _, rfl, rfl, u17 _ _ f1, upd_same, ?_, fun l3 hl3 => ?_⟩
  · rw [List.length_map, List.length_map, List.length_replicate]; exact Nat.le_of_lt (small1000 (by omega))
  rw [← List.map_append]
  have s18 := same_new hl3 (.lst ((fas ++ List.replicate 40 tn).map V.ref))
  have u18 := u17.trans s18
  refine ⟨_, rfl, a, ns, 1, rfl, u18.seq hS14, _, _, rfl, rfl, (show CDiv _ 8 from ⟨by decide, by decide⟩), _, _, rfl, rfl, (show (0 : Int) < 32 by decide), _, _, rfl, rfl, _, rfl, l3, _, rfl, SqL.of upd_same, fun mn hmn => ?_⟩
  obtain ⟨nn, hn9, hn40, enn⟩ : ∃ nn : Nat, 9 ≤ nn ∧ nn ≤ 40 ∧ 9 + cellAt ns 1 / 8 % 32 = (nn : Int) := by
    have h0 := Int.emod_nonneg (cellAt ns 1 / 8) (show (32 : Int) ≠ 0 by decide)
    have h1 := Int.emod_lt_of_pos (cellAt ns 1 / 8) (show (0 : Int) < 32 by decide)
    exact ⟨(9 + cellAt ns 1 / 8 % 32).toNat, by omega, by omega, by omega⟩
  rw [enn, cut_V, ← List.map_take]
  have s19 := same_new hmn (.lst (((fas ++ List.replicate 40 tn).take nn).map V.ref))
  have u19 := u18.trans s19
  have hMn : RowsAt K (upd (upd (upd (upd (upd H14 tn (.tup (nilRow.map V.str))) l1 (.lst [.ref tn])) l2 (.lst ((List.replicate 40 tn).map V.ref))) l3 (.lst ((fas ++ List.replicate 40 tn).map V.ref))) mn (.lst (((fas ++ List.replicate 40 tn).take nn).map V.ref))) mn ((fs ++ List.replicate 40 nilRow).take nn) := by
    refine ⟨_, upd_same, paired_take nn (Paired.app (Paired.mapP f2 fun b r z => z.same u19) (paired_rep ?_ 40))⟩
    exact SqT.of (s19 _ _ (s18 _ _ (s17 _ _ (s16 _ _ upd_same))))
  have hz19 := u19 _ _ hz14
  have hO19 := u19 _ _ hO14
  have TF19 := TF14.same u19
  have hF19 := hF14.same u19
  have hP19 := hP14.same u19
  have hmw := many_words (fs := fs) (ps := ps) (n := nn) (by omega)
  generalize hFM : (fs ++ List.replicate 40 nilRow).take nn = mf at hMn hmw
  have hmfl : mf.length ≤ 40 := by rw [← hFM, List.length_take]; omega
  have hmf : ∀ r ∈ mf, FactOf ys r ∨ PartOf ys r := fun r hr' => by
    rw [← hFM] at hr'
    rcases List.mem_append.mp (List.mem_of_mem_take hr') with h | h
    · exact .inl (of r h)
    · rw [List.eq_of_mem_replicate h]; exact .inl nil_fact
  have fineM : RowsFine mf := rows_fine hynm (by omega) hmf
  have hrowM : ∀ r ∈ mf ++ ps, FactOf ys r ∨ PartOf ys r := fun r hr' => by
    rcases List.mem_append.mp hr' with h | h
    · exact hmf r h
    · exact .inr (op r h)
  have hmidM : ∀ r ∈ mf ++ ps, Mid r := fun r hr' => row_mid (hrowM r hr')
  refine ⟨_, rfl, _, rfl, _, rfl, _, rfl, tf, fa, pa, od, fs, ps, m, rfl, TF19, hF19, hP19, good, hO19, fun H16 e16 => ⟨_, rfl, iteF ?_⟩⟩
  refine ⟨_, rfl, _, rfl, (show 2 ≤ sizeLine by decide), fun t2 ht2 => ?_⟩
  have s20 := same_new ht2 (.tup [.ref mn, .ref pa])
  have v20 := e16.trans s20
  have TM : TellAt K (upd H16 t2 (.tup [.ref mn, .ref pa])) t2 [mf, ps] := ⟨[mn, pa], SqT.of upd_same, .cons (hMn.same v20) (.cons (hP19.same v20) .nil)⟩
  refine ⟨t2, mf, ps, rfl, TM, fineM.short, fineP.short, fun r hr' z => by have := (hmidM r hr').1; rw [z] at this; simp at this, fun ss h1 h2 => Nat.lt_of_le_of_lt (few_names hylen hrowM h1 h2) (by decide), fun to2 zs2 H17 hto2 e17 hz17 hz2nd hz2m hz2s => ?_⟩
  have ezz : zs2 = zs := same_names (ws := []) (ws' := []) hz2s hzs hz2nd hznd fun y => by rw [hz2m y, hmw y, hzm y]
  subst ezz
  refine ⟨_, rfl, .list (dStrs zs2), .list (dStrs zs2), .lst (SqL.of hz17) (dp_strs zs2), .lst (SqL.of (e17 _ _ (v20 _ _ hz19))) (dp_strs zs2), okz, okz, _, rfl, iteN (SeqAt.eqv_refl _ okz.1) ?_⟩
  have v21 := v20.trans e17
  -- the last
  refine ⟨_, rfl, _, rfl, (show 2 ≤ sizeLine by decide), fun t3 ht3 => ?_⟩
  have s22 := same_new ht3 (.tup [.ref mn, .ref pa])
  have v22 := v21.trans s22
  have TM3 : TellAt K (upd H17 t3 (.tup [.ref mn, .ref pa])) t3 [mf, ps] := ⟨[mn, pa], SqT.of upd_same, .cons (hMn.same v22) (.cons (hP19.same v22) .nil)⟩
  refine ⟨_, rfl, t3, od, mf, ps, m, rfl, TM3, by omega, by omega, hmidM, v22 _ _ hO19, fun t4 fa4 pa4 H18 N18 => ?_⟩
  have v18 := v22.trans N18.same
  have hO18 := v18 _ _ hO19
  have eRM : mf.map (renRow m) = mf.map (turnRow m) := List.map_congr_left fun r _ => ren_turn hmo r
  have TA18 := N18.tell
  rw [eRM, eRP] at TA18
  refine ⟨_, rfl, _, rfl, mn, od, mf, m, rfl, hMn.same v18, by omega, fineM.mid, hO18, fun lM H19 e19 hlM => ?_⟩
  refine ⟨_, rfl, _, rfl, pa, od, ps, m, rfl, hP19.same (v18.trans e19), by omega, fineP.mid, e19 _ _ hO18, fun lP2 H20 e20 hlP2 => ?_⟩
  have tM := fineM.turned hmo
  refine ⟨t4, lM, lP2, _, _, rfl, TA18.same (e19.trans e20), hlM.same e20, hlP2, tM.short, tP.short, fun r hr' => ?_, fun H21 _ => q H21⟩
  rcases List.mem_append.mp hr' with h | h
  · exact tM.ok r h
  · exact tP.ok r h
end
end K3

set_option Elab.async false
set_option linter.all false
set_option maxRecDepth 100000
set_option maxHeartbeats 4000000
namespace K3
open PySem PySem.Spec L2 Mir
/-- a text that the module names -/
theorem glob_str {K : PySem.W.Frag} {h : Heap} {mg : Str → Option Value} {x y z : Str} {t : Tok} (X : K.In h) (G : h.Ns mainGlobals mg) (e : PySem.W.nsIn K mainGlobals x = some (some (.str y t))) (hy : y = z) : Glob mg x (.str z) := ⟨_, PySem.W.mg_of X G e, t, by rw [hy]⟩
theorem glob_int {K : PySem.W.Frag} {h : Heap} {mg : Str → Option Value} {x : Str} {i j : Int} {t : Tok} (X : K.In h) (G : h.Ns mainGlobals mg) (e : PySem.W.nsIn K mainGlobals x = some (some (.int i t))) (hj : i = j) : Glob mg x (.int j) := ⟨_, PySem.W.mg_of X G e, t, by rw [hj]⟩
theorem glob_ref {K : PySem.W.Frag} {h : Heap} {mg : Str → Option Value} {x : Str} {a : Addr} (X : K.In h) (G : h.Ns mainGlobals mg) (e : PySem.W.nsIn K mainGlobals x = some (some (.ref a))) : Glob mg x (.ref a) := ⟨_, PySem.W.mg_of X G e, rfl⟩
theorem rel_find3 {es : Array DictEntry} {k1 k2 k3 : Str} {v1 v2 v3 : V} {t1 t2 t3 : Tok} {h1 h2 h3 : Int} {u1 u2 u3 : Value} (he : es.toList = [⟨h1, .str k1 t1, u1⟩, ⟨h2, .str k2 t2, u2⟩, ⟨h3, .str k3 t3, u3⟩]) (r1 : RelV v1 u1) (r2 : RelV v2 u2) (r3 : RelV v3 u3) (x : Str) :
    RelO (([(k1, v1), (k2, v2), (k3, v3)] : List (Str × V)).lookup x) (findBy Value.isStrOf es x) := by
  unfold findBy
  rw [← Array.find?_toList, he]
  have b : ∀ y t, Value.isStrOf x (.str y t) = (x == y) := fun y t => by
    show (y == x) = (x == y)
    exact Bool.eq_iff_iff.mpr ⟨fun z => beq_iff_eq.mpr (beq_iff_eq.mp z).symm, fun z => beq_iff_eq.mpr (beq_iff_eq.mp z).symm⟩
  simp only [List.find?_cons, b, List.lookup_cons]
  cases x == k1 with
  | true => exact r1
  | false =>
    cases x == k2 with
    | true => exact r2
    | false =>
      cases x == k3 with
      | true => exact r3
      | false => exact trivial

theorem all_mk {l : PySem.W.OpenLaw} {w : World} {K : PySem.W.Frag} {h : Heap} {mg : Str → Option Value} {fa f1 f2 f3 f4 f5 f6 f7 f8 f9 f10 f11 f12 f13 f14 f15 f16 f17 f18 f19 f20 f21 f22 f23 f24 f25 : Addr} (X : K.In h) (G : h.Ns mainGlobals mg) (hfa : mg "law" = some (.ref fa))
    {od1 an1 od2 an2 od3 an3 od4 an4 od5 an5 od6 an6 od7 an7 od8 an8 od9 an9 od10 an10 od11 an11 od12 an12 od13 an13 od14 an14 od15 an15 od16 an16 od17 an17 od18 an18 od19 an19 od20 an20 od21 an21 od22 an22 od23 an23 od24 an24 od25 an25 : Option Addr} {sl1 sl2 sl3 sl4 sl5 sl6 sl7 sl8 sl9 sl10 sl11 sl12 sl13 sl14 sl15 sl16 sl17 sl18 sl19 sl20 sl21 sl22 sl23 sl24 sl25 : Array (Option Value)} {oc1 kV1 dc1 pm1 cd1 ct1 oc2 kV2 dc2 pm2 cd2 ct2 oc3 kV3 dc3 pm3 cd3 ct3 oc4 kV4 dc4 pm4 cd4 ct4 oc5 kV5 dc5 pm5 cd5 ct5 oc6 kV6 dc6 pm6 cd6 ct6 oc7 kV7 dc7 pm7 cd7 ct7 oc8 kV8 dc8 pm8 cd8 ct8 oc9 kV9 dc9 pm9 cd9 ct9 oc10 kV10 dc10 pm10 cd10 ct10 oc11 kV11 dc11 pm11 cd11 ct11 oc12 kV12 dc12 pm12 cd12 ct12 oc13 kV13 dc13 pm13 cd13 ct13 oc14 kV14 dc14 pm14 cd14 ct14 oc15 kV15 dc15 pm15 cd15 ct15 oc16 kV16 dc16 pm16 cd16 ct16 oc17 kV17 dc17 pm17 cd17 ct17 oc18 kV18 dc18 pm18 cd18 ct18 oc19 kV19 dc19 pm19 cd19 ct19 oc20 kV20 dc20 pm20 cd20 ct20 oc21 kV21 dc21 pm21 cd21 ct21 oc22 kV22 dc22 pm22 cd22 ct22 oc23 kV23 dc23 pm23 cd23 ct23 oc24 kV24 dc24 pm24 cd24 ct24 oc25 kV25 dc25 pm25 cd25 ct25 : Value}
    (a1 : PySem.W.nsIn K mainGlobals "is_name" = some (some (.ref f1))) (l1 : K.lookup f1 = some ⟨oc1, od1, .func (PySem.W.fnOf "is_name" "is_name" (defArgs sIsName) (defBody sIsName) (defScope sIsName) .none kV1 dc1 pm1 an1 cd1 ct1), sl1⟩) (c1 : PySem.W.codeIn K cd1 "is_name" = true) (k1 : PySem.W.keepIn K (.ref f1) = true)
    (a2 : PySem.W.nsIn K mainGlobals "is_value" = some (some (.ref f2))) (l2 : K.lookup f2 = some ⟨oc2, od2, .func (PySem.W.fnOf "is_value" "is_value" (defArgs sIsValue) (defBody sIsValue) (defScope sIsValue) .none kV2 dc2 pm2 an2 cd2 ct2), sl2⟩) (c2 : PySem.W.codeIn K cd2 "is_value" = true) (k2 : PySem.W.keepIn K (.ref f2) = true)
    (a3 : PySem.W.nsIn K mainGlobals "is_fact" = some (some (.ref f3))) (l3 : K.lookup f3 = some ⟨oc3, od3, .func (PySem.W.fnOf "is_fact" "is_fact" (defArgs sIsFact) (defBody sIsFact) (defScope sIsFact) .none kV3 dc3 pm3 an3 cd3 ct3), sl3⟩) (c3 : PySem.W.codeIn K cd3 "is_fact" = true) (k3 : PySem.W.keepIn K (.ref f3) = true)
    (a4 : PySem.W.nsIn K mainGlobals "is_part" = some (some (.ref f4))) (l4 : K.lookup f4 = some ⟨oc4, od4, .func (PySem.W.fnOf "is_part" "is_part" (defArgs sIsPart) (defBody sIsPart) (defScope sIsPart) .none kV4 dc4 pm4 an4 cd4 ct4), sl4⟩) (c4 : PySem.W.codeIn K cd4 "is_part" = true) (k4 : PySem.W.keepIn K (.ref f4) = true)
    (a5 : PySem.W.nsIn K mainGlobals "are_rows" = some (some (.ref f5))) (l5 : K.lookup f5 = some ⟨oc5, od5, .func (PySem.W.fnOf "are_rows" "are_rows" (defArgs sAreRows) (defBody sAreRows) (defScope sAreRows) .none kV5 dc5 pm5 an5 cd5 ct5), sl5⟩) (c5 : PySem.W.codeIn K cd5 "are_rows" = true) (k5 : PySem.W.keepIn K (.ref f5) = true)
    (a6 : PySem.W.nsIn K mainGlobals "is_telling" = some (some (.ref f6))) (l6 : K.lookup f6 = some ⟨oc6, od6, .func (PySem.W.fnOf "is_telling" "is_telling" (defArgs sIsTelling) (defBody sIsTelling) (defScope sIsTelling) .none kV6 dc6 pm6 an6 cd6 ct6), sl6⟩) (c6 : PySem.W.codeIn K cd6 "is_telling" = true) (k6 : PySem.W.keepIn K (.ref f6) = true)
    (a7 : PySem.W.nsIn K mainGlobals "check_telling" = some (some (.ref f7))) (l7 : K.lookup f7 = some ⟨oc7, od7, .func (PySem.W.fnOf "check_telling" "check_telling" (defArgs sCheck) (defBody sCheck) (defScope sCheck) .none kV7 dc7 pm7 an7 cd7 ct7), sl7⟩) (c7 : PySem.W.codeIn K cd7 "check_telling" = true) (k7 : PySem.W.keepIn K (.ref f7) = true)
    (a8 : PySem.W.nsIn K mainGlobals "names_of" = some (some (.ref f8))) (l8 : K.lookup f8 = some ⟨oc8, od8, .func (PySem.W.fnOf "names_of" "names_of" (defArgs sNamesOf) (defBody sNamesOf) (defScope sNamesOf) .none kV8 dc8 pm8 an8 cd8 ct8), sl8⟩) (c8 : PySem.W.codeIn K cd8 "names_of" = true) (k8 : PySem.W.keepIn K (.ref f8) = true)
    (a9 : PySem.W.nsIn K mainGlobals "renamed_row" = some (some (.ref f9))) (l9 : K.lookup f9 = some ⟨oc9, od9, .func (PySem.W.fnOf "renamed_row" "renamed_row" (defArgs sRenR) (defBody sRenR) (defScope sRenR) .none kV9 dc9 pm9 an9 cd9 ct9), sl9⟩) (c9 : PySem.W.codeIn K cd9 "renamed_row" = true) (k9 : PySem.W.keepIn K (.ref f9) = true)
    (a10 : PySem.W.nsIn K mainGlobals "renamed" = some (some (.ref f10))) (l10 : K.lookup f10 = some ⟨oc10, od10, .func (PySem.W.fnOf "renamed" "renamed" (defArgs sRen) (defBody sRen) (defScope sRen) .none kV10 dc10 pm10 an10 cd10 ct10), sl10⟩) (c10 : PySem.W.codeIn K cd10 "renamed" = true) (k10 : PySem.W.keepIn K (.ref f10) = true)
    (a11 : PySem.W.nsIn K mainGlobals "writes_fact" = some (some (.ref f11))) (l11 : K.lookup f11 = some ⟨oc11, od11, .func (PySem.W.fnOf "writes_fact" "writes_fact" (defArgs sWritesFact) (defBody sWritesFact) (defScope sWritesFact) .none kV11 dc11 pm11 an11 cd11 ct11), sl11⟩) (c11 : PySem.W.codeIn K cd11 "writes_fact" = true) (k11 : PySem.W.keepIn K (.ref f11) = true)
    (a12 : PySem.W.nsIn K mainGlobals "read_telling" = some (some (.ref f12))) (l12 : K.lookup f12 = some ⟨oc12, od12, .func (PySem.W.fnOf "read_telling" "read_telling" (defArgs sRead) (defBody sRead) (defScope sRead) .none kV12 dc12 pm12 an12 cd12 ct12), sl12⟩) (c12 : PySem.W.codeIn K cd12 "read_telling" = true) (k12 : PySem.W.keepIn K (.ref f12) = true)
    (a13 : PySem.W.nsIn K mainGlobals "_law_cell_at" = some (some (.ref f13))) (l13 : K.lookup f13 = some ⟨oc13, od13, .func (PySem.W.fnOf "_law_cell_at" "_law_cell_at" (defArgs sCell) (defBody sCell) (defScope sCell) .none kV13 dc13 pm13 an13 cd13 ct13), sl13⟩) (c13 : PySem.W.codeIn K cd13 "_law_cell_at" = true) (k13 : PySem.W.keepIn K (.ref f13) = true)
    (a14 : PySem.W.nsIn K mainGlobals "_law_take" = some (some (.ref f14))) (l14 : K.lookup f14 = some ⟨oc14, od14, .func (PySem.W.fnOf "_law_take" "_law_take" (defArgs sTake) (defBody sTake) (defScope sTake) .none kV14 dc14 pm14 an14 cd14 ct14), sl14⟩) (c14 : PySem.W.codeIn K cd14 "_law_take" = true) (k14 : PySem.W.keepIn K (.ref f14) = true)
    (a15 : PySem.W.nsIn K mainGlobals "_law_any_names" = some (some (.ref f15))) (l15 : K.lookup f15 = some ⟨oc15, od15, .func (PySem.W.fnOf "_law_any_names" "_law_any_names" (defArgs sAnyNames) (defBody sAnyNames) (defScope sAnyNames) .none kV15 dc15 pm15 an15 cd15 ct15), sl15⟩) (c15 : PySem.W.codeIn K cd15 "_law_any_names" = true) (k15 : PySem.W.keepIn K (.ref f15) = true)
    (a16 : PySem.W.nsIn K mainGlobals "_law_names" = some (some (.ref f16))) (l16 : K.lookup f16 = some ⟨oc16, od16, .func (PySem.W.fnOf "_law_names" "_law_names" (defArgs sNames) (defBody sNames) (defScope sNames) .none kV16 dc16 pm16 an16 cd16 ct16), sl16⟩) (c16 : PySem.W.codeIn K cd16 "_law_names" = true) (k16 : PySem.W.keepIn K (.ref f16) = true)
    (a17 : PySem.W.nsIn K mainGlobals "_law_value" = some (some (.ref f17))) (l17 : K.lookup f17 = some ⟨oc17, od17, .func (PySem.W.fnOf "_law_value" "_law_value" (defArgs sValue2) (defBody sValue2) (defScope sValue2) .none kV17 dc17 pm17 an17 cd17 ct17), sl17⟩) (c17 : PySem.W.codeIn K cd17 "_law_value" = true) (k17 : PySem.W.keepIn K (.ref f17) = true)
    (a18 : PySem.W.nsIn K mainGlobals "_law_field" = some (some (.ref f18))) (l18 : K.lookup f18 = some ⟨oc18, od18, .func (PySem.W.fnOf "_law_field" "_law_field" (defArgs sField) (defBody sField) (defScope sField) .none kV18 dc18 pm18 an18 cd18 ct18), sl18⟩) (c18 : PySem.W.codeIn K cd18 "_law_field" = true) (k18 : PySem.W.keepIn K (.ref f18) = true)
    (a19 : PySem.W.nsIn K mainGlobals "_law_fact" = some (some (.ref f19))) (l19 : K.lookup f19 = some ⟨oc19, od19, .func (PySem.W.fnOf "_law_fact" "_law_fact" (defArgs sFact2) (defBody sFact2) (defScope sFact2) .none kV19 dc19 pm19 an19 cd19 ct19), sl19⟩) (c19 : PySem.W.codeIn K cd19 "_law_fact" = true) (k19 : PySem.W.keepIn K (.ref f19) = true)
    (a20 : PySem.W.nsIn K mainGlobals "_law_part" = some (some (.ref f20))) (l20 : K.lookup f20 = some ⟨oc20, od20, .func (PySem.W.fnOf "_law_part" "_law_part" (defArgs sPart2) (defBody sPart2) (defScope sPart2) .none kV20 dc20 pm20 an20 cd20 ct20), sl20⟩) (c20 : PySem.W.codeIn K cd20 "_law_part" = true) (k20 : PySem.W.keepIn K (.ref f20) = true)
    (a21 : PySem.W.nsIn K mainGlobals "_law_rows" = some (some (.ref f21))) (l21 : K.lookup f21 = some ⟨oc21, od21, .func (PySem.W.fnOf "_law_rows" "_law_rows" (defArgs sRows) (defBody sRows) (defScope sRows) .none kV21 dc21 pm21 an21 cd21 ct21), sl21⟩) (c21 : PySem.W.codeIn K cd21 "_law_rows" = true) (k21 : PySem.W.keepIn K (.ref f21) = true)
    (a22 : PySem.W.nsIn K mainGlobals "_law_turned" = some (some (.ref f22))) (l22 : K.lookup f22 = some ⟨oc22, od22, .func (PySem.W.fnOf "_law_turned" "_law_turned" (defArgs sTurned) (defBody sTurned) (defScope sTurned) .none kV22 dc22 pm22 an22 cd22 ct22), sl22⟩) (c22 : PySem.W.codeIn K cd22 "_law_turned" = true) (k22 : PySem.W.keepIn K (.ref f22) = true)
    (a23 : PySem.W.nsIn K mainGlobals "_law_alike" = some (some (.ref f23))) (l23 : K.lookup f23 = some ⟨oc23, od23, .func (PySem.W.fnOf "_law_alike" "_law_alike" (defArgs sAlike) (defBody sAlike) (defScope sAlike) .none kV23 dc23 pm23 an23 cd23 ct23), sl23⟩) (c23 : PySem.W.codeIn K cd23 "_law_alike" = true) (k23 : PySem.W.keepIn K (.ref f23) = true)
    (a24 : PySem.W.nsIn K mainGlobals "_law_stays" = some (some (.ref f24))) (l24 : K.lookup f24 = some ⟨oc24, od24, .func (PySem.W.fnOf "_law_stays" "_law_stays" (defArgs sStays) (defBody sStays) (defScope sStays) .none kV24 dc24 pm24 an24 cd24 ct24), sl24⟩) (c24 : PySem.W.codeIn K cd24 "_law_stays" = true) (k24 : PySem.W.keepIn K (.ref f24) = true)
    (a25 : PySem.W.nsIn K mainGlobals "law" = some (some (.ref f25))) (l25 : K.lookup f25 = some ⟨oc25, od25, .func (PySem.W.fnOf "law" "law" (defArgs sLaw) (defBody sLaw) (defScope sLaw) .none kV25 dc25 pm25 an25 cd25 ct25), sl25⟩) (c25 : PySem.W.codeIn K cd25 "law" = true) (k25 : PySem.W.keepIn K (.ref f25) = true)
    (z1 : PySem.W.nsIn K mainGlobals "len" = some none)
    (z2 : PySem.W.nsIn K mainGlobals "all" = some none)
    (z3 : PySem.W.nsIn K mainGlobals "isinstance" = some none)
    (z4 : PySem.W.nsIn K mainGlobals "list" = some none)
    (z5 : PySem.W.nsIn K mainGlobals "tuple" = some none)
    (z6 : PySem.W.nsIn K mainGlobals "str" = some none)
    (z7 : PySem.W.nsIn K mainGlobals "sorted" = some none)
    (z8 : PySem.W.nsIn K mainGlobals "set" = some none)
    (z9 : PySem.W.nsIn K mainGlobals "range" = some none)
    (z10 : PySem.W.nsIn K mainGlobals "zip" = some none)
    (z11 : PySem.W.nsIn K mainGlobals "dict" = some none)
    {yL yF yO : Str} {tL tF tO : Tok} (gO : PySem.W.nsIn K mainGlobals "NOTHING" = some (some (.str yO tO))) (eO : yO = nothing) (gL : PySem.W.nsIn K mainGlobals "LETTERS" = some (some (.str yL tL))) (eL : yL = Mir.letters) (gF : PySem.W.nsIn K mainGlobals "FIGURES" = some (some (.str yF tF))) (eF : yF = Mir.figures)
    {j1 : Int} {tj1 : Tok} (i1 : PySem.W.nsIn K mainGlobals "FACT_LENGTH" = some (some (.int j1 tj1))) (ei1 : j1 = 3)
    {j2 : Int} {tj2 : Tok} (i2 : PySem.W.nsIn K mainGlobals "MOST_SIGNS" = some (some (.int j2 tj2))) (ei2 : j2 = 8)
    {j3 : Int} {tj3 : Tok} (i3 : PySem.W.nsIn K mainGlobals "MOST_FACTS" = some (some (.int j3 tj3))) (ei3 : j3 = 8)
    {j4 : Int} {tj4 : Tok} (i4 : PySem.W.nsIn K mainGlobals "MOST_PARTS" = some (some (.int j4 tj4))) (ei4 : j4 = 6)
    {j5 : Int} {tj5 : Tok} (i5 : PySem.W.nsIn K mainGlobals "MOST_NAMES" = some (some (.int j5 tj5))) (ei5 : j5 = 8)
    {aN aW aP : Addr} {oN oW : Obj} {itN itW : Array Value} {nN nW nP : Nat} {es : Array DictEntry}
    (gN : PySem.W.nsIn K mainGlobals "NO_NAMES" = some (some (.ref aN))) (lN : K.lookup aN = some oN) (cN : oN.cls = .type "tuple") (dN : oN.data = .seq itN nN) (sN : itN.size ≤ 100) (vN : Vals (Mir.noNames.map V.str) itN.toList)
    (gW : PySem.W.nsIn K mainGlobals "FACT_WORDS" = some (some (.ref aW))) (lW : K.lookup aW = some oW) (cW : oW.cls = .type "tuple") (dW : oW.data = .seq itW nW) (sW : itW.size ≤ 100) (vW : Vals (([("is" : Str), "not"] : List Str).map V.str) itW.toList)
    (gP : PySem.W.nsIn K mainGlobals "PART_LENGTHS" = some (some (.ref aP))) (lP : K.lookup aP = some ⟨.type "dict", none, .dict es nP, #[]⟩) (hP : PySem.W.KeysLit w.params es.toList) (mP : (aP == sysModules) = false) (rP : ∀ x, RelO (([("cell", .int 4), ("stretch", .int 3), ("tree", .int 2)] : List (Str × V)).lookup x) (findBy Value.isStrOf es x))
    {E2 : Addr} (x2 : PySem.W.nsIn K mainGlobals "NoTelling" = some (some (.ref E2)))
    (xe : PySem.W.excIn K E2 [.type "ValueError", .type "Exception", .type "BaseException", .type "object"] "ValueError.__new__" = true) :
    ∃ fd : FuncData, (∀ (s : Shared) (v : Value), BindsTo s fd ⟨[v], []⟩ [("_law_script", v)]) ∧ ∀ base : Heap, K.In base → base.Ns mainGlobals mg → FnOk l.prog w K mg base CX0 7 fa fd ["_law_script"] (spLaw K) := by
  have e := hfa.symm.trans (PySem.W.mg_of X G a25)
  cases e
  have F1 := fun_mk (st := sIsName) l1 c1 k1
  have B1 := F1.binds (ps := ["text"]) fun _ _ _ _ _ _ us hl => match us, hl with | [_], _ => rfl
  have C1 : Cal K mg "is_name" f1 _ ["text"] := ⟨PySem.W.mg_of X G a1, k1, B1⟩
  have F2 := fun_mk (st := sIsValue) l2 c2 k2
  have B2 := F2.binds (ps := ["text"]) fun _ _ _ _ _ _ us hl => match us, hl with | [_], _ => rfl
  have C2 : Cal K mg "is_value" f2 _ ["text"] := ⟨PySem.W.mg_of X G a2, k2, B2⟩
  have F3 := fun_mk (st := sIsFact) l3 c3 k3
  have B3 := F3.binds (ps := ["row"]) fun _ _ _ _ _ _ us hl => match us, hl with | [_], _ => rfl
  have C3 : Cal K mg "is_fact" f3 _ ["row"] := ⟨PySem.W.mg_of X G a3, k3, B3⟩
  have F4 := fun_mk (st := sIsPart) l4 c4 k4
  have B4 := F4.binds (ps := ["row"]) fun _ _ _ _ _ _ us hl => match us, hl with | [_], _ => rfl
  have C4 : Cal K mg "is_part" f4 _ ["row"] := ⟨PySem.W.mg_of X G a4, k4, B4⟩
  have F5 := fun_mk (st := sAreRows) l5 c5 k5
  have B5 := F5.binds (ps := ["rows"]) fun _ _ _ _ _ _ us hl => match us, hl with | [_], _ => rfl
  have C5 : Cal K mg "are_rows" f5 _ ["rows"] := ⟨PySem.W.mg_of X G a5, k5, B5⟩
  have F6 := fun_mk (st := sIsTelling) l6 c6 k6
  have B6 := F6.binds (ps := ["telling"]) fun _ _ _ _ _ _ us hl => match us, hl with | [_], _ => rfl
  have C6 : Cal K mg "is_telling" f6 _ ["telling"] := ⟨PySem.W.mg_of X G a6, k6, B6⟩
  have F7 := fun_mk (st := sCheck) l7 c7 k7
  have B7 := F7.binds (ps := ["telling"]) fun _ _ _ _ _ _ us hl => match us, hl with | [_], _ => rfl
  have C7 : Cal K mg "check_telling" f7 _ ["telling"] := ⟨PySem.W.mg_of X G a7, k7, B7⟩
  have F8 := fun_mk (st := sNamesOf) l8 c8 k8
  have B8 := F8.binds (ps := ["telling"]) fun _ _ _ _ _ _ us hl => match us, hl with | [_], _ => rfl
  have C8 : Cal K mg "names_of" f8 _ ["telling"] := ⟨PySem.W.mg_of X G a8, k8, B8⟩
  have F9 := fun_mk (st := sRenR) l9 c9 k9
  have B9 := F9.binds (ps := ["row", "names"]) fun _ _ _ _ _ _ us hl => match us, hl with | [_, _], _ => rfl
  have C9 : Cal K mg "renamed_row" f9 _ ["row", "names"] := ⟨PySem.W.mg_of X G a9, k9, B9⟩
  have F10 := fun_mk (st := sRen) l10 c10 k10
  have B10 := F10.binds (ps := ["telling", "names"]) fun _ _ _ _ _ _ us hl => match us, hl with | [_, _], _ => rfl
  have C10 : Cal K mg "renamed" f10 _ ["telling", "names"] := ⟨PySem.W.mg_of X G a10, k10, B10⟩
  have F11 := fun_mk (st := sWritesFact) l11 c11 k11
  have B11 := F11.binds (ps := ["words"]) fun _ _ _ _ _ _ us hl => match us, hl with | [_], _ => rfl
  have C11 : Cal K mg "writes_fact" f11 _ ["words"] := ⟨PySem.W.mg_of X G a11, k11, B11⟩
  have F12 := fun_mk (st := sRead) l12 c12 k12
  have B12 := F12.binds (ps := ["text"]) fun _ _ _ _ _ _ us hl => match us, hl with | [_], _ => rfl
  have C12 : Cal K mg "read_telling" f12 _ ["text"] := ⟨PySem.W.mg_of X G a12, k12, B12⟩
  have F13 := fun_mk (st := sCell) l13 c13 k13
  have B13 := F13.binds (ps := ["_law_script", "_law_k"]) fun _ _ _ _ _ _ us hl => match us, hl with | [_, _], _ => rfl
  have C13 : Cal K mg "_law_cell_at" f13 _ ["_law_script", "_law_k"] := ⟨PySem.W.mg_of X G a13, k13, B13⟩
  have F14 := fun_mk (st := sTake) l14 c14 k14
  have B14 := F14.binds (ps := ["_law_feed", "_law_many"]) fun _ _ _ _ _ _ us hl => match us, hl with | [_, _], _ => rfl
  have C14 : Cal K mg "_law_take" f14 _ ["_law_feed", "_law_many"] := ⟨PySem.W.mg_of X G a14, k14, B14⟩
  have F15 := fun_mk (st := sAnyNames) l15 c15 k15
  have B15 := F15.binds (ps := ["_law_cell"]) fun _ _ _ _ _ _ us hl => match us, hl with | [_], _ => rfl
  have C15 : Cal K mg "_law_any_names" f15 _ ["_law_cell"] := ⟨PySem.W.mg_of X G a15, k15, B15⟩
  have F16 := fun_mk (st := sNames) l16 c16 k16
  have B16 := F16.binds (ps := ["_law_cell"]) fun _ _ _ _ _ _ us hl => match us, hl with | [_], _ => rfl
  have C16 : Cal K mg "_law_names" f16 _ ["_law_cell"] := ⟨PySem.W.mg_of X G a16, k16, B16⟩
  have F17 := fun_mk (st := sValue2) l17 c17 k17
  have B17 := F17.binds (ps := ["_law_cell", "_law_names_here"]) fun _ _ _ _ _ _ us hl => match us, hl with | [_, _], _ => rfl
  have C17 : Cal K mg "_law_value" f17 _ ["_law_cell", "_law_names_here"] := ⟨PySem.W.mg_of X G a17, k17, B17⟩
  have F18 := fun_mk (st := sField) l18 c18 k18
  have B18 := F18.binds (ps := ["_law_cell", "_law_names_here"]) fun _ _ _ _ _ _ us hl => match us, hl with | [_, _], _ => rfl
  have C18 : Cal K mg "_law_field" f18 _ ["_law_cell", "_law_names_here"] := ⟨PySem.W.mg_of X G a18, k18, B18⟩
  have F19 := fun_mk (st := sFact2) l19 c19 k19
  have B19 := F19.binds (ps := ["_law_cell", "_law_names_here"]) fun _ _ _ _ _ _ us hl => match us, hl with | [_, _], _ => rfl
  have C19 : Cal K mg "_law_fact" f19 _ ["_law_cell", "_law_names_here"] := ⟨PySem.W.mg_of X G a19, k19, B19⟩
  have F20 := fun_mk (st := sPart2) l20 c20 k20
  have B20 := F20.binds (ps := ["_law_cell", "_law_names_here"]) fun _ _ _ _ _ _ us hl => match us, hl with | [_, _], _ => rfl
  have C20 : Cal K mg "_law_part" f20 _ ["_law_cell", "_law_names_here"] := ⟨PySem.W.mg_of X G a20, k20, B20⟩
  have F21 := fun_mk (st := sRows) l21 c21 k21
  have B21 := F21.binds (ps := ["_law_cells", "_law_names_here"]) fun _ _ _ _ _ _ us hl => match us, hl with | [_, _], _ => rfl
  have C21 : Cal K mg "_law_rows" f21 _ ["_law_cells", "_law_names_here"] := ⟨PySem.W.mg_of X G a21, k21, B21⟩
  have F22 := fun_mk (st := sTurned) l22 c22 k22
  have B22 := F22.binds (ps := ["_law_rows_here", "_law_names_here"]) fun _ _ _ _ _ _ us hl => match us, hl with | [_, _], _ => rfl
  have C22 : Cal K mg "_law_turned" f22 _ ["_law_rows_here", "_law_names_here"] := ⟨PySem.W.mg_of X G a22, k22, B22⟩
  have F23 := fun_mk (st := sAlike) l23 c23 k23
  have B23 := F23.binds (ps := ["_law_found", "_law_facts", "_law_parts"]) fun _ _ _ _ _ _ us hl => match us, hl with | [_, _, _], _ => rfl
  have C23 : Cal K mg "_law_alike" f23 _ ["_law_found", "_law_facts", "_law_parts"] := ⟨PySem.W.mg_of X G a23, k23, B23⟩
  have F24 := fun_mk (st := sStays) l24 c24 k24
  have B24 := F24.binds (ps := ["_law_found", "_law_facts", "_law_parts", "_law_others"]) fun _ _ _ _ _ _ us hl => match us, hl with | [_, _, _, _], _ => rfl
  have C24 : Cal K mg "_law_stays" f24 _ ["_law_found", "_law_facts", "_law_parts", "_law_others"] := ⟨PySem.W.mg_of X G a24, k24, B24⟩
  have F25 := fun_mk (st := sLaw) l25 c25 k25
  have C : Con K mg w := {
    letters := glob_str X G gL eL
    figures := glob_str X G gF eF
    noNames := ⟨aN, glob_ref X G gN, fun _ => .inr ⟨oN, itN, nN, lN, cN, dN, Nat.le_trans sN (by decide), vN⟩⟩
    factWords := ⟨aW, glob_ref X G gW, fun _ => .inr ⟨oW, itW, nW, lW, cW, dW, Nat.le_trans sW (by decide), vW⟩⟩
    factLen := glob_int X G i1 ei1
    partLens := ⟨aP, glob_ref X G gP, es, nP, lP, hP, mP, rP⟩
    mostSigns := glob_int X G i2 ei2
    mostFacts := glob_int X G i3 ei3
    mostParts := glob_int X G i4 ei4
    mostNames := glob_int X G i5 ei5
    len := PySem.W.mg_none_of X G z1
    all := PySem.W.mg_none_of X G z2
    isi := PySem.W.mg_none_of X G z3
    list := PySem.W.mg_none_of X G z4
    tuple := PySem.W.mg_none_of X G z5
    str := PySem.W.mg_none_of X G z6
    sorted := PySem.W.mg_none_of X G z7
    set := PySem.W.mg_none_of X G z8 }
  have NE : ErrC K mg "NoTelling" E2 := ⟨PySem.W.mg_of X G x2, xe⟩
  have NO : Notes mg := ⟨glob_str X G gO eO⟩
  have hrg := PySem.W.mg_none_of X G z9
  have hzp := PySem.W.mg_none_of X G z10
  have hdc := PySem.W.mg_none_of X G z11
  refine ⟨PySem.W.fnOf "law" "law" (defArgs sLaw) (defBody sLaw) (defScope sLaw) .none kV25 dc25 pm25 an25 cd25 ct25, fun s v => .of_eq rfl, fun base _ _ => ?_⟩
  have O1 := ok_isName (P := l.prog) (base := base) C F1
  have O2 := ok_isValue C F2 O1 C1.bind C1.keep C1.name
  have O3 := ok_isFact C F3 O2 C2.bind C2.keep C2.name
  have O4 := ok_isPart C F4 O2 C2.bind C2.keep C2.name
  have O5 := ok_areRows (P := l.prog) (base := base) C F5
  have O8 := ok_namesOf (P := l.prog) (base := base) C F8
  have O6 := ok_isTelling C F6 O5 C5 O3 C3 O4 C4 O8 C8
  have O7 := ok_check F7 O6 C6 NE
  have O9 := ok_renR (P := l.prog) (base := base) C F9
  have O10 := ok_ren F10 O9 C9
  have O11 := ok_writesFact (P := l.prog) (base := base) C F11
  have O12 := ok_read C NO F12 O11 C11 O7 C7
  have O13 := ok_cellAt (P := l.prog) (base := base) C F13
  have O14 := ok_take (P := l.prog) (w := w) (mg := mg) (base := base) F14
  have O15 := ok_anyNames C hrg F15 O14 C14
  have O16 := ok_names C hrg F16 O15 C15
  have O17 := ok_value2 (P := l.prog) (base := base) C F17
  have O18 := ok_field F18 O17 C17
  have O19 := ok_fact2 F19 O17 C17
  have O20 := ok_part2 F20 O17 C17 O18 C18
  have O21 := ok_rows C F21 O19 C19 O20 C20
  have O22 := ok_turned (P := l.prog) (base := base) C F22
  have O23 := ok_alike (P := l.prog) (base := base) C hzp F23
  have O24 := ok_stays C hrg F24 O8 C8 O10 C10 O23 C23
  exact ok_law C hrg hdc F25 O13 C13 O16 C16 O21 C21 O12 C12 O23 C23 O8 C8 O10 C10 O22 C22 O24 C24
theorem walk {l : PySem.W.OpenLaw} {q : Program} {loose : List Str} {XP : (Str → Option Value) → Heap → Prop} {YP : World → Heap → Prop} {d : DefRec} {K : Params → PySem.W.Frag} (hn : l.most = some 63) (hdf : d.params.defaults = [])
    (hY : ∀ (w : World) (h : Heap), YP w h → (K w.params).In h)
    (F : ∀ (w : World) (mg : Str → Option Value) (fa : Addr) (h : Heap), (K w.params).In h → h.Ns mainGlobals mg → mg d.name = some (.ref fa) →
      ∃ fd : FuncData, (∀ (s : Shared) (u : Value), BindsTo s fd ⟨[u], []⟩ [("_law_script", u)]) ∧ ∀ base : Heap, (K w.params).In base → base.Ns mainGlobals mg → FnOk l.prog w (K w.params) mg base CX0 7 fa fd ["_law_script"] (spLaw (K w.params))) :
    PySem.W.WalkO q loose XP YP l.row.toRowW d [] (fun f vs => PySem.call f vs) :=
  L2.walk_of (n := 63) (k := 7) (x := "_law_script") (CX := fun _ => CX0) (sp := fun w => spLaw (K w.params)) hn (by decide) hdf ⟨rfl, by decide, by decide⟩ hY F (fun _ _ a ns hl _ hS => ⟨a, ns, rfl, hS, fun _ => rfl⟩) fun _ _ _ _ _ z => z
end K3

set_option Elab.async false
set_option linter.all false
set_option maxRecDepth 100000
open PySem PySem.W PyProof.Rows
set_option maxRecDepth 100000 in
set_option maxHeartbeats 0 in
theorem PySem.Challenge.cw_apart_k03_tellings_read_holds : PySem.Challenge.rw_apart_k03_tellings_read.Holds := by
  w_on; o_law; k_head; (case hw => w_witness2)
  k_fill
  refine K3.walk (l := PySem.Challenge.rw_apart_k03_tellings_read) rfl rfl (fun w h Y => PySem.W.kIn_of Y) ?F
  case F =>
    intro w mg fa h KX G hmg
    refine' K3.all_mk KX G hmg ?a1 ?l1 ?c1 ?k1 ?a2 ?l2 ?c2 ?k2 ?a3 ?l3 ?c3 ?k3 ?a4 ?l4 ?c4 ?k4 ?a5 ?l5 ?c5 ?k5 ?a6 ?l6 ?c6 ?k6 ?a7 ?l7 ?c7 ?k7 ?a8 ?l8 ?c8 ?k8 ?a9 ?l9 ?c9 ?k9 ?a10 ?l10 ?c10 ?k10 ?a11 ?l11 ?c11 ?k11 ?a12 ?l12 ?c12 ?k12 ?a13 ?l13 ?c13 ?k13 ?a14 ?l14 ?c14 ?k14 ?a15 ?l15 ?c15 ?k15 ?a16 ?l16 ?c16 ?k16 ?a17 ?l17 ?c17 ?k17 ?a18 ?l18 ?c18 ?k18 ?a19 ?l19 ?c19 ?k19 ?a20 ?l20 ?c20 ?k20 ?a21 ?l21 ?c21 ?k21 ?a22 ?l22 ?c22 ?k22 ?a23 ?l23 ?c23 ?k23 ?a24 ?l24 ?c24 ?k24 ?a25 ?l25 ?c25 ?k25 ?z1 ?z2 ?z3 ?z4 ?z5 ?z6 ?z7 ?z8 ?z9 ?z10 ?z11 ?gO ?eO ?gL ?eL ?gF ?eF ?i1 ?ei1 ?i2 ?ei2 ?i3 ?ei3 ?i4 ?ei4 ?i5 ?ei5 ?gN ?lN ?cN ?dN ?sN ?vN ?gW ?lW ?cW ?dW ?sW ?vW ?gP ?lP ?hP ?mP ?rP ?x2 ?xe
    (case a1 => k_is)
    (case l1 => k_is)
    (case c1 => k_is)
    (case k1 => k_is)
    (case a2 => k_is)
    (case l2 => k_is)
    (case c2 => k_is)
    (case k2 => k_is)
    (case a3 => k_is)
    (case l3 => k_is)
    (case c3 => k_is)
    (case k3 => k_is)
    (case a4 => k_is)
    (case l4 => k_is)
    (case c4 => k_is)
    (case k4 => k_is)
    (case a5 => k_is)
    (case l5 => k_is)
    (case c5 => k_is)
    (case k5 => k_is)
    (case a6 => k_is)
    (case l6 => k_is)
    (case c6 => k_is)
    (case k6 => k_is)
    (case a7 => k_is)
    (case l7 => k_is)
    (case c7 => k_is)
    (case k7 => k_is)
    (case a8 => k_is)
    (case l8 => k_is)
    (case c8 => k_is)
    (case k8 => k_is)
    (case a9 => k_is)
    (case l9 => k_is)
    (case c9 => k_is)
    (case k9 => k_is)
    (case a10 => k_is)
    (case l10 => k_is)
    (case c10 => k_is)
    (case k10 => k_is)
    (case a11 => k_is)
    (case l11 => k_is)
    (case c11 => k_is)
    (case k11 => k_is)
    (case a12 => k_is)
    (case l12 => k_is)
    (case c12 => k_is)
    (case k12 => k_is)
    (case a13 => k_is)
    (case l13 => k_is)
    (case c13 => k_is)
    (case k13 => k_is)
    (case a14 => k_is)
    (case l14 => k_is)
    (case c14 => k_is)
    (case k14 => k_is)
    (case a15 => k_is)
    (case l15 => k_is)
    (case c15 => k_is)
    (case k15 => k_is)
    (case a16 => k_is)
    (case l16 => k_is)
    (case c16 => k_is)
    (case k16 => k_is)
    (case a17 => k_is)
    (case l17 => k_is)
    (case c17 => k_is)
    (case k17 => k_is)
    (case a18 => k_is)
    (case l18 => k_is)
    (case c18 => k_is)
    (case k18 => k_is)
    (case a19 => k_is)
    (case l19 => k_is)
    (case c19 => k_is)
    (case k19 => k_is)
    (case a20 => k_is)
    (case l20 => k_is)
    (case c20 => k_is)
    (case k20 => k_is)
    (case a21 => k_is)
    (case l21 => k_is)
    (case c21 => k_is)
    (case k21 => k_is)
    (case a22 => k_is)
    (case l22 => k_is)
    (case c22 => k_is)
    (case k22 => k_is)
    (case a23 => k_is)
    (case l23 => k_is)
    (case c23 => k_is)
    (case k23 => k_is)
    (case a24 => k_is)
    (case l24 => k_is)
    (case c24 => k_is)
    (case k24 => k_is)
    (case a25 => k_is)
    (case l25 => k_is)
    (case c25 => k_is)
    (case k25 => k_is)
    (case z1 => k_is)
    (case z2 => k_is)
    (case z3 => k_is)
    (case z4 => k_is)
    (case z5 => k_is)
    (case z6 => k_is)
    (case z7 => k_is)
    (case z8 => k_is)
    (case z9 => k_is)
    (case z10 => k_is)
    (case z11 => k_is)
    (case gO => k_is)
    (case eO => decide +kernel)
    (case gL => k_is)
    (case eL => decide +kernel)
    (case gF => k_is)
    (case eF => decide +kernel)
    (case i1 => k_is)
    (case ei1 => rfl)
    (case i2 => k_is)
    (case ei2 => rfl)
    (case i3 => k_is)
    (case ei3 => rfl)
    (case i4 => k_is)
    (case ei4 => rfl)
    (case i5 => k_is)
    (case ei5 => rfl)
    (case gN => k_is)
    (case lN => k_is)
    (case cN => rfl)
    (case dN => rfl)
    (case sN => decide)
    (case vN => repeat (first | exact .nil | refine .cons ⟨_, rfl⟩ ?_))
    (case gW => k_is)
    (case lW => k_is)
    (case cW => rfl)
    (case dW => rfl)
    (case sW => decide)
    (case vW => repeat (first | exact .nil | refine .cons ⟨_, rfl⟩ ?_))
    (case gP => k_is)
    (case lP => k_is)
    (case hP => exact ⟨⟨_, _, rfl, rfl⟩, ⟨_, _, rfl, rfl⟩, ⟨_, _, rfl, rfl⟩, trivial⟩)
    (case mP => rfl)
    (case rP => exact K3.rel_find3 rfl ⟨_, rfl⟩ ⟨_, rfl⟩ ⟨_, rfl⟩)
    (case x2 => k_is)
    (case xe => k_exc)

