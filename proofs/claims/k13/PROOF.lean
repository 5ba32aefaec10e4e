import PyProof.Rows.All
import Wide.All
import OpenK.AllK
import Wide.FinOn
import Lean
import PyProof.EqAt
import PyProof.EqKinds
import PyProof.TupleCall
import PySem.Challenge.RW_apart_k13_parts_apart
set_option Elab.async false
set_option linter.all false
set_option maxRecDepth 100000
namespace L2
open PySem PySem.Spec PyProof.Rows
abbrev Key := Sum Int Str
noncomputable def nw : Key → Value → Bool
  | .inl k, v => Value.isInt k v
  | .inr x, v => Value.isStrOf x v
noncomputable def keyH (w : World) : Key → Int
  | .inl k => hashInt k
  | .inr x => hashStr w x
theorem cm : ∀ {k : Key} {v : Value}, nw k v = true → (∃ i t, k = Sum.inl i ∧ v = Value.int i t) ∨ (∃ x t, k = Sum.inr x ∧ v = Value.str x t)
  | .inl i, v, h => by
    obtain ⟨t, e⟩ := Value.isInt_shape (k := i) (v := v) h
    exact .inl ⟨i, t, rfl, e⟩
  | .inr x, v, h => by
    obtain ⟨t, e⟩ := Value.isStrOf_shape (x := x) (v := v) h
    exact .inr ⟨x, t, rfl, e⟩
theorem a0a (i : Int) (t : Tok) : nw (.inl i) (.int i t) = true := by simp [nw, Value.isInt]
theorem zx (x : Str) (t : Tok) : nw (.inr x) (.str x t) = true := by simp [nw, Value.isStrOf]
theorem a57 (a b : Int) : decide ((Sum.inl a : Key) = Sum.inl b) = (a == b) := by
  by_cases e : a = b
  · subst e; simp
  · have h : ¬ (Sum.inl a : Key) = Sum.inl b := fun q => e (Sum.inl.inj q)
    rw [decide_eq_false h]
    exact (beq_eq_false_iff_ne.mpr e).symm
theorem a5q (a b : Str) : decide ((Sum.inr a : Key) = Sum.inr b) = decide (a = b) := by
  by_cases e : a = b
  · subst e; simp
  · have h : ¬ (Sum.inr a : Key) = Sum.inr b := fun q => e (Sum.inr.inj q)
    rw [decide_eq_false h, decide_eq_false e]
theorem a5m (a : Int) (b : Str) : decide ((Sum.inl a : Key) = Sum.inr b) = false := decide_eq_false (fun q => nomatch q)
theorem a5h (a : Str) (b : Int) : decide ((Sum.inr a : Key) = Sum.inl b) = false := decide_eq_false (fun q => nomatch q)
noncomputable def bz (prog : Program) (w : World) : PySem.KeyKind prog w Key where
  is := nw
  hash := keyH w
  inj := fun v a b ha hb => by
    rcases cm ha with ⟨i, t, rfl, rfl⟩ | ⟨x, t, rfl, rfl⟩
    · rcases cm hb with ⟨j, u, rfl, e⟩ | ⟨y, u, rfl, e⟩
      · injection e with e1 _; rw [e1]
      · exact nomatch e
    · rcases cm hb with ⟨j, u, rfl, e⟩ | ⟨y, u, rfl, e⟩
      · exact nomatch e
      · injection e with e1 _; rw [e1]
  byValue := fun k v h => by
    rcases cm h with ⟨i, t, rfl, rfl⟩ | ⟨x, t, rfl, rfl⟩ <;> rfl
  pyHash := fun hv h => by
    rcases cm hv with ⟨i, t, rfl, rfl⟩ | ⟨x, t, rfl, rfl⟩
    · exact wpAny_pyHash_int h
    · exact wpAny_pyHash_str h
  eqBool := fun hu hv h => by
    rcases cm hu with ⟨i, t, rfl, rfl⟩ | ⟨x, t, rfl, rfl⟩
    · rcases cm hv with ⟨j, u, rfl, rfl⟩ | ⟨y, u, rfl, rfl⟩
      · rw [a57] at h; exact wpAny_eqBool_int h
      · rw [a5m] at h; exact SeqAt.EqAt.int_str i t y u _ _ _ _ h
    · rcases cm hv with ⟨j, u, rfl, rfl⟩ | ⟨y, u, rfl, rfl⟩
      · rw [a5h] at h; exact SeqAt.EqAt.str_int x t j u _ _ _ _ h
      · rw [a5q] at h; exact wpAny_eqBool_str h
  «strs» := fun k x t v h => by
    rcases cm h with ⟨i, u, rfl, e⟩ | ⟨y, u, rfl, e⟩
    · exact nomatch e
    · injection e with e1 _
      subst e1
      cases v <;> rfl
theorem wn (prog : Program) (w : World) (i : Int) (t : Tok) : (bz prog w).is (.inl i) (.int i t) = true := a0a i t
theorem w9 (prog : Program) (w : World) (x : Str) (t : Tok) : (bz prog w).is (.inr x) (.str x t) = true := zx x t
end L2
namespace L2
open PySem PySem.Spec PyProof.Rows
inductive V where
  | non | bl (b : Bool) | int (i : Int) | str (x : Str) | byt (b : Array UInt8) | flt (b : UInt64) | ref (a : Addr) | ty (n : String)
  deriving DecidableEq
noncomputable def RelV : V → Value → Prop
  | .non, u => u = Value.none
  | .bl b, u => u = Value.bool b
  | .int i, u => ∃ t, u = Value.int i t
  | .str x, u => ∃ t, u = Value.str x t
  | .byt b, u => ∃ t, u = Value.bytes b t
  | .flt b, u => ∃ t, u = Value.float b t
  | .ref a, u => u = Value.ref a
  | .ty n, u => u = Value.type n
abbrev Vals : List V → List Value → Prop := Paired RelV
theorem Vals.length {xs : List V} {us : List Value} (r : Vals xs us) : xs.length = us.length := Paired.length r
theorem Vals.get : ∀ {xs : List V} {us : List Value} {i : Nat} {x : V}, Vals xs us → xs[i]? = some x → ∃ u, us[i]? = some u ∧ RelV x u
  | _, _, _, _, .nil, e => by simp at e
  | _, _, 0, _, .cons r _, e => by simp at e; subst e; exact ⟨_, rfl, r⟩
  | _, _, i + 1, x, .cons _ t, e => by
    obtain ⟨u, h1, h2⟩ := Vals.get (i := i) (x := x) t (by simpa using e)
    exact ⟨u, by simpa using h1, h2⟩
theorem Vals.set {x : V} {u : Value} (r : RelV x u) : ∀ {xs : List V} {us : List Value} (i : Nat), Vals xs us → Vals (xs.set i x) (us.set i u)
  | _, _, _, .nil => .nil
  | _, _, 0, .cons _ t => .cons r t
  | _, _, i + 1, .cons q t => .cons q (Vals.set r i t)
theorem Vals.append : ∀ {xs ys : List V} {us ws : List Value}, Vals xs us → Vals ys ws → Vals (xs ++ ys) (us ++ ws)
  | _, _, _, _, .nil, s => s
  | _, _, _, _, .cons r t, s => .cons r (Vals.append t s)
theorem Vals.take : ∀ {xs : List V} {us : List Value} (n : Nat), Vals xs us → Vals (xs.take n) (us.take n)
  | _, _, 0, _ => .nil
  | _, _, _ + 1, .nil => .nil
  | _, _, n + 1, .cons r t => .cons r (Vals.take n t)
theorem Vals.drop : ∀ {xs : List V} {us : List Value} (n : Nat), Vals xs us → Vals (xs.drop n) (us.drop n)
  | _, _, 0, r => r
  | _, _, _ + 1, .nil => .nil
  | _, _, n + 1, .cons _ t => Vals.drop n t
noncomputable def RelO : Option V → Option Value → Prop
  | some v, some u => RelV v u
  | none, none => True
  | _, _ => False
noncomputable def KV {κ : Type} : List (κ × V) → List (κ × Value) → Prop := Paired fun (p : κ × V) (q : κ × Value) => p.1 = q.1 ∧ RelV p.2 q.2
noncomputable def kV : Key → V
  | .inl i => .int i
  | .inr x => .str x
inductive HO where
  /-- a list -/
  | lst (xs : List V)
  /-- a tuple (never changes) -/
  | tup (xs : List V)
  /-- a dict whose keys are ints and texts; one whose keys are tuples of ints and texts (the empty one is both) -/
  | dK (kvs : List (Key × V)) | dT (kvs : List (List Key × V))
  /-- a set of ints: its members, its size -/
  | set (S : Int → Bool) (n : Nat)
  /-- an instance of the class at C, its dict at dx, its attributes -/
  | ins (C dx : Addr) (fs : List (Str × V))
  /-- the dict of the instance at x -/
  | own (x : Addr)
  /-- the dict of an exception -/
  | xd (fs : List (Str × V))
  /-- a bound method, f of x -/
  | met (f x : Addr)
  /-- a range object lo, lo + 1, .. below hi -/
  | rng (lo hi : Int)
  /-- a thing that is known to the object (the script; a dict while a loop walks it): read, never written while it is so -/
  | frz (o : Obj) (u : HO)
  /-- a code object's table -/
  | tbl (ps : Array Value)
  /-- any other thing, by what is true of its one object (a def of one's own: SetO a S n := HO.ext fun h => ..) -/
  | ext (φ : Heap → Prop)
abbrev Hp := Addr → Option HO
noncomputable def upd (H : Hp) (a : Addr) (o : HO) : Hp := fun b => if b = a then some o else H b
theorem aa {H : Hp} {a : Addr} {o : HO} : upd H a o a = some o := by unfold upd; rw [if_pos rfl]
theorem ah {H : Hp} {a b : Addr} {o : HO} (h : b ≠ a) : upd H a o b = H b := by unfold upd; rw [if_neg h]
theorem eu {H : Hp} {a : Addr} {o u : HO} : upd (upd H a o) a u = upd H a u := by
  funext b; unfold upd; split <;> rfl
theorem a6k {H : Hp} {a b : Addr} {o u : HO} (h : H a = some o) (h' : H b = some u) (d : o ≠ u) : a ≠ b := by
  intro e; subst e; rw [h] at h'; exact d (Option.some.inj h')
theorem aj {H : Hp} {a b : Addr} {o : HO} (h : H a = some o) (h' : H b = none) : a ≠ b := by
  intro e; subst e; rw [h] at h'; cases h'
section
variable (P : Program) (w : World)
noncomputable def ObjOk (H : Hp) (h : Heap) (a : Addr) : HO → Prop
  | .lst xs => xs.length ≤ sizeLine ∧ ∃ (its : List Value) (n : Nat), Vals xs its ∧ h.get? a = some { cls := .type "list", data := .seq its.toArray n }
  | .tup xs => xs.length ≤ sizeLine ∧ ∃ its : List Value, Vals xs its ∧ IsTup h a its.toArray
  | .dK kvs => kvs.length ≤ sizeLine ∧ (a == sysModules) = false ∧ ∃ vs, KV kvs vs ∧ h.DictOf (bz P w) a vs
  | .dT kvs => kvs.length ≤ sizeLine ∧ (a == sysModules) = false ∧ ∃ xs : List (List Key × Addr × Value),
      Paired (fun (p : List Key × V) (q : List Key × Addr × Value) => p.1 = q.1 ∧ H q.2.1 = some (.tup (p.1.map kV)) ∧ RelV p.2 q.2.2) kvs xs ∧
      ∃ o es ep, h.get? a = some o ∧ o.ExactDict ∧ o.data = .dict es ep ∧ es.toList = xs.map (entryOfKey (tupleKind (bz P w))) ∧ (xs.map (·.1)).Nodup
  | .set S n => h.SetOf (intKind P w) a S n
  | .ins C dx fs => H dx = some (.own a) ∧ fs.length ≤ 1000 ∧ dx ≠ a ∧ h.get? a = some (PySem.W.instObj C dx) ∧
      ∃ mA, h.Ns1 dx mA ∧ (∀ f, RelO (fs.lookup f) (mA f)) ∧ PySem.Within mA (fs.map (·.1))
  | .own _ => ∃ o, h.get? a = some o
  | .xd fs => ∃ mA, h.Ns1 a mA ∧ ∀ f, RelO (fs.lookup f) (mA f)
  | .rng lo hi => ∃ t u v, h.get? a = some { cls := .type "range", data := .fields #[.int lo t, .int hi u, .int 1 v] }
  | .frz o u => h.get? a = some o ∧ ObjOk H h a u
  | .tbl ps => h.get? a = some { cls := .none, data := .fields ps }
  | .met f x => h.get? a = some (PySem.W.methodObj (.ref f) (.ref x))
  | .ext φ => φ h ∧ (∃ o, h.get? a = some o) ∧ ∀ h1 h2 : Heap, φ h1 → (∀ o, h1.get? a = some o → h2.get? a = some o) → φ h2
noncomputable def HOk (H : Hp) (h : Heap) : Prop := ∀ a o, H a = some o → ObjOk P w H h a o
end
section
variable {P : Program} {w : World} {H H' : Hp} {h h' : Heap} {a : Addr} {o : HO}
theorem ObjOk.lt (x : ObjOk P w H h a o) : a < h.objs.size := by
  cases o with
  | lst xs => obtain ⟨_, _, _, _, e⟩ := x; exact Heap.lt_size e
  | tup xs => obtain ⟨_, _, _, p⟩ := x; exact p.lt
  | dK kvs => obtain ⟨_, _, _, _, o, _, _, e, _⟩ := x; exact Heap.lt_size e
  | dT kvs => obtain ⟨_, _, _, _, o, _, _, e, _⟩ := x; exact Heap.lt_size e
  | set S n => obtain ⟨o, _, _, _, e, _⟩ := x; exact Heap.lt_size e
  | ins C dx fs => obtain ⟨_, _, _, e, _⟩ := x; exact Heap.lt_size e
  | own y => obtain ⟨_, e⟩ := x; exact Heap.lt_size e
  | xd fs => obtain ⟨_, ⟨_, _, _, e, _⟩, _⟩ := x; exact Heap.lt_size e
  | rng lo hi => obtain ⟨_, _, _, e⟩ := x; exact Heap.lt_size e
  | frz ob u => obtain ⟨e, _⟩ := x; exact Heap.lt_size e
  | tbl ps => exact Heap.lt_size (show h.get? a = some _ from x)
  | met f y => exact Heap.lt_size (show h.get? a = some _ from x)
  | ext φ => obtain ⟨_, ⟨_, e⟩, _⟩ := x; exact Heap.lt_size e
theorem Paired.mapP {α β : Type} {F G : α → β → Prop} : ∀ {l₁ : List α} {l₂ : List β}, Paired F l₁ l₂ → (∀ a b, F a b → G a b) → Paired G l₁ l₂
  | _, _, .nil, _ => .nil
  | _, _, .cons r t, f => .cons (f _ _ r) (Paired.mapP t f)
theorem ObjOk.stay (x : ObjOk P w H h a o) (k : ∀ b u, (b = a ∨ H b = some (.own a)) → h.get? b = some u → h'.get? b = some u)
    (ho : ∀ b, H b = some (.own a) → H' b = some (.own a)) (ht : ∀ b xs, H b = some (.tup xs) → H' b = some (.tup xs)) : ObjOk P w H' h' a o := by
  induction o with
  | lst xs => obtain ⟨z, its, n, r, e⟩ := x; exact ⟨z, its, n, r, k _ _ (.inl rfl) e⟩
  | tup xs => obtain ⟨z, its, r, ob, e, c⟩ := x; exact ⟨z, its, r, ob, k _ _ (.inl rfl) e, c⟩
  | dK kvs => obtain ⟨z, y, vs, r, ob, es, ep, e, c⟩ := x; exact ⟨z, y, vs, r, ob, es, ep, k _ _ (.inl rfl) e, c⟩
  | dT kvs =>
    obtain ⟨z, y, xs, r, ob, es, ep, e, c⟩ := x
    exact ⟨z, y, xs, Paired.mapP r fun p q z => ⟨z.1, ht _ _ z.2.1, z.2.2⟩, ob, es, ep, k _ _ (.inl rfl) e, c⟩
  | set S n => obtain ⟨ob, es, ep, t, e, c⟩ := x; exact ⟨ob, es, ep, t, k _ _ (.inl rfl) e, c⟩
  | ins C dx fs =>
    obtain ⟨d, z, ne, e, mA, ⟨od, es, ep, e2, c⟩, r⟩ := x
    exact ⟨ho _ d, z, ne, k _ _ (.inl rfl) e, mA, ⟨od, es, ep, k _ _ (.inr d) e2, c⟩, r⟩
  | own y => obtain ⟨ob, e⟩ := x; exact ⟨ob, k _ _ (.inl rfl) e⟩
  | xd fs => obtain ⟨mA, ⟨od, es, ep, e, c⟩, r⟩ := x; exact ⟨mA, ⟨od, es, ep, k _ _ (.inl rfl) e, c⟩, r⟩
  | rng lo hi => obtain ⟨t, u, v, e⟩ := x; exact ⟨t, u, v, k _ _ (.inl rfl) e⟩
  | frz ob u ih => obtain ⟨e, q⟩ := x; exact ⟨k _ _ (.inl rfl) e, ih q⟩
  | tbl ps =>
    have e : h.get? a = some { cls := .none, data := .fields ps } := x
    show h'.get? a = some { cls := .none, data := .fields ps }
    exact k a _ (.inl rfl) e
  | met f y =>
    have e : h.get? a = some (PySem.W.methodObj (.ref f) (.ref y)) := x
    show h'.get? a = some (PySem.W.methodObj (.ref f) (.ref y))
    exact k a _ (.inl rfl) e
  | ext φ => obtain ⟨p, ⟨o, e⟩, st⟩ := x; exact ⟨st _ _ p fun o q => k _ _ (.inl rfl) q, ⟨o, k _ _ (.inl rfl) e⟩, st⟩
theorem HOk.lt (x : HOk P w H h) (e : H a = some o) : a < h.objs.size := (x a o e).lt
theorem HOk.fresh (x : HOk P w H h) (e : h.objs.size ≤ a) : H a = none := by
  cases q : H a with
  | none => rfl
  | some u => exact absurd (Nat.lt_of_lt_of_le (x.lt q) e) (Nat.lt_irrefl _)
theorem HOk.kept (x : HOk P w H h) (k : ∀ b u, h.get? b = some u → h'.get? b = some u) : HOk P w H h' := fun a o e =>
  (x a o e).stay (fun b u _ q => k b u q) (fun _ q => q) fun _ _ q => q
theorem HOk.laid (x : HOk P w H h) (k : ∀ b u, h.get? b = some u → h'.get? b = some u) (hp : h.objs.size ≤ a) (new : ObjOk P w (upd H a o) h' a o) : HOk P w (upd H a o) h' := fun b u e => by
  have hn := x.fresh hp
  by_cases hb : b = a
  · subst hb; rw [aa] at e; cases e; exact new
  · rw [ah hb] at e
    exact (x b u e).stay (fun c v _ q => k c v q) (fun c q => by rw [ah (aj q hn)]; exact q) fun c xs q => by rw [ah (aj q hn)]; exact q
end
noncomputable def Rd (H : Hp) (a : Addr) (u : HO) : Prop := H a = some u ∨ ∃ o, H a = some (.frz o u)
theorem Rd.ok {P : Program} {w : World} {H : Hp} {h : Heap} {a : Addr} {u : HO} (r : Rd H a u) (x : HOk P w H h) : ObjOk P w H h a u := by
  rcases r with r | ⟨o, r⟩
  · exact x a u r
  · obtain ⟨_, q⟩ := x a _ r
    exact q
noncomputable def Mut : Option HO → Prop
  | some (.lst _) => True
  | some (.dK _) => True
  | some (.dT _) => True
  | some (.set _ _) => True
  | some (.ins _ _ _) => True
  | some (.ext _) => True
  | _ => False
section
variable {P : Program} {w : World} {H : Hp} {h h' : Heap} {x e : Addr} {o' : HO}
theorem HOk.write (ok : HOk P w H h) (mu : Mut (H x)) (he : e = x ∨ H e = some (.own x)) (k : ∀ b u, b ≠ e → h.get? b = some u → h'.get? b = some u) (heo : ∃ u, h'.get? e = some u)
    (new : ObjOk P w (upd H x o') h' x o') : HOk P w (upd H x o') h' := fun b u q => by
  have nown : ∀ c y, H c = some (.own y) → c ≠ x := fun c y r z => by subst z; rw [r] at mu; exact mu
  have ntup : ∀ c xs, H c = some (.tup xs) → c ≠ x := fun c xs r z => by subst z; rw [r] at mu; exact mu
  by_cases hb : b = x
  · subst hb; rw [aa] at q; cases q; exact new
  · rw [ah hb] at q
    by_cases hbe : b = e
    · have q' : H b = some (.own x) := by
        rcases he with z | z
        · exact absurd (hbe.trans z) hb
        · rw [hbe]; exact z
      rw [q] at q'; cases q'
      obtain ⟨v, hv⟩ := heo
      exact ⟨v, by rw [hbe]; exact hv⟩
    · refine (ok b u q).stay (fun c v hc r => k c v ?_ r) (fun c r => by rw [ah (nown c b r)]; exact r) fun c xs r => by rw [ah (ntup c xs r)]; exact r
      rcases hc with rfl | hc
      · exact hbe
      · rintro rfl
        rcases he with z | z
        · exact nown c b hc z
        · rw [hc] at z; cases z; exact hb rfl
end
structure Un (fs ex : List Addr) (H H' : Hp) (h h' : Heap) : Prop where
  keep : ∀ b o, h.get? b = some o → H b = none → b ∉ fs → b ∉ ex → h'.get? b = some o
  slot : ∀ b o, h.get? b = some o → H b = none → b ∈ fs → b ∉ ex → ∃ sl, h'.get? b = some { o with slots := sl }
  free : ∀ b o, h.get? b = some o → H b = none → b ∉ ex → H' b = none
  there : ∀ b o, h.get? b = some o → b ∉ ex → ∃ o', h'.get? b = some o'
  tups : ∀ b xs, H b = some (.tup xs) → H' b = some (.tup xs)
  frzs : ∀ b o u, H b = some (.frz o u) → H' b = some (.frz o u)
  tbls : ∀ b ps, H b = some (.tbl ps) → ∃ more, H' b = some (.tbl (ps ++ more))
section
variable {fs fs' ex ex' : List Addr} {H H1 H2 : Hp} {h h1 h2 h' : Heap} {a x e : Addr} {o : HO}
theorem Un.any (u : Un fs ex H H1 h h1) {b : Addr} {ob : Obj} (q : h.get? b = some ob) (n : H b = none) (hx : b ∉ ex) : ∃ sl, h1.get? b = some { ob with slots := sl } := by
  by_cases hb : b ∈ fs
  · exact u.slot b ob q n hb hx
  · exact ⟨ob.slots, u.keep b ob q n hb hx⟩
theorem Un.kept (k : ∀ b u, h.get? b = some u → h'.get? b = some u) : Un fs ex H H h h' :=
  ⟨fun b ob q _ _ _ => k b ob q, fun b ob q _ _ _ => ⟨ob.slots, k b ob q⟩, fun _ _ _ n _ => n, fun b ob q _ => ⟨ob, k b ob q⟩, fun _ _ q => q, fun _ _ _ q => q, fun _ ps q => ⟨#[], by rw [q]; simp⟩⟩
theorem Un.refl : Un fs ex H H h h := Un.kept fun _ _ q => q
theorem Un.laid (k : ∀ b u, h.get? b = some u → h'.get? b = some u) (hp : h.objs.size ≤ a) (hn : H a = none) : Un fs ex H (upd H a o) h h' where
  keep := fun b u q _ _ _ => k b u q
  slot := fun b u q _ _ _ => ⟨u.slots, k b u q⟩
  free := fun b u q n _ => by rw [ah (Nat.ne_of_lt (Nat.lt_of_lt_of_le (Heap.lt_size q) hp))]; exact n
  there := fun b u q _ => ⟨u, k b u q⟩
  tups := fun b xs q => by rw [ah (aj q hn)]; exact q
  frzs := fun b u xs q => by rw [ah (aj q hn)]; exact q
  tbls := fun b ps q => ⟨#[], by rw [ah (aj q hn), q]; simp⟩
theorem Un.write (mu : Mut (H x)) (he : e = x ∨ H e = some (.own x)) (k : ∀ b u, b ≠ e → h.get? b = some u → h'.get? b = some u) (heo : ∃ u, h'.get? e = some u) : Un fs ex H (upd H x o) h h' := by
  have hx : ∀ b, H b = none → b ≠ x := fun b n z => by subst z; rw [n] at mu; exact mu
  have hb : ∀ b, H b = none → b ≠ e := fun b n z => by
    subst z
    rcases he with r | r
    · exact hx b n r
    · rw [n] at r; cases r
  have hm : ∀ b u, H b = some u → ¬ Mut (some u) → b ≠ x := fun b u q nm z => by subst z; rw [q] at mu; exact nm mu
  refine ⟨fun b u q n _ _ => k b u (hb b n) q, fun b u q n _ _ => ⟨u.slots, k b u (hb b n) q⟩, fun b u q n _ => by rw [ah (hx b n)]; exact n, fun b u q _ => ?_,
    fun b xs q => by rw [ah (hm b _ q fun z => z)]; exact q, fun b u xs q => by rw [ah (hm b _ q fun z => z)]; exact q, fun b ps q => ⟨#[], by rw [ah (hm b _ q fun z => z), q]; simp⟩⟩
  by_cases hbe : b = e
  · subst hbe; exact heo
  · exact ⟨u, k b u hbe q⟩
end
noncomputable def trk (h : Heap) (H : Hp) : List Addr := (List.range h.objs.size).filter fun a => (H a).isSome
noncomputable def hidT (h : Heap) (H : Hp) : Heap := PySem.W.hideAll h (trk h H)
theorem a1g (h : Heap) (H : Hp) : (hidT h H).objs.size = h.objs.size := PySem.W.hideAll_size _ _
theorem a2e {h : Heap} {H : Hp} {b : Addr} {o : Obj} (e : h.get? b = some o) (n : H b = none) : (hidT h H).get? b = some o :=
  PySem.W.hideAll_get _ e fun hm => by
    have q : (H b).isSome = true := (List.mem_filter.mp hm).2
    rw [n] at q; simp at q
theorem a4a {h : Heap} {H : Hp} {b : Addr} {o : Obj} (e : (hidT h H).get? b = some o) : h.get? b = some o ∧ H b = none := by
  have e' : h.get? b = some o := PySem.W.of_hideAll (trk h H) e
  refine ⟨e', ?_⟩
  cases q : H b with
  | none => rfl
  | some x =>
    have hm : b ∈ trk h H := List.mem_filter.mpr ⟨List.mem_range.mpr (Heap.lt_size e'), by simp [q]⟩
    have z : (hidT h H).get? b = none := PySem.W.hideAll_none (trk h H) hm
    rw [z] at e; cases e
noncomputable def a4f (g h : Heap) (L : Addr) : List (Addr × Obj) := (List.range h.objs.size).filterMap fun a => if a = L ∨ (g.get? a).isSome = true then none else (h.get? a).map fun o => (a, o)
noncomputable def rest (g h : Heap) (L d : Addr) : List (Addr × Obj) := (a4f g h L).filter fun p => decide (p.1 ≠ d)
end L2
namespace L2
open PySem PySem.Spec PyProof.Rows
structure Mod (K : PySem.W.Frag) (mg : Str → Option Value) (base : Heap) : Prop where
  kin : K.In base
  glob : base.Ns mainGlobals mg
  blt : ∃ mb, base.Ns builtinsNs mb ∧ ∀ x : Str, x ≠ "__name__" → mb x = bootBuiltins x
  nolimit : base.NoLimit
structure Cx where
  prog : Program
  w : World
  K : PySem.W.Frag
  mg : Str → Option Value
  base : Heap
  A : Around
  N : List Str
  s₀ : Shared
  H₀ : Hp
  env : Env
  outer : List Env
  stack : List Env
  ex : List Addr
  fn : Str → Bool
  calm : Bool
  pn : List (Addr × Obj)
  xe : Value → Shared → Prop
noncomputable def frs (l : List Env) : List Addr := l.filterMap (·.frame)
noncomputable abbrev Cx.fs (X : Cx) : List Addr := frs X.outer
noncomputable def Vis (sc : Scope) (x : Str) : Prop := sc.names.lookup x = some .local ∨ sc.names.lookup x = some .cell ∨ sc.names.lookup x = some .free
noncomputable def Loc (sc : Scope) (x : Str) : Prop := sc.names.lookup x = some .local ∨ sc.names.lookup x = some .cell
noncomputable def Look (env : Env) (h : Heap) (m : Str → Option Value) (x : Str) (u : Value) : Prop :=
  (env.kindOf x = some .local ∧ m x = some u) ∨ ((env.kindOf x = some .cell ∨ env.kindOf x = some .free) ∧ ∃ c, env.cells.lookup x = some c ∧ h.IsCell c (some u))
structure Cx.Ok (X : Cx) : Prop where
  mod : Mod X.K X.mg X.base
  kind : X.env.scope.kind = .function
  glob : X.env.globals = mainGlobals
  blt : X.env.builtins = builtinsNs
  above : X.s₀.heap.objs.size ≤ X.env.locals
  inj : ∀ x y c, X.env.cells.lookup x = some c → X.env.cells.lookup y = some c → x = y
  has : ∀ x, (X.env.kindOf x = some .cell ∨ X.env.kindOf x = some .free) → ∃ c, X.env.cells.lookup x = some c
  cab : ∀ x c, X.fn x = true → X.env.cells.lookup x = some c → X.s₀.heap.objs.size ≤ c
  hd : X.calm = true → X.A.handled = none
  frames : X.A.frames = some X.stack
  stk : X.stack = X.outer ∨ (X.stack = X.env :: X.outer ∧ X.env.frame = some X.env.locals)
  exf : ∀ b ∈ X.ex, b ≠ X.env.locals ∧ ∀ x c, X.env.cells.lookup x = some c → c ≠ b
  bs : ∀ b o, X.base.get? b = some o → X.s₀.heap.get? b = some o ∧ X.H₀ b = none
  bsz : X.base.objs.size ≤ X.s₀.heap.objs.size
  noex : ∀ b o, X.base.get? b = some o → b ∉ X.ex
  exfs : ∀ b ∈ X.ex, b ∉ X.fs
  funs : X.s₀.heap.FunFrames X.base X.outer
  frf : ∀ b ∈ X.fs, X.H₀ b = none
structure Inv (X : Cx) (pins : List (Addr × Obj)) (σ : List (Option V)) (H : Hp) (s : Shared) : Prop where
  ok : X.Ok
  os : s.os = X.s₀.os
  bare : AllBare s.gens
  base : Un X.fs X.ex X.H₀ H X.s₀.heap s.heap
  loc : ∃ m, s.heap.Ns X.env.locals m ∧ ∀ (i : Nat) (x : Str) (v : V), X.N[i]? = some x → σ[i]? = some (some v) → Vis X.env.scope x → ∃ u, RelV v u ∧ Look X.env s.heap m x u
  cell : ∀ x c, X.env.cells.lookup x = some c → ∃ v, s.heap.IsCell c v
  free : H X.env.locals = none
  freeC : ∀ x c, X.env.cells.lookup x = some c → H c = none
  pin : ∀ p ∈ X.pn ++ pins, s.heap.get? p.1 = some p.2 ∧ H p.1 = none ∧ p.1 ≠ X.env.locals ∧ p.1 ∉ X.fs ∧ ∀ v, p.2.data ≠ .cell v
  hok : HOk X.prog X.w H s.heap
  len : σ.length = X.N.length
section
variable {X : Cx} {pins : List (Addr × Obj)} {σ : List (Option V)} {H H' : Hp} {s : Shared} {h' : Heap}
theorem Cx.Ok.nofr (ok : X.Ok) {b : Addr} {o : Obj} (e : X.base.get? b = some o) : b ∉ X.fs := fun hb => by
  have := (ok.funs.mem hb).1
  rw [e] at this; cases this
theorem Inv.bs (I : Inv X pins σ H s) : ∀ b o, X.base.get? b = some o → s.heap.get? b = some o ∧ H b = none := fun b o e =>
  ⟨I.base.keep b o (I.ok.bs b o e).1 (I.ok.bs b o e).2 (I.ok.nofr e) (I.ok.noex b o e), I.base.free b o (I.ok.bs b o e).1 (I.ok.bs b o e).2 (I.ok.noex b o e)⟩
theorem Inv.bk (I : Inv X pins σ H s) : ∀ b o, X.base.get? b = some o → s.heap.get? b = some o := fun b o e => (I.bs b o e).1
theorem Inv.mod (I : Inv X pins σ H s) : Mod X.K X.mg X.base := I.ok.mod
theorem Inv.kIn (I : Inv X pins σ H s) : X.K.In s.heap := I.ok.mod.kin.keeps I.bk
theorem Inv.lt (I : Inv X pins σ H s) : X.env.locals < s.heap.objs.size := let ⟨_, hn, _⟩ := I.loc; hn.lt
theorem Inv.sz (I : Inv X pins σ H s) : X.s₀.heap.objs.size ≤ s.heap.objs.size := Nat.le_trans I.ok.above (Nat.le_of_lt I.lt)
theorem Inv.nofs (I : Inv X pins σ H s) {a : Addr} (h : s.heap.objs.size ≤ a) : a ∉ X.fs := fun hb => by
  obtain ⟨_, o, ho, _⟩ := I.ok.funs.mem hb
  exact absurd (Nat.lt_of_lt_of_le (Heap.lt_size ho) (Nat.le_trans I.sz h)) (Nat.lt_irrefl _)
theorem Inv.cne (I : Inv X pins σ H s) : ∀ x c, X.env.cells.lookup x = some c → c ≠ X.env.locals := fun x c e z => by
  obtain ⟨v, o, ho, hd⟩ := I.cell x c e
  obtain ⟨m, ⟨o', es, ep, ho', hd', _⟩, _⟩ := I.loc
  rw [z, ho'] at ho; cases ho; rw [hd'] at hd; cases hd
theorem Inv.funs (I : Inv X pins σ H s) : s.heap.FunFrames X.base X.outer := by
  have all : ∀ (l : List Env), (∀ b ∈ frs l, b ∈ X.fs) → X.s₀.heap.FunFrames X.base l → s.heap.FunFrames X.base l := by
    intro l
    induction l with
    | nil => intro _ _; trivial
    | cons env r ih =>
      intro hs hl
      obtain ⟨hk, ⟨L, o, hf, hn, ho, hd⟩, hr⟩ := hl
      have hL : L ∈ X.fs := hs L (by unfold frs; rw [List.filterMap_cons, hf]; exact List.mem_cons_self)
      obtain ⟨sl, e⟩ := I.base.slot L o ho (I.ok.frf L hL) hL fun z => I.ok.exfs L z hL
      exact ⟨hk, ⟨L, _, hf, hn, e, hd⟩, ih (fun b hb => hs b (by unfold frs; rw [List.filterMap_cons, hf]; exact List.mem_cons_of_mem _ hb)) hr⟩
  exact all X.outer (fun _ hb => hb) I.ok.funs
theorem Inv.stack (I : Inv X pins σ H s) : s.heap.FunFrames X.base X.stack := by
  rcases I.ok.stk with e | ⟨e, hf⟩
  · rw [e]; exact I.funs
  · rw [e]
    obtain ⟨m, hn, _⟩ := I.loc
    refine .cons (by rw [I.ok.kind]; decide) hf hn ?_ I.funs
    exact Heap.get?_none_of_le (Nat.le_trans I.ok.bsz I.ok.above)
theorem Inv.stkSub (I : Inv X pins σ H s) : ∀ b ∈ frs X.stack, b ∈ X.env.locals :: X.fs := fun b hb => by
  rcases I.ok.stk with e | ⟨e, hf⟩
  · rw [e] at hb; exact List.mem_cons_of_mem _ hb
  · rw [e] at hb
    unfold frs at hb
    rw [List.filterMap_cons, hf] at hb
    exact hb
theorem Inv.stkFree (I : Inv X pins σ H s) : ∀ b ∈ frs X.stack, H b = none := fun b hb => by
  rcases List.mem_cons.mp (I.stkSub b hb) with e | hb
  · rw [e]; exact I.free
  · obtain ⟨_, o, ho, _⟩ := I.ok.funs.mem hb
    exact I.base.free b o ho (I.ok.frf b hb) fun z => I.ok.exfs b z hb
theorem Inv.step {g' : Array GenState} {t' : Nat} {d' : Drawn} {ch : List Addr} (I : Inv X pins σ H s)
    (hch : ∀ b ∈ ch, (b ∈ X.ex ∨ X.s₀.heap.objs.size ≤ b) ∧ b ≠ X.env.locals ∧ (∀ x c, X.env.cells.lookup x = some c → c ≠ b) ∧ ∀ p ∈ X.pn ++ pins, p.1 ≠ b)
    (keep : ∀ b o, b ≠ X.env.locals → b ∉ X.fs → b ∉ ch → s.heap.get? b = some o → H b = none → h'.get? b = some o)
    (slot : ∀ b o, b ≠ X.env.locals → b ∈ X.fs → b ∉ ch → s.heap.get? b = some o → H b = none → ∃ sl, h'.get? b = some { o with slots := sl }) (free : ∀ b o, b ∉ ch → s.heap.get? b = some o → H b = none → H' b = none)
    (there : ∀ b o, b ∉ ch → s.heap.get? b = some o → ∃ o', h'.get? b = some o')
    (tups : ∀ b xs, H b = some (.tup xs) → H' b = some (.tup xs)) (frzs : ∀ b o u, H b = some (.frz o u) → H' b = some (.frz o u)) (tbls : ∀ b ps, H b = some (.tbl ps) → ∃ more, H' b = some (.tbl (ps ++ more)))
    (ns : ∀ m, s.heap.Ns X.env.locals m → h'.Ns X.env.locals m) (hok : HOk X.prog X.w H' h') (hg : AllBare g') :
    Inv X pins σ H' { s with heap := h', gens := g', drawn := d', toks := t' } := by
  have neL : ∀ b o, X.s₀.heap.get? b = some o → b ≠ X.env.locals := fun b o e => Nat.ne_of_lt (Nat.lt_of_lt_of_le (Heap.lt_size e) I.ok.above)
  have neC : ∀ b o, X.s₀.heap.get? b = some o → b ∉ X.ex → b ∉ ch := fun b o e hx hb => by
    rcases (hch b hb).1 with z | z
    · exact hx z
    · exact absurd (Nat.lt_of_lt_of_le (Heap.lt_size e) z) (Nat.lt_irrefl _)
  have cellK : ∀ x c, X.env.cells.lookup x = some c → ∀ v, s.heap.IsCell c v → h'.IsCell c v := fun x c e v ⟨o, ho, hd⟩ => by
    have nch : c ∉ ch := fun z => (hch c z).2.2.1 x c e rfl
    by_cases hc : c ∈ X.fs
    · obtain ⟨sl, q⟩ := slot c o (I.cne x c e) hc nch ho (I.freeC x c e)
      exact ⟨_, q, hd⟩
    · exact ⟨o, keep c o (I.cne x c e) hc nch ho (I.freeC x c e), hd⟩
  refine ⟨I.ok, I.os, hg, ⟨fun b o e n hb hx => ?_, fun b o e n hb hx => ?_, fun b o e n hx => ?_, fun b o e hx => ?_, fun b xs e => tups b xs (I.base.tups b xs e), fun b o xs e => frzs b o xs (I.base.frzs b o xs e), fun b ps e => ?_⟩, ?_, fun x c e => ?_, ?_, fun x c e => ?_, fun p hp => ?_, hok, I.len⟩
  · exact keep b o (neL b o e) hb (neC b o e hx) (I.base.keep b o e n hb hx) (I.base.free b o e n hx)
  · obtain ⟨sl, e1⟩ := I.base.slot b o e n hb hx
    obtain ⟨sl', e2⟩ := slot b _ (neL b o e) hb (neC b o e hx) e1 (I.base.free b o e n hx)
    exact ⟨sl', e2⟩
  · obtain ⟨o', e1⟩ := I.base.there b o e hx
    exact free b o' (neC b o e hx) e1 (I.base.free b o e n hx)
  · obtain ⟨o', e1⟩ := I.base.there b o e hx
    exact there b o' (neC b o e hx) e1
  · obtain ⟨m1, e1⟩ := I.base.tbls b ps e
    obtain ⟨m2, e2⟩ := tbls b _ e1
    exact ⟨m1 ++ m2, by rw [e2, Array.append_assoc]⟩
  · obtain ⟨m, hn, hl⟩ := I.loc
    refine ⟨m, ns m hn, fun i x v e1 e2 e3 => ?_⟩
    obtain ⟨u, r, l⟩ := hl i x v e1 e2 e3
    refine ⟨u, r, ?_⟩
    rcases l with l | ⟨k, c, e, z⟩
    · exact .inl l
    · exact .inr ⟨k, c, e, cellK x c e _ z⟩
  · obtain ⟨v, z⟩ := I.cell x c e
    exact ⟨v, cellK x c e v z⟩
  · obtain ⟨m, ⟨o, _, _, ho, _⟩, _⟩ := I.loc
    exact free _ o (fun z => (hch _ z).2.1 rfl) ho I.free
  · obtain ⟨v, o, ho, hd⟩ := I.cell x c e
    exact free c o (fun z => (hch c z).2.2.1 x c e rfl) ho (I.freeC x c e)
  · obtain ⟨e, n, ne, nf, d⟩ := I.pin p hp
    have nch : p.1 ∉ ch := fun z => (hch p.1 z).2.2.2 p hp rfl
    exact ⟨keep p.1 p.2 ne nf nch e n, free p.1 p.2 nch e n, ne, nf, d⟩
theorem Inv.un {t' : Nat} (I : Inv X pins σ H s) (u : Un X.fs [] H H' s.heap h') (hok : HOk X.prog X.w H' h') : Inv X pins σ H' { s with heap := h', toks := t' } := by
  obtain ⟨m, ⟨o, es, ep, ho, r⟩, _⟩ := id I.loc
  obtain ⟨sl, hL⟩ := u.any ho I.free (by simp)
  exact I.step (g' := s.gens) (d' := s.drawn) (ch := []) (fun _ z => nomatch z) (fun b o _ hb _ e n => u.keep b o e n hb (by simp)) (fun b o _ hb _ e n => u.slot b o e n hb (by simp)) (fun b o _ e n => u.free b o e n (by simp)) (fun b o _ e => u.there b o e (by simp)) u.tups u.frzs u.tbls (fun m' hm => by
    obtain ⟨o', es', ep', ho', r'⟩ := hm
    rw [ho] at ho'; cases ho'
    exact ⟨_, es', ep', hL, r'⟩) hok I.bare
theorem Inv.call {g' : Array GenState} {t' : Nat} {d' : Drawn} {ch : List Addr} (I : Inv X pins σ H s) (u : Un (frs X.stack) ch H H' s.heap h') (hok : HOk X.prog X.w H' h') (hg : AllBare g')
    (hch : ∀ b ∈ ch, (b ∈ X.ex ∨ X.s₀.heap.objs.size ≤ b) ∧ b ≠ X.env.locals ∧ (∀ x c, X.env.cells.lookup x = some c → c ≠ b) ∧ ∀ p ∈ X.pn ++ pins, p.1 ≠ b) :
    Inv X pins σ H' { s with heap := h', gens := g', drawn := d', toks := t' } := by
  obtain ⟨m, ⟨o, es, ep, ho, r⟩, _⟩ := id I.loc
  obtain ⟨sl, hL⟩ := u.any ho I.free fun z => (hch _ z).2.1 rfl
  exact I.step (ch := ch) hch (fun b o hL hb hc e n => u.keep b o e n (fun z => (List.mem_cons.mp (I.stkSub b z)).elim hL hb) hc) (fun b o _ _ hc e n => u.any e n hc) (fun b o hc e n => u.free b o e n hc) (fun b o hc e => u.there b o e hc) u.tups u.frzs u.tbls (fun m' hm => by
    obtain ⟨o', es', ep', ho', r'⟩ := hm
    rw [ho] at ho'; cases ho'
    exact ⟨_, es', ep', hL, r'⟩) hok hg
theorem Inv.turned {t' : Nat} {it : Addr} (I : Inv X pins σ H s) (k : ∀ b o, b ≠ it → s.heap.get? b = some o → h'.get? b = some o) (hn : H it = none) (hL : it ≠ X.env.locals)
    (h1 : it ∈ X.ex ∨ X.s₀.heap.objs.size ≤ it) (h2 : ∀ x c, X.env.cells.lookup x = some c → c ≠ it) (h3 : ∀ p ∈ X.pn ++ pins, p.1 ≠ it) : Inv X pins σ H { s with heap := h', toks := t' } := by
  have nit : ∀ b u, H b = some u → b ≠ it := fun b u e z => by rw [z, hn] at e; cases e
  refine I.step (g' := s.gens) (d' := s.drawn) (ch := [it]) (fun b hb => ?_) (fun b o _ _ hc e _ => k b o (fun z => hc (by simp [z])) e) (fun b o _ _ hc e _ => ⟨o.slots, k b o (fun z => hc (by simp [z])) e⟩) (fun _ _ _ _ n => n)
    (fun b o hc e => ⟨o, k b o (fun z => hc (by simp [z])) e⟩) (fun _ _ e => e) (fun _ _ _ e => e) (fun b ps e => ⟨#[], by rw [e]; simp⟩) (fun m hm => ?_) (fun b u e => ?_) I.bare
  · have e : b = it := by simpa using hb
    subst e
    exact ⟨h1, hL, h2, h3⟩
  · obtain ⟨o, es, ep, ho, r⟩ := hm
    exact ⟨o, es, ep, k _ o (Ne.symm hL) ho, r⟩
  · refine (I.hok b u e).stay (fun c v hc q => k c v ?_ q) (fun _ q => q) fun _ _ q => q
    rcases hc with z | z
    · rw [z]; exact nit b u e
    · exact nit c _ z
theorem Inv.tok (I : Inv X pins σ H s) (t : Nat) : Inv X pins σ H { s with toks := t } := I.un (h' := s.heap) (t' := t) Un.refl I.hok
theorem Inv.kept {t' : Nat} (I : Inv X pins σ H s) (k : ∀ b u, s.heap.get? b = some u → h'.get? b = some u) : Inv X pins σ H { s with heap := h', toks := t' } := I.un (Un.kept k) (I.hok.kept k)
theorem Inv.laid {a : Addr} {o : HO} {t' : Nat} (I : Inv X pins σ H s) (k : ∀ b u, s.heap.get? b = some u → h'.get? b = some u) (hp : s.heap.objs.size ≤ a) (new : ObjOk X.prog X.w (upd H a o) h' a o) :
    Inv X pins σ (upd H a o) { s with heap := h', toks := t' } := I.un (Un.laid k hp (I.hok.fresh hp)) (I.hok.laid k hp new)
theorem Inv.write {x e : Addr} {o : HO} {t' : Nat} (I : Inv X pins σ H s) (mu : Mut (H x)) (he : e = x ∨ H e = some (.own x)) (k : ∀ b u, b ≠ e → s.heap.get? b = some u → h'.get? b = some u) (heo : ∃ u, h'.get? e = some u)
    (new : ObjOk X.prog X.w (upd H x o) h' x o) : Inv X pins σ (upd H x o) { s with heap := h', toks := t' } := I.un (Un.write mu he k heo) (I.hok.write mu he k heo new)
theorem Inv.pins_of {pins' : List (Addr × Obj)} (I : Inv X pins σ H s) (h : ∀ p ∈ pins', s.heap.get? p.1 = some p.2 ∧ H p.1 = none ∧ p.1 ≠ X.env.locals ∧ p.1 ∉ X.fs ∧ ∀ v, p.2.data ≠ .cell v) : Inv X pins' σ H s :=
  ⟨I.ok, I.os, I.bare, I.base, I.loc, I.cell, I.free, I.freeC, fun p hp => (List.mem_append.mp hp).elim (fun z => I.pin p (List.mem_append_left _ z)) (h p), I.hok, I.len⟩
theorem vf {N : List Str} (hN : N.Nodup) {i j : Nat} {x : Str} (a : N[i]? = some x) (b : N[j]? = some x) : i = j := by
  obtain ⟨h1, e1⟩ := List.getElem?_eq_some_iff.mp a
  obtain ⟨h2, e2⟩ := List.getElem?_eq_some_iff.mp b
  exact (List.getElem_inj hN).mp (e1.trans e2.symm)
theorem rz {M : Model} {A : Around} {E : Value → Shared → Prop} {i : Nat} {x : Str} {v : V} {u : Value} {Q : Unit → Shared → Prop} (I : Inv X pins σ H s) (hN : X.N.Nodup) (hi : X.N[i]? = some x) (hx : Loc X.env.scope x) (r : RelV v u)
    (h : ∀ s', Inv X pins (σ.set i (some v)) H s' → (∃ a, Heap.SameBut a s.heap s'.heap ∧ (a = X.env.locals ∨ X.env.cells.lookup x = some a)) → Q () s') (hf : X.fn x = true ∨ X.env.scope.names.lookup x = some .local := by first | exact .inl rfl | exact .inr rfl | assumption) : wpAny M A (storeName X.env x u) Q E s := by
  obtain ⟨m, hn, hl⟩ := id I.loc
  have hcls : (X.env.scope.kind == .class || (X.env.scope.kind == .module && X.env.locals != X.env.globals)) = false := by rw [I.ok.kind]; rfl
  have hiσ : i < σ.length := by rw [I.len]; exact (List.getElem?_eq_some_iff.mp hi).1
  have cne := I.cne
  have tracked : ∀ {a : Addr} {h' : Heap}, (∃ o, s.heap.get? a = some o ∧ H a = none) → Heap.SameBut a s.heap h' → HOk X.prog X.w H h' := fun {a h'} ha hs b ob e => by
    obtain ⟨_, _, hfree⟩ := ha
    refine (I.hok b ob e).stay (fun c w' hc q => (hs.2 c ?_).trans q) (fun _ q => q) fun _ _ q => q
    rintro rfl
    rcases hc with rfl | hc
    · rw [hfree] at e; cases e
    · rw [hfree] at hc; cases hc
  rcases hx with hk | hk
  · refine wpAny_storeName_local hk hn (fun h' hn' hs => ?_) hcls
    obtain ⟨oL, _, _, hoL, _⟩ := id hn
    refine h _ ⟨I.ok, I.os, I.bare, ⟨fun b o e n hb hx => ?_, fun b o e n hb hx => ?_, I.base.free, fun b o e hx => ?_, I.base.tups, I.base.frzs, I.base.tbls⟩, ⟨_, hn', fun j y v' e1 e2 e3 => ?_⟩, fun y c e => ?_, I.free, I.freeC, fun p hp => ?_, tracked ⟨oL, hoL, I.free⟩ hs, by simpa using I.len⟩ ⟨_, hs, .inl rfl⟩
    · exact (hs.2 b (Nat.ne_of_lt (Nat.lt_of_lt_of_le (Heap.lt_size e) I.ok.above))).trans (I.base.keep b o e n hb hx)
    · obtain ⟨sl, e1⟩ := I.base.slot b o e n hb hx
      exact ⟨sl, (hs.2 b (Nat.ne_of_lt (Nat.lt_of_lt_of_le (Heap.lt_size e) I.ok.above))).trans e1⟩
    · obtain ⟨o', e1⟩ := I.base.there b o e hx
      exact ⟨o', (hs.2 b (Nat.ne_of_lt (Nat.lt_of_lt_of_le (Heap.lt_size e) I.ok.above))).trans e1⟩
    · by_cases hj : j = i
      · subst hj
        rw [hi] at e1; cases e1
        rw [List.getElem?_set_self hiσ] at e2
        cases e2
        exact ⟨u, r, .inl ⟨hk, by simp⟩⟩
      · rw [List.getElem?_set_ne (Ne.symm hj)] at e2
        obtain ⟨u', r', q⟩ := hl j y v' e1 e2 e3
        refine ⟨u', r', ?_⟩
        rcases q with ⟨k, e⟩ | ⟨k, c, e, z⟩
        · refine .inl ⟨k, ?_⟩
          have : y ≠ x := fun e => hj (vf hN e1 (e ▸ hi))
          simp [this, e]
        · exact .inr ⟨k, c, e, z.sameBut hs (cne y c e)⟩
    · obtain ⟨w', z⟩ := I.cell y c e
      exact ⟨w', z.sameBut hs (cne y c e)⟩
    · obtain ⟨e, n, ne, nf, d⟩ := I.pin p hp
      exact ⟨(hs.2 p.1 ne).trans e, n, ne, nf, d⟩
  · have hfn : X.fn x = true := by
      rcases hf with z | z
      · exact z
      · rw [z] at hk; cases hk
    obtain ⟨c, hc⟩ := I.ok.has x (.inl hk)
    obtain ⟨w', z⟩ := I.cell x c hc
    refine wpAny_storeName_cell I.ok.kind hk hc z (fun h' hc' hs => ?_)
    obtain ⟨oc, hoc, hocd⟩ := id z
    refine h { s with heap := h' } ⟨I.ok, I.os, I.bare, ⟨fun b o e n hb hx => ?_, fun b o e n hb hx => ?_, I.base.free, fun b o e hx => ?_, I.base.tups, I.base.frzs, I.base.tbls⟩, ⟨m, hn.sameBut hs (Ne.symm (cne x c hc)), fun j y v' e1 e2 e3 => ?_⟩, fun y c' e => ?_, I.free, I.freeC, fun p hp => ?_, tracked ⟨oc, hoc, I.freeC x c hc⟩ hs, by simpa using I.len⟩ ⟨c, hs, .inr hc⟩
    · exact (hs.2 b (Nat.ne_of_lt (Nat.lt_of_lt_of_le (Heap.lt_size e) (I.ok.cab x c hfn hc)))).trans (I.base.keep b o e n hb hx)
    · obtain ⟨sl, e1⟩ := I.base.slot b o e n hb hx
      exact ⟨sl, (hs.2 b (Nat.ne_of_lt (Nat.lt_of_lt_of_le (Heap.lt_size e) (I.ok.cab x c hfn hc)))).trans e1⟩
    · obtain ⟨o', e1⟩ := I.base.there b o e hx
      exact ⟨o', (hs.2 b (Nat.ne_of_lt (Nat.lt_of_lt_of_le (Heap.lt_size e) (I.ok.cab x c hfn hc)))).trans e1⟩
    · by_cases hj : j = i
      · subst hj
        rw [hi] at e1; cases e1
        rw [List.getElem?_set_self hiσ] at e2
        cases e2
        exact ⟨u, r, .inr ⟨.inl hk, c, hc, hc'⟩⟩
      · rw [List.getElem?_set_ne (Ne.symm hj)] at e2
        obtain ⟨u', r', q⟩ := hl j y v' e1 e2 e3
        refine ⟨u', r', ?_⟩
        rcases q with q | ⟨k, c', e, z'⟩
        · exact .inl q
        · refine .inr ⟨k, c', e, z'.sameBut hs ?_⟩
          rintro rfl
          exact hj (vf hN e1 (I.ok.inj _ _ _ e hc ▸ hi))
    · by_cases hcc : c' = c
      · subst hcc; exact ⟨_, hc'⟩
      · obtain ⟨w2, z2⟩ := I.cell y c' e
        exact ⟨w2, z2.sameBut hs hcc⟩
    · obtain ⟨e, n, ne, nf, d⟩ := I.pin p hp
      refine ⟨(hs.2 p.1 ?_).trans e, n, ne, nf, d⟩
      intro q
      rw [q, hoc] at e
      have q' : oc = p.2 := Option.some.inj e
      exact d w' (by rw [← q']; exact hocd)
theorem kr {M : Model} {A : Around} {E : Value → Shared → Prop} {i : Nat} {x : Str} {v : V} {u : Value} {Q : Unit → Shared → Prop} (I : Inv X pins σ H s) (hN : X.N.Nodup) (hi : X.N[i]? = some x) (hx : Loc X.env.scope x) (r : RelV v u)
    (h : ∀ s', Inv X pins (σ.set i (some v)) H s' → Q () s') (hf : X.fn x = true ∨ X.env.scope.names.lookup x = some .local := by first | exact .inl rfl | exact .inr rfl | assumption) : wpAny M A (storeName X.env x u) Q E s :=
  rz I hN hi hx r (fun s' I' _ => h s' I') hf
theorem Inv.call' {s' : Shared} {ch : List Addr} (I : Inv X pins σ H s) (ho : s'.os = s.os) (u : Un (frs X.stack) ch H H' s.heap s'.heap) (hok : HOk X.prog X.w H' s'.heap) (hg : AllBare s'.gens)
    (hch : ∀ b ∈ ch, (b ∈ X.ex ∨ X.s₀.heap.objs.size ≤ b) ∧ b ≠ X.env.locals ∧ (∀ x c, X.env.cells.lookup x = some c → c ≠ b) ∧ ∀ p ∈ X.pn ++ pins, p.1 ≠ b) : Inv X pins σ H' s' := by
  obtain ⟨h', g', d', t', o'⟩ := s'
  have e : o' = s.os := ho
  subst e
  exact I.call (g' := g') (t' := t') (d' := d') u hok hg hch
end
abbrev XK := Value → Option Addr → Hp → Prop
abbrev St := List (Option V)
abbrev VK := V → Hp → Prop
abbrev TE := St → Hp → VK → Prop
abbrev TT := St → Hp → (Bool → Hp → Prop) → Prop
abbrev TA := St → Hp → (List V → Hp → Prop) → Prop
structure Ends where
  nx : St → Hp → Prop
  rt : VK
  bk : St → Hp → Prop := fun _ _ => False
  ct : St → Hp → Prop := fun _ _ => False
abbrev TS := Ends → St → Hp → Prop
inductive EPS (X : Cx) (pins : List (Addr × Obj)) (σ : St) (Q : VK) (u : Value) (s' : Shared) : Prop
  | mk (v : V) (H' : Hp) (h0 : Inv X pins σ H' s') (h1 : RelV v u) (h2 : Q v H') : EPS X pins σ Q u s'
noncomputable def EP (X : Cx) (pins : List (Addr × Obj)) (σ : St) (Q : VK) (u : Value) (s' : Shared) : Prop := EPS X pins σ Q u s'
noncomputable def TP (X : Cx) (pins : List (Addr × Obj)) (σ : St) (Q : Bool → Hp → Prop) (b : Bool) (s' : Shared) : Prop := ∃ H', Inv X pins σ H' s' ∧ Q b H'
inductive APS (X : Cx) (pins : List (Addr × Obj)) (σ : St) (Q : List V → Hp → Prop) (us : List Value) (s' : Shared) : Prop
  | mk (vs : List V) (H' : Hp) (h0 : Inv X pins σ H' s') (h1 : Vals vs us) (h2 : Q vs H') : APS X pins σ Q us s'
noncomputable def AP (X : Cx) (pins : List (Addr × Obj)) (σ : St) (Q : List V → Hp → Prop) (us : List Value) (s' : Shared) : Prop := APS X pins σ Q us s'
noncomputable def SP (X : Cx) (pins : List (Addr × Obj)) (D : Ends) (f : Flow) (s' : Shared) : Prop :=
  match f with
  | .next => ∃ σ' H', Inv X pins σ' H' s' ∧ D.nx σ' H'
  | .brk => ∃ σ' H', Inv X pins σ' H' s' ∧ D.bk σ' H'
  | .cont => ∃ σ' H', Inv X pins σ' H' s' ∧ D.ct σ' H'
  | .ret u => ∃ v σ' H', Inv X pins σ' H' s' ∧ RelV v u ∧ D.rt v H'
noncomputable def PE (X : Cx) (e : Expr) (t : TE) : Prop :=
  ∀ (pins : List (Addr × Obj)) (s : Shared) (σ : St) (H : Hp) (Q : VK), Inv X pins σ H s → t σ H Q → wpAny (model X.prog X.w) X.A (eval e X.env) (EP X pins σ Q) X.xe s
noncomputable def PT (X : Cx) (e : Expr) (t : TT) : Prop :=
  ∀ (pins : List (Addr × Obj)) (s : Shared) (σ : St) (H : Hp) (Q : Bool → Hp → Prop), Inv X pins σ H s → t σ H Q → wpAny (model X.prog X.w) X.A (isTrue e X.env (eval e X.env)) (TP X pins σ Q) X.xe s
noncomputable def PW (X : Cx) (e : Expr) (t : TT) : Prop :=
  ∀ (whole : Sem Value) (pins : List (Addr × Obj)) (s : Shared) (σ : St) (H : Hp) (Q : Bool → Hp → Prop), Inv X pins σ H s → t σ H Q → wpAny (model X.prog X.w) X.A (isTrue e X.env whole) (TP X pins σ Q) X.xe s
theorem PW.pt {X : Cx} {e : Expr} {t : TT} (h : PW X e t) : PT X e t := h _
noncomputable def PA (X : Cx) (es : List Expr) (t : TA) : Prop :=
  ∀ (pos : Pos) (pins : List (Addr × Obj)) (s : Shared) (σ : St) (H : Hp) (Q : List V → Hp → Prop), Inv X pins σ H s → t σ H Q → wpAny (model X.prog X.w) X.A (spliced (backTo pos (starEach es X.env))) (AP X pins σ Q) X.xe s
noncomputable def PS (X : Cx) (st : Stmt) (t : TS) : Prop :=
  ∀ (pins : List (Addr × Obj)) (s : Shared) (σ : St) (H : Hp) (D : Ends), Inv X pins σ H s → t D σ H → wpAny (model X.prog X.w) X.A (exec st X.env) (SP X pins D) X.xe s
noncomputable def PSs (X : Cx) (st : List Stmt) (t : TS) : Prop :=
  ∀ (pins : List (Addr × Obj)) (s : Shared) (σ : St) (H : Hp) (D : Ends), Inv X pins σ H s → t D σ H → wpAny (model X.prog X.w) X.A (execs st X.env) (SP X pins D) X.xe s
theorem thn {α : Type} {t : Sem α} {Q Q' : α → Shared → Prop} {M : Model} {A : Around} {E : Value → Shared → Prop} {s : Shared} (h : wpAny M A t Q E s) (hQ : ∀ a s, Q a s → Q' a s) : wpAny M A t Q' E s := wpAny_mono h hQ fun _ _ x => x
end L2
namespace L2
open PySem PySem.Spec PyProof.Rows
section
variable {X : Cx}
inductive tVarS (i : Nat) (σ : St) (H : Hp) (Q : VK) : Prop
  | mk (v : V) (h0 : σ[i]? = some (some v)) (h1 : Q v H) : tVarS i σ H Q
noncomputable def tVar (i : Nat) : TE := fun σ H Q => tVarS i σ H Q
noncomputable def tC (v : V) : TE := fun _ H Q => Q v H
theorem a61 {i : Nat} {x : Str} {pos : Pos} (hN : X.N[i]? = some x) (hv : Vis X.env.scope x) (hd : (x == ("__debug__" : Str)) = false := by decide) (hcd : (x == ("__classdict__" : Str)) = false := by decide) : PE X (.Name x pos) (tVar i) := by
  intro pins s σ H Q I h
  obtain ⟨v, e, h⟩ := h
  obtain ⟨m, hn, hl⟩ := I.loc
  obtain ⟨u, r, l⟩ := hl i x v hN e hv
  have fin : EP X pins σ Q u s := ⟨v, H, I, r, h⟩
  rcases l with ⟨hk, hm⟩ | ⟨hk, c, hc, hcell⟩
  · exact wpAny_Name (wpAny_loadName_local I.ok.kind hk hn hm fin) hd
  · rcases hk with hk | hk
    · exact wpAny_Name (wpAny_loadName_cell I.ok.kind hk hc hcell fin) hd
    · exact wpAny_Name (wpAny_loadName_free I.ok.kind hk hc hcell fin hcd) hd
theorem jb {i j pos} : PE X (.Constant (.int i) j pos) (tC (.int i)) := fun _ _ _ H _ I h => wpAny_Constant_int ⟨.int i, H, I.tok _, ⟨_, rfl⟩, h⟩
theorem a6l {b j pos} : PE X (.Constant (.bool b) j pos) (tC (.bl b)) := fun _ _ _ H _ I h => Constant_bool ⟨.bl b, H, I, rfl, h⟩
theorem a5t {j pos} : PE X (.Constant .none j pos) (tC .non) := fun _ _ _ H _ I h => Constant_none ⟨.non, H, I, rfl, h⟩
theorem a0h {x j pos} : PE X (.Constant (.str x) j pos) (tC (.str x)) := fun _ _ _ H _ I h => Calls.Constant_str ⟨.str x, H, I.tok _, ⟨_, rfl⟩, h⟩
noncomputable def Gl (X : Cx) (x : Str) : Prop := X.env.kindOf x = some .globalImplicit
theorem qb {E : Value → Shared → Prop} {pins : List (Addr × Obj)} {s : Shared} {σ : St} {H : Hp} {x : Str} {u : Value} {pos : Pos} {Q : Value → Shared → Prop} (I : Inv X pins σ H s) (hg : Gl X x) (hm : X.mg x = some u) (h : Q u s)
    (hd : (x == ("__debug__" : Str)) = false := by decide) : wpAny (model X.prog X.w) X.A (eval (.Name x pos) X.env) Q E s :=
  Calls.Name_function_global I.ok.kind hg (Calls.loadGlobal_global (by rw [I.ok.glob]; exact I.mod.glob.keeps I.bk) hm h) hd
theorem mq {E : Value → Shared → Prop} {pins : List (Addr × Obj)} {s : Shared} {σ : St} {H : Hp} {x : Str} {u : Value} {pos : Pos} {Q : Value → Shared → Prop} (I : Inv X pins σ H s) (hg : Gl X x) (hm : X.mg x = none) (hv : bootBuiltins x = some u) (h : Q u s)
    (hn : x ≠ "__name__" := by decide) (hd : (x == ("__debug__" : Str)) = false := by decide) : wpAny (model X.prog X.w) X.A (eval (.Name x pos) X.env) Q E s := by
  obtain ⟨mb, h1, h2⟩ := I.mod.blt
  exact Calls.Name_function_global I.ok.kind hg (Calls.loadGlobal_builtin (by rw [I.ok.glob]; exact I.mod.glob.keeps I.bk) hm (by rw [I.ok.blt]; exact h1.keeps I.bk) ((h2 x hn).trans hv) h) hd
theorem a48 {x : Str} {v : V} {u : Value} {pos : Pos} (hg : Gl X x) (hm : X.mg x = some u) (r : RelV v u) (hd : (x == ("__debug__" : Str)) = false := by decide) : PE X (.Name x pos) (tC v) :=
  fun _ _ _ H _ I h => qb I hg hm ⟨v, H, I, r, h⟩ hd
theorem a4t {x : Str} {v : V} {u : Value} {pos : Pos} (hg : Gl X x) (hm : X.mg x = none) (hv : bootBuiltins x = some u) (r : RelV v u) (hn : x ≠ "__name__" := by decide) (hd : (x == ("__debug__" : Str)) = false := by decide) : PE X (.Name x pos) (tC v) :=
  fun _ _ _ H _ I h => mq I hg hm hv ⟨v, H, I, r, h⟩ hn hd
variable {a b : Expr} {ta tb : TE} {pos : Pos}
noncomputable def PC (X : Cx) (op : CmpOp) (a b : Expr) (t : TE) : Prop :=
  ∀ (pins : List (Addr × Obj)) (s : Shared) (σ : St) (H : Hp) (Q : VK), Inv X pins σ H s → t σ H Q →
    wpAny (model X.prog X.w) X.A (eval a X.env) (fun v s₁ => wpAny (model X.prog X.w) X.A (eval b X.env) (fun u s₂ => wpAny (model X.prog X.w) X.A (compareOp op v u) (EP X pins σ Q) X.xe s₂) X.xe s₁) X.xe s
inductive tBS (x : V) (H1 : Hp) (Q : Bool → Hp → Prop) : Prop
  | mk (c : Bool) (h0 : x = .bl c) (h1 : Q c H1) : tBS x H1 Q
noncomputable def tB (t : TE) : TT := fun σ H Q => t σ H fun x H1 => tBS x H1 Q
theorem a59 {op : CmpOp} {t : TE} (h : PC X op a b t) (h1 : behindInMarks op b = false := by first | exact nobehind _ (by decide) (by decide) | rfl) : PE X (.Compare a [op] [b] pos) t := fun pins s σ H Q I hw => wpAny_Compare1 (h pins s σ H Q I hw) h1
theorem a0y {op : CmpOp} {t : TE} (h : PC X op a b t) (h1 : behindInMarks op b = false := by first | exact nobehind _ (by decide) (by decide) | rfl) : PT X (.Compare a [op] [b] pos) (tB t) := by
  intro pins s σ H Q I hw
  refine wpAny_isTrue_Compare1 (thn (h pins s σ H _ I hw) fun v s1 h1 => thn h1 fun u s2 h2 => thn h2 fun c s3 ⟨x, H1, I1, r1, q1⟩ => ?_) h1
  obtain ⟨d, rfl, q⟩ := q1
  cases r1
  exact wpAny_truthy_bool ⟨H1, I1, q⟩
theorem a5e {e : Expr} {t : TE} (h : PE X e t) (he : ∀ whole, isTrue e X.env whole = (do let v ← whole; standAt e.pos; holding [v] (truthy v)) := by intro _; rfl) : PT X e (tB t) := by
  intro pins s σ H Q I hw
  refine isTrue_plain (thn (h pins s σ H _ I hw) fun v s1 ⟨x, H1, I1, r1, q1⟩ => ?_) (he _)
  obtain ⟨d, rfl, q⟩ := q1
  cases r1
  exact wpAny_truthy_bool ⟨H1, I1, q⟩
variable {tA tB' : TT} {rest : List Expr}
noncomputable def tAnd (t u : TT) : TT := fun σ H Q => t σ H fun c H1 => if c = true then u σ H1 Q else Q false H1
noncomputable def tOr (t u : TT) : TT := fun σ H Q => t σ H fun c H1 => if c = true then Q true H1 else u σ H1 Q
noncomputable def tNot (t : TT) : TT := fun σ H Q => t σ H fun c H1 => Q (!c) H1
theorem a4u (ha : PT X a tA) : PW X (.BoolOp .And [a] pos) tA := by
  intro wh pins s σ H Q I h
  refine isTrue_and (thn (ha pins s σ H Q I h) fun c s1 e => ?_)
  cases c with
  | true => exact isTrue_and_nil e
  | false => exact e
theorem a69 (ha : PT X a tA) : PW X (.BoolOp .Or [a] pos) tA := by
  intro wh pins s σ H Q I h
  refine isTrue_or (thn (ha pins s σ H Q I h) fun c s1 e => ?_)
  cases c with
  | false => exact isTrue_or_nil e
  | true => exact e
theorem a5y (ha : PT X a tA) (hb : PW X (.BoolOp .And (b :: rest) pos) tB') : PW X (.BoolOp .And (a :: b :: rest) pos) (tAnd tA tB') := by
  intro wh pins s σ H Q I h
  refine isTrue_and (thn (ha pins s σ H _ I h) fun c s1 zq => ?_)
  obtain ⟨H1, I1, q1⟩ := zq
  cases c with
  | true => exact hb wh pins s1 σ H1 Q I1 q1
  | false => exact ⟨H1, I1, q1⟩
theorem a6g (ha : PT X a tA) (hb : PW X (.BoolOp .Or (b :: rest) pos) tB') : PW X (.BoolOp .Or (a :: b :: rest) pos) (tOr tA tB') := by
  intro wh pins s σ H Q I h
  refine isTrue_or (thn (ha pins s σ H _ I h) fun c s1 zq => ?_)
  obtain ⟨H1, I1, q1⟩ := zq
  cases c with
  | true => exact ⟨H1, I1, q1⟩
  | false => exact hb wh pins s1 σ H1 Q I1 q1
theorem a5x (ha : PT X a tA) : PT X (.UnaryOp .Not a pos) (tNot tA) := by
  intro pins s σ H Q I h
  exact isTrue_not (ha pins s σ H (fun c H1 => Q (!c) H1) I h)
inductive tAndVS (tb : TE) (σ : St) (x : V) (H1 : Hp) (Q : VK) : Prop
  | mk (c : Bool) (h0 : x = .bl c) (h1 : if c = true then tb σ H1 Q else Q (.bl false) H1) : tAndVS tb σ x H1 Q
noncomputable def a3w (ta tb : TE) : TE := fun σ H Q => ta σ H fun x H1 => tAndVS tb σ x H1 Q
inductive tOrVS (tb : TE) (σ : St) (x : V) (H1 : Hp) (Q : VK) : Prop
  | mk (c : Bool) (h0 : x = .bl c) (h1 : if c = true then Q (.bl true) H1 else tb σ H1 Q) : tOrVS tb σ x H1 Q
noncomputable def tOrV (ta tb : TE) : TE := fun σ H Q => ta σ H fun x H1 => tOrVS tb σ x H1 Q
theorem a5l {op} {t : TE} (h : PE X a t) : PE X (.BoolOp op [a] pos) t := fun pins s σ H Q I hw => BoolOp_one (h pins s σ H Q I hw)
theorem a5k (ha : PE X a ta) (hb : PE X (.BoolOp .And (b :: rest) pos) tb) : PE X (.BoolOp .And (a :: b :: rest) pos) (a3w ta tb) := by
  intro pins s σ H Q I h
  refine BoolOp_and (thn (ha pins s σ H _ I h) fun v s1 zq => ?_)
  obtain ⟨x, H1, I1, r1, q1⟩ := zq
  obtain ⟨c, rfl, q1⟩ := q1
  cases r1
  refine wpAny_truthy_bool ?_
  cases c with
  | true => exact hb pins s1 σ H1 Q I1 q1
  | false => exact ⟨.bl false, H1, I1, rfl, q1⟩
theorem a6n (ha : PE X a ta) (hb : PE X (.BoolOp .Or (b :: rest) pos) tb) : PE X (.BoolOp .Or (a :: b :: rest) pos) (tOrV ta tb) := by
  intro pins s σ H Q I h
  refine BoolOp_or (thn (ha pins s σ H _ I h) fun v s1 zq => ?_)
  obtain ⟨x, H1, I1, r1, q1⟩ := zq
  obtain ⟨c, rfl, q1⟩ := q1
  cases r1
  refine wpAny_truthy_bool ?_
  cases c with
  | false => exact hb pins s1 σ H1 Q I1 q1
  | true => exact ⟨.bl true, H1, I1, rfl, q1⟩
noncomputable def tIf (t : TT) (ta tb : TE) : TE := fun σ H Q => t σ H fun c H1 => if c = true then ta σ H1 Q else tb σ H1 Q
theorem a1v {c : Expr} (hc : PT X c tA) (ha : PE X a ta) (hb : PE X b tb) : PE X (.IfExp c a b pos) (tIf tA ta tb) := by
  intro pins s σ H Q I h
  refine wpAny_IfExp (thn (hc pins s σ H _ I h) fun d s1 zq => ?_)
  obtain ⟨H1, I1, q1⟩ := zq
  cases d with
  | true => exact ha pins s1 σ H1 Q I1 q1
  | false => exact hb pins s1 σ H1 Q I1 q1
end
end L2
namespace L2
open PySem PySem.Spec PyProof.Rows
noncomputable def SqL (K : PySem.W.Frag) (H : Hp) (a : Addr) (xs : List V) : Prop :=
  Rd H a (.lst xs) ∨
    ∃ (o : Obj) (its : Array Value) (n : Nat), K.lookup a = some o ∧ o.cls = .type "list" ∧ o.dict = none ∧ o.data = .seq its n ∧ its.size ≤ sizeLine ∧ Vals xs its.toList
noncomputable def SqT (K : PySem.W.Frag) (H : Hp) (a : Addr) (xs : List V) : Prop :=
  Rd H a (.tup xs) ∨
    ∃ (o : Obj) (its : Array Value) (n : Nat), K.lookup a = some o ∧ o.cls = .type "tuple" ∧ o.data = .seq its n ∧ its.size ≤ sizeLine ∧ Vals xs its.toList
noncomputable def absV : Value → Option V
  | .none => some .non
  | .bool b => some (.bl b)
  | .int i _ => some (.int i)
  | .str x _ => some (.str x)
  | .bytes b _ => some (.byt b)
  | .float b _ => some (.flt b)
  | .ref a => some (.ref a)
  | .type n => some (.ty n)
  | _ => none
theorem RelV.abs {x : V} {u : Value} (r : RelV x u) : absV u = some x := by
  cases x with
  | non => cases r; rfl
  | bl _ => cases r; rfl
  | int _ => obtain ⟨t, rfl⟩ := r; rfl
  | str _ => obtain ⟨t, rfl⟩ := r; rfl
  | byt _ => obtain ⟨t, rfl⟩ := r; rfl
  | flt _ => obtain ⟨t, rfl⟩ := r; rfl
  | ref _ => cases r; rfl
  | ty _ => cases r; rfl
theorem RelV.inj {x y : V} {u : Value} (r : RelV x u) (q : RelV y u) : x = y := Option.some.inj (r.abs.symm.trans q.abs)
theorem Vals.inj : ∀ {xs ys : List V} {us : List Value}, Vals xs us → Vals ys us → xs = ys
  | _, _, _, .nil, .nil => rfl
  | _, _, _, .cons r t, .cons r' t' => by rw [r.inj r', Vals.inj t t']
section
variable {X : Cx} {pins : List (Addr × Obj)} {σ : St} {H : Hp} {s : Shared} {a : Addr} {xs ys : List V}
theorem SqL.of {K : PySem.W.Frag} (h : H a = some (.lst xs)) : SqL K H a xs := .inl (.inl h)
theorem SqT.of {K : PySem.W.Frag} (h : H a = some (.tup xs)) : SqT K H a xs := .inl (.inl h)
theorem Inv.list (I : Inv X pins σ H s) (h : SqL X.K H a xs) : ∃ its : List Value, Vals xs its ∧ PlainL s.heap a its.toArray ∧ xs.length ≤ sizeLine := by
  rcases h with h | ⟨o, its, n, hk, hc, hd, hs, hz, r⟩
  · obtain ⟨z, its, n, r, e⟩ := h.ok I.hok
    exact ⟨its, r, ⟨_, n, e, rfl, rfl, rfl⟩, z⟩
  · refine ⟨its.toList, r, ⟨o, n, I.kIn a o hk, hc, hd, by simpa using hs⟩, ?_⟩
    have e := r.length
    simp only [Array.length_toList] at e
    lia
theorem Inv.tuple (I : Inv X pins σ H s) (h : SqT X.K H a xs) : ∃ its : List Value, Vals xs its ∧ IsTup s.heap a its.toArray ∧ xs.length ≤ sizeLine := by
  rcases h with h | ⟨o, its, n, hk, hc, hs, hz, r⟩
  · obtain ⟨z, its, r, p⟩ := h.ok I.hok
    exact ⟨its, r, p, z⟩
  · refine ⟨its.toList, r, ⟨o, I.kIn a o hk, hc, n, by simpa using hs⟩, ?_⟩
    have e := r.length
    simp only [Array.length_toList] at e
    lia
theorem Inv.list_inj (I : Inv X pins σ H s) (h : SqL X.K H a xs) (h' : SqL X.K H a ys) : xs = ys := by
  obtain ⟨its, r, ⟨o, n, e, _, _, d⟩, _⟩ := I.list h
  obtain ⟨its', r', ⟨o', n', e', _, _, d'⟩, _⟩ := I.list h'
  rw [e] at e'; cases e'
  rw [d] at d'
  injection d' with d1 _
  have : its = its' := by simpa using congrArg Array.toList d1
  subst this
  exact r.inj r'
theorem Inv.tuple_inj (I : Inv X pins σ H s) (h : SqT X.K H a xs) (h' : SqT X.K H a ys) : xs = ys := by
  obtain ⟨its, r, ⟨o, e, _, n, d⟩, _⟩ := I.tuple h
  obtain ⟨its', r', ⟨o', e', _, n', d'⟩, _⟩ := I.tuple h'
  rw [e] at e'; cases e'
  rw [d] at d'
  injection d' with d1 _
  have : its = its' := by simpa using congrArg Array.toList d1
  subst this
  exact r.inj r'
end
noncomputable abbrev Cx.wish (X : Cx) (E : Value → Shared → Prop) : Cx := { X with xe := E }
noncomputable abbrev Cx.nox (X : Cx) : Cx := X.wish fun _ _ => False
theorem Cx.Ok.wish {X : Cx} (ok : X.Ok) (E : Value → Shared → Prop) : (X.wish E).Ok :=
  ⟨ok.mod, ok.kind, ok.glob, ok.blt, ok.above, ok.inj, ok.has, ok.cab, ok.hd, ok.frames, ok.stk, ok.exf, ok.bs, ok.bsz, ok.noex, ok.exfs, ok.funs, ok.frf⟩
theorem Cx.Ok.unwish {X : Cx} {E : Value → Shared → Prop} (ok : (X.wish E).Ok) : X.Ok :=
  ⟨ok.mod, ok.kind, ok.glob, ok.blt, ok.above, ok.inj, ok.has, ok.cab, ok.hd, ok.frames, ok.stk, ok.exf, ok.bs, ok.bsz, ok.noex, ok.exfs, ok.funs, ok.frf⟩
section
variable {X : Cx} {pins : List (Addr × Obj)} {σ : St} {H : Hp} {s : Shared} {E : Value → Shared → Prop}
theorem Inv.wish (I : Inv X pins σ H s) (E : Value → Shared → Prop) : Inv (X.wish E) pins σ H s := ⟨I.ok.wish E, I.os, I.bare, I.base, I.loc, I.cell, I.free, I.freeC, I.pin, I.hok, I.len⟩
theorem Inv.unwish (I : Inv (X.wish E) pins σ H s) : Inv X pins σ H s := ⟨I.ok.unwish, I.os, I.bare, I.base, I.loc, I.cell, I.free, I.freeC, I.pin, I.hok, I.len⟩
theorem SP.unwish {D : Ends} {f : Flow} {s' : Shared} (h : SP (X.wish E) pins D f s') : SP X pins D f s' := by
  cases f with
  | next => obtain ⟨σ', H', I, q⟩ := h; exact ⟨σ', H', I.unwish, q⟩
  | brk => obtain ⟨σ', H', I, q⟩ := h; exact ⟨σ', H', I.unwish, q⟩
  | cont => obtain ⟨σ', H', I, q⟩ := h; exact ⟨σ', H', I.unwish, q⟩
  | ret u => obtain ⟨v, σ', H', I, r, q⟩ := h; exact ⟨v, σ', H', I.unwish, r, q⟩
theorem PSs.nox {st : List Stmt} {t : TS} (h : PSs X.nox st t) : PSs X st t := fun pins s σ H D I hw =>
  wpAny_mono (h pins s σ H D (I.wish _) hw) (fun _ _ q => q.unwish) fun _ _ z => False.elim z
end
section
variable {X : Cx} {st : Stmt} {rest : List Stmt} {t u : TS} {e : Expr} {te : TE} {pos : Pos}
noncomputable def yt : TS := fun D σ H => D.nx σ H
noncomputable def tSeq (t u : TS) : TS := fun D σ H => t { D with nx := u D } σ H
theorem a4h : PSs X [] yt := fun _ _ σ H _ I h => wpAny_execs_nil ⟨σ, H, I, h⟩
theorem oa (h1 : PS X st t) (h2 : PSs X rest u) : PSs X (st :: rest) (tSeq t u) := by
  intro pins s σ H D I h
  refine wpAny_execs_cons (thn (h1 pins s σ H { D with nx := u D } I h) fun f s1 q => ?_)
  cases f with
  | next =>
    obtain ⟨σ', H', I', q⟩ := q
    exact h2 pins s1 σ' H' D I' q
  | ret v => exact q
  | brk => exact q
  | cont => exact q
theorem qj (h1 : PS X st t) : PSs X [st] t := by
  intro pins s σ H D I h
  refine wpAny_execs_cons (thn (h1 pins s σ H D I h) fun f s1 q => ?_)
  cases f with
  | next => exact wpAny_execs_nil q
  | ret v => exact q
  | brk => exact q
  | cont => exact q
theorem Inv.quiet {pins : List (Addr × Obj)} {σ : St} {H : Hp} {s : Shared} (I : Inv X pins σ H s) : interactive X.env = false := by simp [interactive, I.ok.kind]
noncomputable def a3x (te : TE) : TS := fun D σ H => te σ H fun _ H1 => D.nx σ H1
theorem xc (he : PE X e te) (hs : swapsWith e none pos.line X.env = pure false := by rfl) : PS X (.Expr e pos) (a3x te) := by
  intro pins s σ H D I h
  exact wpAny_Expr_any (thn (he pins s σ H _ I h) fun v s1 ⟨x, H1, I1, r1, q1⟩ => ⟨σ, H1, I1, q1⟩) I.quiet hs
noncomputable def tRet (te : TE) : TS := fun D σ H => te σ H D.rt
theorem a0d (he : PE X e te) : PS X (.Return (some e) pos) (tRet te) := by
  intro pins s σ H D I h
  exact wpAny_Return_some (thn (he pins s σ H _ I h) fun v s1 ⟨x, H1, I1, r1, q1⟩ => ⟨x, σ, H1, I1, r1, q1⟩)
noncomputable def tIfS (c : TT) (t u : TS) : TS := fun D σ H => c σ H fun b H1 => if b = true then t D σ H1 else u D σ H1
theorem a6t {c : Expr} {a b : List Stmt} {tc : TT} (hc : PT X c tc) (ha : PSs X a t) (hb : PSs X b u) : PS X (.If c a b pos) (tIfS tc t u) := by
  intro pins s σ H D I h
  refine wpAny_If (thn (hc pins s σ H _ I h) fun d s1 zq => ?_)
  obtain ⟨H1, I1, q1⟩ := zq
  cases d with
  | true => exact ha pins s1 σ H1 D I1 q1
  | false => exact hb pins s1 σ H1 D I1 q1
end
abbrev TG := V → St → Hp → (St → Hp → Prop) → Prop
abbrev TGs := List V → St → Hp → (St → Hp → Prop) → Prop
noncomputable def PG (X : Cx) (target : Expr) (t : TG) : Prop :=
  ∀ (pins : List (Addr × Obj)) (s : Shared) (σ : St) (H : Hp) (v : V) (u : Value) (Q : St → Hp → Prop), Inv X pins σ H s → RelV v u → t v σ H Q →
    wpAny (model X.prog X.w) X.A (assign target X.env u) (fun _ s' => ∃ σ' H', Inv X pins σ' H' s' ∧ Q σ' H') X.xe s
noncomputable def PGs (X : Cx) (ts : List Expr) (t : TGs) : Prop :=
  ∀ (pins : List (Addr × Obj)) (s : Shared) (σ : St) (H : Hp) (vs : List V) (us : List Value) (Q : St → Hp → Prop), Inv X pins σ H s → Vals vs us → t vs σ H Q →
    wpAny (model X.prog X.w) X.A (assignInOrder ((assignEach ts X.env).map (·.2)) us) (fun _ s' => ∃ σ' H', Inv X pins σ' H' s' ∧ Q σ' H') X.xe s
abbrev TSet := V → V → V → Hp → (Hp → Prop) → Prop
noncomputable def PSet (X : Cx) (t : TSet) : Prop :=
  ∀ (pins : List (Addr × Obj)) (s : Shared) (σ : St) (H : Hp) (o i v : V) (ov iv u : Value) (Q : Hp → Prop), Inv X pins σ H s → RelV o ov → RelV i iv → RelV v u → t o i v H Q →
    wpAny (model X.prog X.w) X.A (setItem ov iv u) (fun _ s' => ∃ H', Inv X pins σ H' s' ∧ Q H') X.xe s
section
variable {X : Cx} {pos : Pos}
noncomputable def du (i : Nat) : TG := fun v σ H Q => Q (σ.set i (some v)) H
theorem xf {i : Nat} {x : Str} (hN : X.N.Nodup) (hi : X.N[i]? = some x) (hx : Loc X.env.scope x) (hf : X.fn x = true ∨ X.env.scope.names.lookup x = some .local := by first | exact .inl rfl | exact .inr rfl | assumption) : PG X (.Name x pos) (du i) := by
  intro pins s σ H v u Q I r h
  exact wpAny_assign_Name (kr I hN hi hx r (fun s' I' => ⟨_, H, I', h⟩) hf)
noncomputable def gNil : TGs := fun vs σ H Q => vs = [] ∧ Q σ H
inductive gConsS (t : TG) (u : TGs) (vs : List V) (σ : St) (H : Hp) (Q : St → Hp → Prop) : Prop
  | mk (v : V) (r : List V) (h0 : vs = v :: r) (h1 : t v σ H fun σ' H' => u r σ' H' Q) : gConsS t u vs σ H Q
noncomputable def o3 (t : TG) (u : TGs) : TGs := fun vs σ H Q => gConsS t u vs σ H Q
theorem wz : PGs X [] gNil := by
  intro pins s σ H vs us Q I r h
  obtain ⟨e, h⟩ := h
  subst e
  cases r
  exact assignInOrder_nil ⟨σ, H, I, h⟩
theorem ij {e : Expr} {es : List Expr} {t : TG} {u : TGs} (h1 : PG X e t) (h2 : PGs X es u)
    (hs : (assignEach (e :: es) X.env).map (·.2) = assign e X.env :: (assignEach es X.env).map (·.2) := by rfl) : PGs X (e :: es) (o3 t u) := by
  intro pins s σ H vs us Q I r h
  obtain ⟨v, vr, e1, h⟩ := h
  subst e1
  cases r with
  | cons r rr =>
    rw [hs]
    refine assignInOrder_cons (thn (h1 pins s σ H _ _ _ I r h) fun _ s1 zq => ?_)
    obtain ⟨σ1, H1, I1, q1⟩ := zq
    exact h2 pins s1 σ1 H1 _ _ Q I1 rr q1
inductive gTupS (K : PySem.W.Frag) (n : Nat) (t : TGs) (v : V) (σ : St) (H : Hp) (Q : St → Hp → Prop) : Prop
  | mk (a : Addr) (xs : List V) (h0 : v = .ref a) (h1 : SqT K H a xs) (h2 : xs.length = n) (h3 : t xs σ H Q) : gTupS K n t v σ H Q
noncomputable def gTup (K : PySem.W.Frag) (n : Nat) (t : TGs) : TG := fun v σ H Q => gTupS K n t v σ H Q
theorem a0o {es : List Expr} {k : Nat} {t : TGs} {n : Nat} (hc : X.calm = true) (h : PGs X es t)
    (hn : (assignEach es X.env).length = n := by rfl) (hst : (assignEach es X.env).findIdx? (·.1) = none := by rfl) : PG X (.Tuple es k pos) (gTup X.K n t) := by
  intro pins s σ H v u Q I r hw
  obtain ⟨a, xs, e1, hq, hl, hw⟩ := hw
  subst e1
  cases r
  obtain ⟨its, rv, ht, hz⟩ := I.tuple hq
  refine assign_Tuple_tuple (I.ok.hd hc) ht (by simp [hn, ← hl, rv.length]) hst fun h' hx => ?_
  have I1 : Inv X pins σ H { s with heap := h' } := I.kept (t' := s.toks) fun b o e => hx b o (Nat.ne_of_lt (Heap.lt_size e)) e
  exact h pins _ σ H xs _ Q I1 (by simpa using rv) hw
noncomputable def gSub (to ti : TE) (t : TSet) : TG := fun v σ H Q => to σ H fun o H1 => ti σ H1 fun i H2 => t o i v H2 fun H3 => Q σ H3
theorem a5p {o i : Expr} {to ti : TE} {t : TSet} (ho : PE X o to) (hi : PE X i ti) (hs : PSet X t)
    (ha : ∀ v, assign (.Subscript o i pos) X.env v = (do
      let ov ← holding [v] (eval o X.env)
      let iv ← holding [v, ov] (eval i X.env)
      standAt pos
      holding [v, ov, iv] (setItem ov iv v)
      release [v, ov, iv] []) := by intro _; rfl) : PG X (.Subscript o i pos) (gSub to ti t) := by
  intro pins s σ H v u Q I r h
  rw [ha]
  refine wpAny_bind (wpAny_holding (thn (ho pins s σ H _ I h) fun ov s1 zq => ?_))
  obtain ⟨x, H1, I1, r1, q1⟩ := zq
  refine wpAny_bind (wpAny_holding (thn (hi pins s1 σ H1 _ I1 q1) fun iv s2 zq => ?_))
  obtain ⟨y, H2, I2, r2, q2⟩ := zq
  refine wpAny_bind (wpAny_standAt (wpAny_bind (wpAny_holding (thn (hs pins s2 σ H2 x y v ov iv u _ I2 r1 r2 r q2) fun _ s3 zq => ?_))))
  obtain ⟨H3, I3, q3⟩ := zq
  exact wpAny_release ⟨σ, H3, I3, q3⟩
noncomputable def tAsg (te : TE) (g : TG) : TS := fun D σ H => te σ H fun x H1 => g x σ H1 D.nx
theorem a65 {tg e : Expr} {te : TE} {g : TG} (he : PE X e te) (hg : PG X tg g) (hs : swapsWithSole [tg] e pos.line X.env = pure false := by rfl) (hw : swappedStores [tg] e X.env = pure none := by rfl)
    (h1 : (assignEach [tg] X.env).map (·.2) = [assign tg X.env] := by rfl) : PS X (.Assign [tg] e pos) (tAsg te g) := by
  intro pins s σ H D I h
  refine wpAny_Assign_stores (thn (he pins s σ H _ I h) fun v s1 ⟨x, H1, I1, r1, q1⟩ => ?_) hs hw
  rw [h1]
  exact thn (hg pins s1 σ H1 x v _ I1 r1 q1) fun _ s2 q => q
theorem a0l {i : Nat} {x : Str} {e : Expr} {te : TE} {pos' : Pos} (hN : X.N.Nodup) (hi : X.N[i]? = some x) (hx : Loc X.env.scope x) (he : PE X e te) (hs : swapsWith e (some (.Name x pos')) pos.line X.env = pure false := by rfl) (hf : X.fn x = true ∨ X.env.scope.names.lookup x = some .local := by first | exact .inl rfl | exact .inr rfl | assumption) :
    PS X (.Assign [.Name x pos'] e pos) (tAsg te (du i)) := by
  intro pins s σ H D I h
  refine wpAny_Assign_Name (thn (he pins s σ H _ I h) fun v s1 ⟨y, H1, I1, r1, q1⟩ => ?_) hs
  exact kr I1 hN hi hx r1 (fun s2 I2 => ⟨_, H1, I2, q1⟩) hf
end
section
variable {X : Cx} {pos : Pos}
noncomputable def pj (c : TT) (tb : TS) : TS := fun D σ H => ∃ W : Nat → St → Hp → Prop, (∃ m, W m σ H) ∧ ∀ m σ H, W m σ H →
  c σ H fun b H1 => if b = true then ∃ N : St → Hp → Prop, (∀ σ' H', N σ' H' → ∃ m', m' < m ∧ W m' σ' H') ∧ tb { D with nx := N, ct := N, bk := D.nx } σ H1 else D.nx σ H1
theorem a2z {c : Expr} {body : List Stmt} {tc : TT} {tb : TS} (hp : PassesOwn (model X.prog X.w) X.A X.env X.xe) (hc : PT X c tc) (hb : PSs X body tb) : PS X (.While c body [] pos) (pj tc tb) := by
  intro pins s σ H D I h
  obtain ⟨W, ⟨m0, w0⟩, turn⟩ := h
  refine wpAny_While (codeAny_whileLoop (fun n s' => ∃ σ' H', Inv X pins σ' H' s' ∧ W n σ' H') ?_ m0 ⟨σ, H, I, w0⟩)
  rintro n s1 ⟨σ1, H1, I1, w1⟩
  refine wpAny_passesOwn hp (thn (hc pins s1 σ1 H1 _ I1 (turn n σ1 H1 w1)) fun b s2 zq => ?_)
  obtain ⟨H2, I2, q2⟩ := zq
  cases b with
  | true =>
    obtain ⟨N, hN, q2⟩ := q2
    rw [if_pos rfl]
    refine wpAny_passesOwn hp (thn (hb pins s2 σ1 H2 _ I2 q2) fun f s3 q3 => ?_)
    cases f with
    | next =>
      obtain ⟨σ3, H3, I3, n3⟩ := q3
      obtain ⟨m', hm, w3⟩ := hN σ3 H3 n3
      exact ⟨m', hm, σ3, H3, I3, w3⟩
    | cont =>
      obtain ⟨σ3, H3, I3, n3⟩ := q3
      obtain ⟨m', hm, w3⟩ := hN σ3 H3 n3
      exact ⟨m', hm, σ3, H3, I3, w3⟩
    | brk => exact q3
    | ret v => exact q3
  | false =>
    rw [if_neg Bool.false_ne_true]
    exact wpAny_execs_nil ⟨σ1, H2, I2, q2⟩
end
structure It where
  go : Nat → Hp → Prop
  yld : Nat → Hp → V → Hp → Prop
  stop : Nat → Hp → Prop
noncomputable def FpOk (X : Cx) (pins : List (Addr × Obj)) (H : Hp) (b : Addr) : Prop :=
  H b = none ∧ b ≠ X.env.locals ∧ b ∉ X.fs ∧ (b ∈ X.ex ∨ X.s₀.heap.objs.size ≤ b) ∧ (∀ x c, X.env.cells.lookup x = some c → c ≠ b) ∧ ∀ p ∈ X.pn ++ pins, p.1 ≠ b
theorem Inv.fpOk {X : Cx} {pins : List (Addr × Obj)} {σ : St} {H H' : Hp} {s : Shared} {b : Addr} (I : Inv X pins σ H s) (hb : s.heap.objs.size ≤ b) (hn : H' b = none) : FpOk X pins H' b := by
  refine ⟨hn, Nat.ne_of_gt (Nat.lt_of_lt_of_le I.lt hb), I.nofs hb, .inr (Nat.le_trans I.sz hb), fun x c e z => ?_, fun p hp z => ?_⟩
  · obtain ⟨v, q⟩ := I.cell x c e
    exact absurd (Nat.lt_of_lt_of_le q.lt (by rw [z]; exact hb)) (Nat.lt_irrefl _)
  · exact absurd (Nat.lt_of_lt_of_le (Heap.lt_size (I.pin p hp).1) (by rw [z]; exact hb)) (Nat.lt_irrefl _)
structure Turn (P : Program) (w : World) (K : PySem.W.Frag) (tg : Expr) (J : It) (fp : List Addr) (it : Addr) (tn : Nat → Heap → Prop) : Prop where
  mem : it ∈ fp
  obj : ∀ i h, tn i h → ∀ b ∈ fp, ∃ o, h.get? b = some o ∧ ∀ v, o.data ≠ .cell v
  keep : ∀ i h h', tn i h → (∀ b ∈ fp, ∀ o, h.get? b = some o → h'.get? b = some o) → tn i h'
  item : ∀ (X : Cx), X.prog = P → X.w = w → X.K = K → X.calm = true → ∀ (i : Nat) (pins : List (Addr × Obj)) (s : Shared) (σ : St) (H : Hp) (E : Value → Shared → Prop), Inv X pins σ H s → (∀ b ∈ fp, FpOk X pins H b) → tn i s.heap → J.go i H →
    wpAny (model P w) X.A (pyNext (.ref it)) (fun r s1 => ∃ u, r = some u ∧
      wpAny (model P w) X.A (letOwnedTupleGo tg (.ref it) u) (fun _ s2 => ∃ x H', Inv X pins σ H' s2 ∧ RelV x u ∧ J.yld i H x H' ∧ tn (i + 1) s2.heap ∧ ∀ b ∈ fp, H' b = none) E s1) E s
  done : ∀ (X : Cx), X.prog = P → X.w = w → X.K = K → X.calm = true → ∀ (i : Nat) (pins : List (Addr × Obj)) (s : Shared) (σ : St) (H : Hp) (E : Value → Shared → Prop), Inv X pins σ H s → (∀ b ∈ fp, FpOk X pins H b) → tn i s.heap → J.stop i H →
    wpAny (model P w) X.A (pyNext (.ref it)) (fun r s1 => r = none ∧ Inv X pins σ H s1) E s
  self : ∀ (A : Around) (i : Nat) (s : Shared) (Q : Value → Shared → Prop) (E : Value → Shared → Prop), tn i s.heap → Q (.ref it) s → wpAny (model P w) A (pyIter (.ref it)) Q E s
abbrev TI := St → Hp → (It → Hp → Prop) → Prop
noncomputable def PIE (X : Cx) (pins : List (Addr × Obj)) (σ : St) (tg : Expr) (R : It → Hp → Prop) (itv : Value) (s2 : Shared) : Prop :=
  ∃ (it : Addr) (fp : List Addr) (tn : Nat → Heap → Prop) (J : It) (H' : Hp), itv = .ref it ∧ Inv X pins σ H' s2 ∧ Turn X.prog X.w X.K tg J fp it tn ∧ tn 0 s2.heap ∧ (∀ b ∈ fp, FpOk X pins H' b) ∧ R J H'
noncomputable def PI (X : Cx) (tg iter : Expr) (wi : TI) : Prop :=
  ∀ (pins : List (Addr × Obj)) (s : Shared) (σ : St) (H : Hp) (R : It → Hp → Prop), Inv X pins σ H s → wi σ H R →
    wpAny (model X.prog X.w) X.A (eval iter X.env) (fun v s1 => wpAny (model X.prog X.w) X.A (pyIter v) (PIE X pins σ tg R) X.xe s1) X.xe s
theorem zi {M : Model} {A : Around} {E : Value → Shared → Prop} {s : Shared} {tg : Expr} {it : Addr} {u : Value} {o : Obj} {n : String} {vs : Array Value} {Q : Unit → Shared → Prop} (ho : s.heap.get? it = some o) (hc : o.cls = .type n) (hd : o.data = .fields vs)
    (hn : ["enumerate", "zip", "dict_itemiterator", "dict_reverseitemiterator", "odict_iterator", "itertools.zip_longest", "itertools.pairwise"].contains n = false) (hQ : Q () s) : wpAny M A (letOwnedTupleGo tg (.ref it) u) Q E s := by
  unfold letOwnedTupleGo
  cases tg <;> first
    | exact wpAny_pure hQ
    | (cases u <;> first
        | exact wpAny_pure hQ
        | (refine wpAny_bind (wpAny_load ho ?_)
           rw [hc, hd]
           show wpAny M A (if (["enumerate", "zip", "dict_itemiterator", "dict_reverseitemiterator", "odict_iterator", "itertools.zip_longest", "itertools.pairwise"].contains n && vs[0]? == some (rawInt _)) = true then _ else _) Q E s
           rw [if_neg (by intro h; rw [hn, Bool.false_and] at h; cases h)]
           exact wpAny_pure hQ))
noncomputable def Itl (K : PySem.W.Frag) (a : Addr) : It :=
  ⟨fun i H => ∃ xs x, SqL K H a xs ∧ xs[i]? = some x, fun i H x H' => H' = H ∧ ∀ xs, SqL K H a xs → xs[i]? = some x, fun i H => ∃ xs, SqL K H a xs ∧ xs.length ≤ i⟩
noncomputable def Itt (K : PySem.W.Frag) (a : Addr) : It :=
  ⟨fun i H => ∃ xs x, SqT K H a xs ∧ xs[i]? = some x, fun i H x H' => H' = H ∧ ∀ xs, SqT K H a xs → xs[i]? = some x, fun i H => ∃ xs, SqT K H a xs ∧ xs.length ≤ i⟩
noncomputable def Itr (lo : Int) (n : Nat) : It := ⟨fun i _ => i < n, fun i H x H' => H' = H ∧ x = .int (lo + i), fun i _ => n ≤ i⟩
theorem a0q {P : Program} {w : World} {K : PySem.W.Frag} {tg : Expr} (a it : Addr) : Turn P w K tg (Itl K a) [it] it (fun i h => h.IsListIter it a i) where
  mem := by simp
  obj := fun i h st b hb => by
    have e : b = it := by simpa using hb
    subst e
    obtain ⟨o, e, c, d⟩ := st
    exact ⟨o, e, fun v z => by rw [d] at z; cases z⟩
  keep := fun i h h' st k => st.at fun o e => k it (by simp) o e
  item := by
    intro X hP hw hK hc i pins s σ H E I hf st hg
    subst hP hw hK
    obtain ⟨xs, x, hq, hx⟩ := hg
    obtain ⟨its, rv, p, hz⟩ := I.list hq
    obtain ⟨u, hu, ru⟩ := rv.get hx
    obtain ⟨f0, f1, f2, f3, f4, f5⟩ := hf it (by simp)
    refine wpAny_pyNext_list_item st p.isList (x := u) (by simpa using hu) fun h' st' sb => ?_
    have I1 : Inv X pins σ H { s with heap := h' } := I.turned (t' := s.toks) (fun b o hb e => (sb.2 b hb).trans e) f0 f1 f3 f4 f5
    obtain ⟨o, e, c, d⟩ := id st'
    exact ⟨u, rfl, zi (s := { s with heap := h' }) e c d (by decide) ⟨x, H, I1, ru, ⟨rfl, fun ys hy => by rw [I.list_inj hy hq]; exact hx⟩, st', fun b hb => (hf b hb).1⟩⟩
  done := by
    intro X hP hw hK hc i pins s σ H E I hf st hg
    subst hP hw hK
    obtain ⟨xs, hq, hx⟩ := hg
    obtain ⟨its, rv, p, hz⟩ := I.list hq
    obtain ⟨f0, f1, f2, f3, f4, f5⟩ := hf it (by simp)
    have hl := rv.length
    exact wpAny_pyNext_list_end (I.ok.hd hc) st p.isList (by simp; lia) fun h' eb => ⟨rfl, I.turned (t' := s.toks) (fun b o hb e => eb b o hb e) f0 f1 f3 f4 f5⟩
  self := fun _ _ _ _ _ st h => wpAny_pyIter_listiter st h
theorem yh {P : Program} {w : World} {K : PySem.W.Frag} {tg : Expr} (a it : Addr) : Turn P w K tg (Itt K a) [it] it (fun i h => h.IsTupleIter it a i) where
  mem := by simp
  obj := fun i h st b hb => by
    have e : b = it := by simpa using hb
    subst e
    obtain ⟨o, e, c, d⟩ := st
    exact ⟨o, e, fun v z => by rw [d] at z; cases z⟩
  keep := fun i h h' st k => st.at fun o e => k it (by simp) o e
  item := by
    intro X hP hw hK hc i pins s σ H E I hf st hg
    subst hP hw hK
    obtain ⟨xs, x, hq, hx⟩ := hg
    obtain ⟨its, rv, p, hz⟩ := I.tuple hq
    obtain ⟨u, hu, ru⟩ := rv.get hx
    obtain ⟨f0, f1, f2, f3, f4, f5⟩ := hf it (by simp)
    refine wpAny_pyNext_tuple_item st (show s.heap.IsTuple a its.toArray from p) (x := u) (by simpa using hu) fun h' st' sb => ?_
    have I1 : Inv X pins σ H { s with heap := h' } := I.turned (t' := s.toks) (fun b o hb e => (sb.2 b hb).trans e) f0 f1 f3 f4 f5
    obtain ⟨o, e, c, d⟩ := id st'
    exact ⟨u, rfl, zi (s := { s with heap := h' }) e c d (by decide) ⟨x, H, I1, ru, ⟨rfl, fun ys hy => by rw [I.tuple_inj hy hq]; exact hx⟩, st', fun b hb => (hf b hb).1⟩⟩
  done := by
    intro X hP hw hK hc i pins s σ H E I hf st hg
    subst hP hw hK
    obtain ⟨xs, hq, hx⟩ := hg
    obtain ⟨its, rv, p, hz⟩ := I.tuple hq
    obtain ⟨f0, f1, f2, f3, f4, f5⟩ := hf it (by simp)
    have hl := rv.length
    exact wpAny_pyNext_tuple_end (I.ok.hd hc) st (show s.heap.IsTuple a its.toArray from p) (by simp; lia) fun h' eb => ⟨rfl, I.turned (t' := s.toks) (fun b o hb e => eb b o hb e) f0 f1 f3 f4 f5⟩
  self := fun _ _ _ _ _ st h => wpAny_pyIter_tupleiter st h
theorem zd {P : Program} {w : World} {K : PySem.W.Frag} {tg : Expr} (it : Addr) (lo : Int) (n : Nat) : Turn P w K tg (Itr lo n) [it] it (fun i h => IsRangeIter h it (lo + (i : Nat) * 1) ((n : Int) - (i : Nat)) 1) where
  mem := by simp
  obj := fun i h st b hb => by
    have e : b = it := by simpa using hb
    subst e
    exact ⟨_, st, fun v z => by
      have z' : Data.fields _ = Data.cell v := z
      cases z'⟩
  keep := fun i h h' st k => k it (by simp) _ st
  item := by
    intro X hP hw hK hc i pins s σ H E I hf st hg
    subst hP hw hK
    obtain ⟨f0, f1, f2, f3, f4, f5⟩ := hf it (by simp)
    have W := Walks.range (prog := X.prog) (w := X.w) (I.ok.hd hc) it lo 1 n
    refine W.item i s _ _ hg st fun v h' tk hv st' kk => ?_
    obtain ⟨t, rfl⟩ := hv
    have I1 : Inv X pins σ H { s with heap := h', toks := tk } := I.turned (fun b o hb e => kk b o (by simpa using hb) e) f0 f1 f3 f4 f5
    refine ⟨_, rfl, zi (s := { s with heap := h', toks := tk }) (n := "range_iterator") st' rfl rfl (by decide) ⟨.int (lo + i), H, I1, ⟨t, ?_⟩, ⟨rfl, rfl⟩, st', fun b hb => (hf b hb).1⟩⟩
    rw [Int.mul_one]
  done := by
    intro X hP hw hK hc i pins s σ H E I hf st hg
    subst hP hw hK
    obtain ⟨f0, f1, f2, f3, f4, f5⟩ := hf it (by simp)
    exact wpAny_pyNext_range_end (I.ok.hd hc) st (by have : n ≤ i := hg; lia) fun h' eb => ⟨rfl, I.turned (t' := s.toks) (fun b o hb e => eb b o hb e) f0 f1 f3 f4 f5⟩
  self := fun _ _ _ _ _ st h => wpAny_pyIter_rangeiter st h
end L2
namespace L2
open PySem PySem.Spec PyProof.Rows
section
variable {X : Cx} {tg : Expr}
inductive iListS (K : PySem.W.Frag) (x : V) (H1 : Hp) (R : It → Hp → Prop) : Prop
  | mk (a : Addr) (h0 : x = .ref a) (h1 : (∃ xs, SqL K H1 a xs)) (h2 : R (Itl K a) H1) : iListS K x H1 R
noncomputable def yy (K : PySem.W.Frag) (tl : TE) : TI := fun σ H R => tl σ H fun x H1 => iListS K x H1 R
inductive iTupS (K : PySem.W.Frag) (x : V) (H1 : Hp) (R : It → Hp → Prop) : Prop
  | mk (a : Addr) (h0 : x = .ref a) (h1 : (∃ xs, SqT K H1 a xs)) (h2 : R (Itt K a) H1) : iTupS K x H1 R
noncomputable def iTup (K : PySem.W.Frag) (tl : TE) : TI := fun σ H R => tl σ H fun x H1 => iTupS K x H1 R
theorem ya {l : Expr} {tl : TE} (hl : PE X l tl) : PI X tg l (yy X.K tl) := by
  intro pins s σ H R I h
  refine thn (hl pins s σ H _ I h) fun v s1 zq => ?_
  obtain ⟨x, H1, I1, r1, q1⟩ := zq
  obtain ⟨a, e, ⟨xs, hq⟩, q⟩ := q1
  subst e
  cases r1
  obtain ⟨its, rv, p, hz⟩ := I1.list hq
  refine wpAny_pyIter_list p.isList ?_
  refine ⟨s1.heap.objs.size, [s1.heap.objs.size], _, _, H1, rfl, I1.kept (t' := s1.toks) fun b o e => Heap.get?_push_of_some _ e, a0q a _, ⟨_, Heap.get?_push_size _ rfl, rfl, rfl⟩, fun b hb => ?_, q⟩
  have e : b = s1.heap.objs.size := by simpa using hb
  subst e
  exact I1.fpOk (Nat.le_refl _) (I1.hok.fresh (Nat.le_refl _))
theorem a5w {l : Expr} {tl : TE} (hl : PE X l tl) : PI X tg l (iTup X.K tl) := by
  intro pins s σ H R I h
  refine thn (hl pins s σ H _ I h) fun v s1 zq => ?_
  obtain ⟨x, H1, I1, r1, q1⟩ := zq
  obtain ⟨a, e, ⟨xs, hq⟩, q⟩ := q1
  subst e
  cases r1
  obtain ⟨its, rv, p, hz⟩ := I1.tuple hq
  refine wpAny_pyIter_tuple (show s1.heap.IsTuple a its.toArray from p) ?_
  refine ⟨s1.heap.objs.size, [s1.heap.objs.size], _, _, H1, rfl, I1.kept (t' := s1.toks) fun b o e => Heap.get?_push_of_some _ e, yh a _, ⟨_, Heap.get?_push_size _ rfl, rfl, rfl⟩, fun b hb => ?_, q⟩
  have e : b = s1.heap.objs.size := by simpa using hb
  subst e
  exact I1.fpOk (Nat.le_refl _) (I1.hok.fresh (Nat.le_refl _))
theorem vh {pins : List (Addr × Obj)} {σ : St} {H : Hp} {s : Shared} {R : It → Hp → Prop} {E : Value → Shared → Prop} {lo hi : Int} {t u v : Tok} {tk : Nat} (I : Inv X pins σ H s) (h1 : -(2 ^ 62) ≤ lo) (h2 : lo < 2 ^ 62) (h3 : -(2 ^ 62) ≤ hi) (h4 : hi < 2 ^ 62)
    (q : R (Itr lo (hi - lo).toNat) H) : wpAny (model X.prog X.w) X.A (pyIter (.ref s.heap.objs.size)) (PIE X pins σ tg R) E { s with heap := s.heap.push { cls := .type "range", data := .fields #[.int lo t, .int hi u, .int 1 v] }, toks := tk } := by
  refine wpAny_pyIter_range (IsRange.new ..) (small_one h1 h2 h3 h4) ?_
  have I1 : Inv X pins σ H { s with heap := s.heap.push { cls := .type "range", data := .fields #[.int lo t, .int hi u, .int 1 v] }, toks := tk } := I.kept fun b o e => Heap.get?_push_of_some _ e
  refine ⟨(s.heap.push { cls := .type "range", data := .fields #[.int lo t, .int hi u, .int 1 v] }).objs.size, [(s.heap.push { cls := .type "range", data := .fields #[.int lo t, .int hi u, .int 1 v] }).objs.size], _, _, H, rfl,
    I1.kept (t' := tk) fun b o e => Heap.get?_push_of_some _ e, zd _ lo (hi - lo).toNat, ?_, fun b hb => ?_, q⟩
  · have e1 : lo + ((0 : Nat) : Int) * 1 = lo := by simp
    have e2 : (((hi - lo).toNat : Nat) : Int) - ((0 : Nat) : Int) = Builtin.Range.rangeSize lo hi 1 := by rw [rangeSize_one]; split <;> lia
    show IsRangeIter _ _ (lo + ((0 : Nat) : Int) * 1) ((((hi - lo).toNat : Nat) : Int) - ((0 : Nat) : Int)) 1
    rw [e1, e2]
    exact Heap.get?_push_size _ rfl
  · have e : b = (s.heap.push { cls := .type "range", data := .fields #[.int lo t, .int hi u, .int 1 v] }).objs.size := by simpa using hb
    subst e
    exact I1.fpOk (Nat.le_refl _) (I1.hok.fresh (Nat.le_refl _))
inductive iRng1S (vs : List V) (H1 : Hp) (R : It → Hp → Prop) : Prop
  | mk (j : Int) (h0 : vs = [.int j]) (h1 : -(2 ^ 62) ≤ j) (h2 : j < 2 ^ 62) (h3 : R (Itr 0 j.toNat) H1) : iRng1S vs H1 R
noncomputable def a3c (ta : TA) : TI := fun σ H R => ta σ H fun vs H1 => iRng1S vs H1 R
inductive iRng2S (vs : List V) (H1 : Hp) (R : It → Hp → Prop) : Prop
  | mk (i j : Int) (h0 : vs = [.int i, .int j]) (h1 : (-(2 ^ 62) ≤ i ∧ i < 2 ^ 62 ∧ -(2 ^ 62) ≤ j ∧ j < 2 ^ 62)) (h2 : R (Itr i (j - i).toNat) H1) : iRng2S vs H1 R
noncomputable def a3p (ta : TA) : TI := fun σ H R => ta σ H fun vs H1 => iRng2S vs H1 R
theorem a0b {a : Expr} {ta : TA} {p pos : Pos} (hg : Gl X "range") (hm : X.mg "range" = none) (ha : PA X [a] ta) (hs : starEach [a] X.env = [(false, eval a X.env)] := by rfl) : PI X tg (.Call (.Name "range" p) [a] [] pos) (a3c ta) := by
  intro pins s σ H R I h
  refine Call_ (mq I hg hm boot_range (PyProof.Rows.callWith_type1 (thn (ha pos pins s σ H _ I h) fun us s1 ⟨vs, H1, I1, r1, q1⟩ => ?_) hs rfl))
  obtain ⟨j, e, q1, q2, q⟩ := q1
  subst e
  cases r1 with
  | cons r rr =>
    cases rr
    obtain ⟨t, rfl⟩ := r
    exact call_range_1 (vh I1 (by lia) (by lia) q1 q2 (by simpa using q))
theorem a1k {a b : Expr} {ta : TA} {p pos : Pos} (hg : Gl X "range") (hm : X.mg "range" = none) (ha : PA X [a, b] ta) (hs : starEach [a, b] X.env = [(false, eval a X.env), (false, eval b X.env)] := by rfl) (hs2 : starEach [b] X.env = [(false, eval b X.env)] := by rfl) :
    PI X tg (.Call (.Name "range" p) [a, b] [] pos) (a3p ta) := by
  intro pins s σ H R I h
  refine Call_ (mq I hg hm boot_range (PyProof.Rows.callWith_type1 (thn (ha pos pins s σ H _ I h) fun us s1 ⟨vs, H1, I1, r1, q1⟩ => ?_) (by rw [hs, hs2]) (by rw [hs2]; rfl)))
  obtain ⟨i, j, e, ⟨q1, q2, q3, q4⟩, q⟩ := q1
  subst e
  cases r1 with
  | cons r rr =>
    cases rr with
    | cons r' rr =>
      cases rr
      obtain ⟨t, rfl⟩ := r
      obtain ⟨t', rfl⟩ := r'
      exact call_range_2 (vh I1 q1 q2 q3 q4 q)
noncomputable def tFor (wi : TI) (g : TG) (tb : TS) : TS := fun D σ H => wi σ H fun J H1 => ∃ W : Nat → Nat → St → Hp → Prop, (∃ m, W 0 m σ H1) ∧ ∀ i m σ H, W i m σ H →
  (J.stop i H ∧ D.nx σ H) ∨ (J.go i H ∧ ∃ N : St → Hp → Prop, (∀ σ' H', N σ' H' → ∃ m', m' < m ∧ W (i + 1) m' σ' H') ∧ ∀ x H', J.yld i H x H' → g x σ H' fun σ2 H2 => tb { D with nx := N, ct := N, bk := D.nx } σ2 H2)
noncomputable def gy (fp : List Addr) (h : Heap) : List (Addr × Obj) := fp.filterMap fun b => (h.get? b).map fun o => (b, o)
theorem fi {fp : List Addr} {h : Heap} {b : Addr} {o : Obj} (hb : b ∈ fp) (e : h.get? b = some o) : (b, o) ∈ gy fp h := List.mem_filterMap.mpr ⟨b, hb, by rw [e]; rfl⟩
theorem a0k {fp : List Addr} {h : Heap} {p : Addr × Obj} (hp : p ∈ gy fp h) : p.1 ∈ fp ∧ h.get? p.1 = some p.2 := by
  obtain ⟨b, hb, e⟩ := List.mem_filterMap.mp hp
  cases q : h.get? b with
  | none => rw [q] at e; cases e
  | some o =>
    rw [q] at e
    have e' : (b, o) = p := Option.some.inj e
    subst e'
    exact ⟨hb, q⟩
theorem Inv.pinned {pins : List (Addr × Obj)} {σ : St} {H : Hp} {s : Shared} {fp : List Addr} (I : Inv X pins σ H s) (hf : ∀ b ∈ fp, FpOk X pins H b) (ho : ∀ b ∈ fp, ∃ o, s.heap.get? b = some o ∧ ∀ v, o.data ≠ .cell v) : Inv X (pins ++ gy fp s.heap) σ H s :=
  I.pins_of fun p hp => (List.mem_append.mp hp).elim (fun z => I.pin p (List.mem_append_right _ z)) fun z => by
    obtain ⟨hb, e⟩ := a0k z
    obtain ⟨f0, f1, f2, _⟩ := hf p.1 hb
    obtain ⟨o, e', d⟩ := ho p.1 hb
    rw [e] at e'; cases e'
    exact ⟨e, f0, f1, f2, d⟩
theorem Inv.unpinned {pins pl : List (Addr × Obj)} {σ : St} {H : Hp} {s : Shared} (I : Inv X (pins ++ pl) σ H s) : Inv X pins σ H s := I.pins_of fun p hp => I.pin p (List.mem_append_right _ (List.mem_append_left _ hp))
theorem zn {iter : Expr} {body : List Stmt} {wi : TI} {g : TG} {tb : TS} {pos : Pos} (hp : PassesOwn (model X.prog X.w) X.A X.env X.xe) (hc : X.calm = true) (hi : PI X tg iter wi) (hg : PG X tg g) (hb : PSs X body tb)
    (hs : ∀ x, foldedSetIterable iter X.env x = pure x := by intro _; rfl) : PS X (.For tg iter body [] pos) (tFor wi g tb) := by
  intro pins s σ H D I h
  refine wpAny_For (thn (hi pins s σ H _ I h) fun v s1 h1 => thn h1 fun itv s2 h2 => ?_) hs
  obtain ⟨it, fp, tn, J, H2, e, I2, T, st2, f2, W, ⟨m0, w0⟩, turn⟩ := h2
  subst e
  have stat : ∀ {H' : Hp}, (∀ b ∈ fp, H' b = none) → ∀ b ∈ fp, FpOk X pins H' b := fun hn b hb => ⟨hn b hb, (f2 b hb).2⟩
  refine codeAny_forLoop_any (fun n s' => ∃ i σ' H', Inv X pins σ' H' s' ∧ tn i s'.heap ∧ (∀ b ∈ fp, H' b = none) ∧ W i n σ' H') ?_ m0 ⟨0, σ, H2, I2, st2, fun b hb => (f2 b hb).1, w0⟩
  rintro n s3 ⟨i, σ3, H3, I3, st3, fr3, w3⟩
  rcases turn i n σ3 H3 w3 with ⟨stop, qn⟩ | ⟨go, N, hN, step⟩
  · refine wpAny_passesOwn hp (thn (T.done X rfl rfl rfl hc i pins s3 σ3 H3 X.xe I3 (stat fr3) st3 stop) fun r s4 zq => ?_)
    obtain ⟨hr, I4⟩ := zq
    subst hr
    exact wpAny_execs_nil ⟨σ3, H3, I4, qn⟩
  · refine wpAny_passesOwn hp (thn (T.item X rfl rfl rfl hc i pins s3 σ3 H3 X.xe I3 (stat fr3) st3 go) fun r s4 zq => ?_)
    obtain ⟨u, hr, h4⟩ := zq
    subst hr
    refine wpAny_passesOwn hp (thn h4 fun _ s5 zq => ?_)
    obtain ⟨x, H5, I5, r5, y5, st5, fr5⟩ := zq
    have I5' := I5.pinned (stat fr5) (T.obj _ _ st5)
    refine wpAny_passesOwn hp (thn (hg _ s5 σ3 H5 x u _ I5' r5 (step x H5 y5)) fun _ s6 zq => ?_)
    obtain ⟨σ6, H6, I6, q6⟩ := zq
    refine wpAny_passesOwn hp (thn (hb _ s6 σ6 H6 _ I6 q6) fun f s7 q7 => ?_)
    have again : ∀ {σ7 : St} {H7 : Hp}, Inv X (pins ++ gy fp s5.heap) σ7 H7 s7 → N σ7 H7 → ∃ m, m < n ∧ ∃ i σ' H', Inv X pins σ' H' s7 ∧ tn i s7.heap ∧ (∀ b ∈ fp, H' b = none) ∧ W i m σ' H' := fun {σ7 H7} I7 n7 => by
      obtain ⟨m', hm, w7⟩ := hN σ7 H7 n7
      refine ⟨m', hm, i + 1, σ7, H7, I7.unpinned, T.keep _ _ _ st5 fun b hb o e => (I7.pin (b, o) (List.mem_append_right _ (List.mem_append_right _ (fi hb e)))).1, fun b hb => ?_, w7⟩
      obtain ⟨o, e, d⟩ := T.obj _ _ st5 b hb
      exact (I7.pin (b, o) (List.mem_append_right _ (List.mem_append_right _ (fi hb e)))).2.1
    cases f with
    | next => obtain ⟨σ7, H7, I7, n7⟩ := q7; exact again I7 n7
    | cont => obtain ⟨σ7, H7, I7, n7⟩ := q7; exact again I7 n7
    | brk => obtain ⟨σ7, H7, I7, q7⟩ := q7; exact ⟨σ7, H7, I7.unpinned, q7⟩
    | ret v => obtain ⟨x7, σ7, H7, I7, r7, q7⟩ := q7; exact ⟨x7, σ7, H7, I7.unpinned, r7, q7⟩
end
theorem gn {K : PySem.W.Frag} {a : Addr} {xs : List V} {g : TG} {tb : TS} {D : Ends} {σ : St} {H : Hp} (Pv : Nat → St → Hp → Prop) (h0 : Pv 0 σ H) (hl : ∀ i σ H, i ≤ xs.length → Pv i σ H → SqL K H a xs)
    (hs : ∀ i x σ H, xs[i]? = some x → Pv i σ H → g x σ H fun σ2 H2 => tb { D with nx := Pv (i + 1), ct := Pv (i + 1), bk := D.nx } σ2 H2) (hd : ∀ σ H, Pv xs.length σ H → D.nx σ H) :
    ∃ W : Nat → Nat → St → Hp → Prop, (∃ m, W 0 m σ H) ∧ ∀ i m σ H, W i m σ H →
      ((Itl K a).stop i H ∧ D.nx σ H) ∨ ((Itl K a).go i H ∧ ∃ N : St → Hp → Prop, (∀ σ' H', N σ' H' → ∃ m', m' < m ∧ W (i + 1) m' σ' H') ∧ ∀ x H', (Itl K a).yld i H x H' → g x σ H' fun σ2 H2 => tb { D with nx := N, ct := N, bk := D.nx } σ2 H2) := by
  refine ⟨fun i m σ H => m = xs.length - i ∧ i ≤ xs.length ∧ Pv i σ H, ⟨xs.length, by simp, Nat.zero_le _, h0⟩, ?_⟩
  rintro i m σ H ⟨rfl, hi, p⟩
  have q := hl i σ H hi p
  by_cases hlt : i < xs.length
  · refine .inr ⟨⟨xs, xs[i], q, by simp [hlt]⟩, Pv (i + 1), fun σ' H' p' => ⟨xs.length - (i + 1), by lia, rfl, hlt, p'⟩, fun x H' y => ?_⟩
    obtain ⟨e, y⟩ := y
    subst e
    exact hs i x σ _ (y xs q) p
  · have e : i = xs.length := by lia
    subst e
    exact .inl ⟨⟨xs, q, Nat.le_refl _⟩, hd σ H p⟩
theorem cf {lo : Int} {n : Nat} {g : TG} {tb : TS} {D : Ends} {σ : St} {H : Hp} (Pv : Nat → St → Hp → Prop) (h0 : Pv 0 σ H)
    (hs : ∀ i σ H, i < n → Pv i σ H → g (.int (lo + i)) σ H fun σ2 H2 => tb { D with nx := Pv (i + 1), ct := Pv (i + 1), bk := D.nx } σ2 H2) (hd : ∀ σ H, Pv n σ H → D.nx σ H) :
    ∃ W : Nat → Nat → St → Hp → Prop, (∃ m, W 0 m σ H) ∧ ∀ i m σ H, W i m σ H →
      ((Itr lo n).stop i H ∧ D.nx σ H) ∨ ((Itr lo n).go i H ∧ ∃ N : St → Hp → Prop, (∀ σ' H', N σ' H' → ∃ m', m' < m ∧ W (i + 1) m' σ' H') ∧ ∀ x H', (Itr lo n).yld i H x H' → g x σ H' fun σ2 H2 => tb { D with nx := N, ct := N, bk := D.nx } σ2 H2) := by
  refine ⟨fun i m σ H => m = n - i ∧ i ≤ n ∧ Pv i σ H, ⟨n, by simp, Nat.zero_le _, h0⟩, ?_⟩
  rintro i m σ H ⟨rfl, hi, p⟩
  by_cases hlt : i < n
  · refine .inr ⟨hlt, Pv (i + 1), fun σ' H' p' => ⟨n - (i + 1), by lia, rfl, hlt, p'⟩, fun x H' y => ?_⟩
    obtain ⟨e, y⟩ := y
    subst e y
    exact hs i σ _ hlt p
  · have e : i = n := by lia
    subst e
    exact .inl ⟨Nat.le_refl _, hd σ H p⟩
theorem tf {c : TT} {tb : TS} {D : Ends} {σ : St} {H : Hp} (Pv : St → Hp → Prop) (μ : St → Hp → Nat) (h0 : Pv σ H)
    (hs : ∀ σ H, Pv σ H → c σ H fun b H1 => if b = true then tb { D with nx := fun σ' H' => Pv σ' H' ∧ μ σ' H' < μ σ H, ct := fun σ' H' => Pv σ' H' ∧ μ σ' H' < μ σ H, bk := D.nx } σ H1 else D.nx σ H1)
    (mono : ∀ σ H Q Q', (∀ b H1, Q b H1 → Q' b H1) → c σ H Q → c σ H Q') : pj c tb D σ H := by
  refine ⟨fun m σ H => m = μ σ H ∧ Pv σ H, ⟨_, rfl, h0⟩, ?_⟩
  rintro m σ H ⟨rfl, p⟩
  refine mono σ H _ _ (fun b H1 q => ?_) (hs σ H p)
  cases b with
  | true => exact ⟨_, fun σ' H' ⟨p', l⟩ => ⟨_, l, rfl, p'⟩, q⟩
  | false => exact q
end L2
namespace L2
open PySem PySem.Spec PyProof.Rows
abbrev R2 := V → V → Hp → VK → Prop
noncomputable def OpR (X : Cx) (f : Value → Value → Sem Value) (r : R2) : Prop :=
  ∀ (pins : List (Addr × Obj)) (s : Shared) (σ : St) (H : Hp) (x y : V) (v u : Value) (Q : VK), Inv X pins σ H s → RelV x v → RelV y u → r x y H Q →
    wpAny (model X.prog X.w) X.A (f v u) (EP X pins σ Q) X.xe s
noncomputable def UnR (X : Cx) (f : Value → Sem Value) (r : V → Hp → VK → Prop) : Prop :=
  ∀ (pins : List (Addr × Obj)) (s : Shared) (σ : St) (H : Hp) (x : V) (v : Value) (Q : VK), Inv X pins σ H s → RelV x v → r x H Q →
    wpAny (model X.prog X.w) X.A (f v) (EP X pins σ Q) X.xe s
noncomputable def cw (X : Cx) (f : Value) (r : List V → Hp → VK → Prop) : Prop :=
  ∀ (pins : List (Addr × Obj)) (s : Shared) (σ : St) (H : Hp) (xs : List V) (us : List Value) (Q : VK), Inv X pins σ H s → Vals xs us → r xs H Q →
    wpAny (model X.prog X.w) X.A (call f us) (EP X pins σ Q) X.xe s
noncomputable def TruR (X : Cx) (r : V → Hp → (Bool → Hp → Prop) → Prop) : Prop :=
  ∀ (pins : List (Addr × Obj)) (s : Shared) (σ : St) (H : Hp) (x : V) (v : Value) (Q : Bool → Hp → Prop), Inv X pins σ H s → RelV x v → r x H Q →
    wpAny (model X.prog X.w) X.A (truthy v) (TP X pins σ Q) X.xe s
noncomputable def tOp (r : R2) (ta tb : TE) : TE := fun σ H Q => ta σ H fun x H1 => tb σ H1 fun y H2 => r x y H2 Q
noncomputable def tUn (r : V → Hp → VK → Prop) (ta : TE) : TE := fun σ H Q => ta σ H fun x H1 => r x H1 Q
inductive rIS (C : Int → Int → Prop) (g : Int → Int → V) (x y : V) (H : Hp) (Q : VK) : Prop
  | mk (i j : Int) (h0 : x = .int i) (h1 : y = .int j) (h2 : C i j) (h3 : Q (g i j) H) : rIS C g x y H Q
noncomputable def rI (C : Int → Int → Prop) (g : Int → Int → V) : R2 := fun x y H Q => rIS C g x y H Q
inductive rI0S (g : Int → Int → V) (x y : V) (H : Hp) (Q : VK) : Prop
  | mk (i j : Int) (h0 : x = .int i) (h1 : y = .int j) (h2 : Q (g i j) H) : rI0S g x y H Q
noncomputable def rI0 (g : Int → Int → V) : R2 := fun x y H Q => rI0S g x y H Q
inductive rUS (g : Int → V) (x : V) (H : Hp) (Q : VK) : Prop
  | mk (i : Int) (h0 : x = .int i) (h1 : Q (g i) H) : rUS g x H Q
noncomputable def rU (g : Int → V) : V → Hp → VK → Prop := fun x H Q => rUS g x H Q
section
variable {X : Cx} {a b c : Expr} {ta tb tc : TE} {pos : Pos}
theorem binT (ha : PE X a ta) (hb : PE X b tb) {pins : List (Addr × Obj)} {s : Shared} {σ : St} {H : Hp} {R : V → V → Hp → Prop} (I : Inv X pins σ H s)
    (h : ta σ H fun x H1 => tb σ H1 fun y H2 => R x y H2) {Q : Value → Shared → Prop} {f : Value → Value → Sem Value}
    (hf : ∀ v u s2 x y H2, Inv X pins σ H2 s2 → RelV x v → RelV y u → R x y H2 → wpAny (model X.prog X.w) X.A (f v u) Q X.xe s2) :
    wpAny (model X.prog X.w) X.A (eval a X.env) (fun v s₁ => wpAny (model X.prog X.w) X.A (eval b X.env) (fun u s₂ => wpAny (model X.prog X.w) X.A (f v u) Q X.xe s₂) X.xe s₁) X.xe s := by
  refine thn (ha pins s σ H _ I h) fun v s1 zq => ?_
  obtain ⟨x, H1, I1, r1, q1⟩ := zq
  refine thn (hb pins s1 σ H1 _ I1 q1) fun u s2 zq => ?_
  obtain ⟨y, H2, I2, r2, q2⟩ := zq
  exact hf v u s2 x y H2 I2 r1 r2 q2
theorem a3f {op : Operator} {r : R2} (ho : OpR X (binaryOp op) r) (ha : PE X a ta) (hb : PE X b tb) : PE X (.BinOp a op b pos) (tOp r ta tb) := by
  intro pins s σ H Q I h
  exact wpAny_BinOp (binT ha hb I h fun v u s2 x y H2 I2 rx ry q => ho pins s2 σ H2 x y v u Q I2 rx ry q)
theorem a6z {op : UnaryOp} {r : V → Hp → VK → Prop} (ho : UnR X (unaryOp op) r) (ha : PE X a ta) : PE X (.UnaryOp op a pos) (tUn r ta) := by
  intro pins s σ H Q I h
  exact UnaryOp_ (thn (ha pins s σ H _ I h) fun v s1 ⟨x, H1, I1, r1, q1⟩ => ho pins s1 σ H1 x v Q I1 r1 q1)
theorem opI {f : Value → Value → Sem Value} {C : Int → Int → Prop} {g : Int → Int → Int}
    (rule : ∀ (i j : Int) (t u : Tok) (s : Shared) (Q : Value → Shared → Prop) (E : Value → Shared → Prop), C i j → Q (.int (g i j) s.toks) { s with toks := s.toks + 1 } → wpAny (model X.prog X.w) X.A (f (.int i t) (.int j u)) Q E s) :
    OpR X f (rI C fun i j => .int (g i j)) := by
  intro pins s σ H x y v u Q I rx ry h
  obtain ⟨i, j, rfl, rfl, hc, q⟩ := h
  obtain ⟨t, rfl⟩ := rx
  obtain ⟨t', rfl⟩ := ry
  exact rule i j t t' s _ _ hc ⟨.int (g i j), H, I.tok _, ⟨_, rfl⟩, q⟩
theorem opI0 {f : Value → Value → Sem Value} {g : Int → Int → Int}
    (rule : ∀ (i j : Int) (t u : Tok) (s : Shared) (Q : Value → Shared → Prop) (E : Value → Shared → Prop), Q (.int (g i j) s.toks) { s with toks := s.toks + 1 } → wpAny (model X.prog X.w) X.A (f (.int i t) (.int j u)) Q E s) :
    OpR X f (rI0 fun i j => .int (g i j)) := by
  intro pins s σ H x y v u Q I rx ry h
  obtain ⟨i, j, rfl, rfl, q⟩ := h
  obtain ⟨t, rfl⟩ := rx
  obtain ⟨t', rfl⟩ := ry
  exact rule i j t t' s _ _ ⟨.int (g i j), H, I.tok _, ⟨_, rfl⟩, q⟩
theorem opB0 {f : Value → Value → Sem Value} {g : Int → Int → Bool}
    (rule : ∀ (i j : Int) (t u : Tok) (s : Shared) (Q : Value → Shared → Prop) (E : Value → Shared → Prop), Q (.bool (g i j)) s → wpAny (model X.prog X.w) X.A (f (.int i t) (.int j u)) Q E s) :
    OpR X f (rI0 fun i j => .bl (g i j)) := by
  intro pins s σ H x y v u Q I rx ry h
  obtain ⟨i, j, rfl, rfl, q⟩ := h
  obtain ⟨t, rfl⟩ := rx
  obtain ⟨t', rfl⟩ := ry
  exact rule i j t t' s _ _ ⟨.bl (g i j), H, I, rfl, q⟩
noncomputable def CDiv (i j : Int) : Prop := 0 < j ∧ j < 1073741824
noncomputable def CPow (i j : Int) : Prop := 0 ≤ j ∧ j ≤ 1000000 ∧ i.natAbs < 2 ^ 64
noncomputable def CMul (i j : Int) : Prop := (-(2 ^ 64) < i ∧ i < 2 ^ 64) ∨ (-(2 ^ 64) < j ∧ j < 2 ^ 64)
theorem CMul.ok {i j : Int} (h : CMul i j) : IntMulOk i j := by
  rcases h with ⟨h1, h2⟩ | ⟨h1, h2⟩
  · exact .of_left (intBits_le_64 h1 h2)
  · exact .of_right (intBits_le_64 h1 h2)
theorem bp : OpR X (binaryOp .Add) (rI0 fun i j => .int (i + j)) := opI0 fun _ _ _ _ _ _ _ q => add_int q
theorem fq : OpR X (binaryOp .Mult) (rI CMul fun i j => .int (i * j)) := opI fun _ _ _ _ _ _ _ hc q => mul_int q hc.ok
theorem df : OpR X (binaryOp .FloorDiv) (rI CDiv fun i j => .int (i / j)) := opI fun i j _ _ _ _ _ hc q => by
  have h1 : (0 : Int) < j := hc.1
  have h2 : j < 1073741824 := hc.2
  exact floordiv_int (by lia) (by rw [Int.fdiv_eq_ediv_of_nonneg i (by lia)]; exact q) (.inl (PyProof.noPylong_small (by lia)))
theorem b0 : OpR X (binaryOp .Mod) (rI (fun _ j => 0 < j) fun i j => .int (i % j)) := opI fun i j _ _ _ _ _ hc q => by
  have h1 : (0 : Int) < j := hc
  exact mod_int' (by lia) (by rw [Int.fmod_eq_emod_of_nonneg i (by lia)]; exact q)
theorem io : OpR X (binaryOp .Pow) (rI CPow fun i j => .int (i ^ j.toNat)) := opI fun _ _ _ _ _ _ _ hc q => pow_int_small hc.1 hc.2.1 hc.2.2 q
theorem unI {f : Value → Sem Value} {g : Int → Int}
    (rule : ∀ (i : Int) (t : Tok) (s : Shared) (Q : Value → Shared → Prop) (E : Value → Shared → Prop), Q (.int (g i) s.toks) { s with toks := s.toks + 1 } → wpAny (model X.prog X.w) X.A (f (.int i t)) Q E s) :
    UnR X f (rU fun i => .int (g i)) := by
  intro pins s σ H x v Q I rx h
  obtain ⟨i, rfl, q⟩ := h
  obtain ⟨t, rfl⟩ := rx
  exact rule i t s _ _ ⟨.int (g i), H, I.tok _, ⟨_, rfl⟩, q⟩
theorem a5b : UnR X (unaryOp .USub) (rU fun i => .int (-i)) := unI fun _ _ _ _ _ q => neg_int q
end
noncomputable def scal : V → V → Bool
  | .non, .non => true | .non, .int _ => true | .int _, .non => true | .non, .bl _ => true | .bl _, .non => true | .non, .str _ => true | .str _, .non => true
  | .int _, .int _ => true | .bl _, .bl _ => true | .str _, .str _ => true | .byt _, .byt _ => true
  | .int _, .str _ => true | .str _, .int _ => true | .bl _, .str _ => true | .str _, .bl _ => true
  | _, _ => false
noncomputable def rEq : R2 := fun x y H Q => scal x y = true ∧ Q (.bl (decide (x = y))) H
noncomputable def rNe : R2 := fun x y H Q => scal x y = true ∧ Q (.bl (!decide (x = y))) H
theorem yc {i j : Int} : decide (V.int i = V.int j) = (i == j) := by
  rw [Bool.eq_iff_iff]
  simp
theorem a01 {i j : Bool} : decide (V.bl i = V.bl j) = (i == j) := by
  rw [Bool.eq_iff_iff]
  simp
theorem y3 {i j : Str} : decide (V.str i = V.str j) = (i == j) := by
  rw [Bool.eq_iff_iff]
  simp
theorem wv {i j : Array UInt8} : decide (V.byt i = V.byt j) = (i.toList == j.toList) := by
  rw [Bool.eq_iff_iff]
  cases i
  cases j
  simp
section
variable {X : Cx} {a b c : Expr} {ta tb tc : TE} {pos : Pos}
theorem bg {pins : List (Addr × Obj)} {σ : St} {H : Hp} {s : Shared} {Q : VK} {k k' : Bool} (I : Inv X pins σ H s) (q : Q (.bl k) H) (e : k = k') : EP X pins σ Q (.bool k') s := by
  subst e
  exact ⟨.bl k, H, I, rfl, q⟩
theorem bn : OpR X (compareOp .Eq) rEq := by
  intro pins s σ H x y v u Q I rx ry h
  obtain ⟨hs, q⟩ := h
  cases x with
  | non =>
    cases rx
    cases y with
    | non => cases ry; exact PySem.EqNone.eq_none_none (bg I q (by simp))
    | bl j => cases ry; exact PySem.EqNone.eq_none_bool (bg I q (by simp))
    | int j => obtain ⟨t', rfl⟩ := ry; exact PySem.EqNone.eq_none_int (bg I q (by simp))
    | str j => obtain ⟨t', rfl⟩ := ry; exact PySem.EqNone.eq_none_str (bg I q (by simp))
    | _ => exact absurd (show false = true from hs) Bool.false_ne_true
  | bl i =>
    cases rx
    cases y with
    | non => cases ry; exact PySem.EqNone.eq_bool_none (bg I q (by simp))
    | bl j => cases ry; exact eq_bool (bg I q a01)
    | str j => obtain ⟨t', rfl⟩ := ry; exact PySem.EqMixed.eq_bool_str (bg I q (by simp))
    | _ => exact absurd (show false = true from hs) Bool.false_ne_true
  | int i =>
    obtain ⟨t, rfl⟩ := rx
    cases y with
    | non => cases ry; exact PySem.EqNone.eq_int_none (bg I q (by simp))
    | int j => obtain ⟨t', rfl⟩ := ry; exact eq_int (bg I q yc)
    | str j => obtain ⟨t', rfl⟩ := ry; exact PySem.EqMixed.eq_int_str (bg I q (by simp))
    | _ => exact absurd (show false = true from hs) Bool.false_ne_true
  | str i =>
    obtain ⟨t, rfl⟩ := rx
    cases y with
    | non => cases ry; exact PySem.EqNone.eq_str_none (bg I q (by simp))
    | bl j => cases ry; exact PySem.EqMixed.eq_str_bool (bg I q (by simp))
    | int j => obtain ⟨t', rfl⟩ := ry; exact PySem.EqMixed.eq_str_int (bg I q (by simp))
    | str j => obtain ⟨t', rfl⟩ := ry; exact eq_str (bg I q y3)
    | _ => exact absurd (show false = true from hs) Bool.false_ne_true
  | byt i =>
    obtain ⟨t, rfl⟩ := rx
    cases y with
    | byt j => obtain ⟨t', rfl⟩ := ry; exact PySem.W.eq_bytes (bg I q wv)
    | _ => exact absurd (show false = true from hs) Bool.false_ne_true
  | _ => cases y <;> exact absurd (show false = true from hs) Bool.false_ne_true
theorem pg : OpR X (compareOp .NotEq) rNe := by
  intro pins s σ H x y v u Q I rx ry h
  obtain ⟨hs, q⟩ := h
  cases x with
  | non =>
    cases rx
    cases y with
    | non => cases ry; exact PySem.EqNone.ne_none_none (bg I q (by simp))
    | bl j => cases ry; exact PySem.EqNone.ne_none_bool (bg I q (by simp))
    | int j => obtain ⟨t', rfl⟩ := ry; exact PySem.EqNone.ne_none_int (bg I q (by simp))
    | str j => obtain ⟨t', rfl⟩ := ry; exact PySem.EqNone.ne_none_str (bg I q (by simp))
    | _ => exact absurd (show false = true from hs) Bool.false_ne_true
  | bl i =>
    cases rx
    cases y with
    | non => cases ry; exact PySem.EqNone.ne_bool_none (bg I q (by simp))
    | bl j => cases ry; exact ne_bool (bg I q (congrArg not a01))
    | str j => obtain ⟨t', rfl⟩ := ry; exact PySem.EqMixed.ne_bool_str (bg I q (by simp))
    | _ => exact absurd (show false = true from hs) Bool.false_ne_true
  | int i =>
    obtain ⟨t, rfl⟩ := rx
    cases y with
    | non => cases ry; exact PySem.EqNone.ne_int_none (bg I q (by simp))
    | int j => obtain ⟨t', rfl⟩ := ry; exact ne_int (bg I q (congrArg not yc))
    | str j => obtain ⟨t', rfl⟩ := ry; exact PySem.EqMixed.ne_int_str (bg I q (by simp))
    | _ => exact absurd (show false = true from hs) Bool.false_ne_true
  | str i =>
    obtain ⟨t, rfl⟩ := rx
    cases y with
    | non => cases ry; exact PySem.EqNone.ne_str_none (bg I q (by simp))
    | bl j => cases ry; exact PySem.EqMixed.ne_str_bool (bg I q (by simp))
    | int j => obtain ⟨t', rfl⟩ := ry; exact PySem.EqMixed.ne_str_int (bg I q (by simp))
    | str j => obtain ⟨t', rfl⟩ := ry; exact ne_str (bg I q (congrArg not y3))
    | _ => exact absurd (show false = true from hs) Bool.false_ne_true
  | byt i =>
    obtain ⟨t, rfl⟩ := rx
    cases y with
    | byt j => obtain ⟨t', rfl⟩ := ry; exact PySem.W.ne_bytes (bg I q (congrArg not wv))
    | _ => exact absurd (show false = true from hs) Bool.false_ne_true
  | _ => cases y <;> exact absurd (show false = true from hs) Bool.false_ne_true
theorem a3v : OpR X (compareOp .Lt) (rI0 fun i j => .bl (decide (i < j))) := opB0 fun _ _ _ _ _ _ _ q => lt_int q
theorem a3o : OpR X (compareOp .Gt) (rI0 fun i j => .bl (decide (j < i))) := opB0 fun _ _ _ _ _ _ _ q => gt_int q
theorem vo : OpR X (compareOp .Is) (fun x y H Q => y = .non ∧ Q (.bl (decide (x = .non))) H) := by
  intro pins s σ H x y v u Q I rx ry h
  obtain ⟨rfl, q⟩ := h
  cases ry
  refine is_none_gen (bg I q ?_)
  cases x <;> first
    | (cases rx; rfl)
    | (obtain ⟨t, rfl⟩ := rx; rfl)
theorem xu : OpR X (compareOp .IsNot) (fun x y H Q => y = .non ∧ Q (.bl (!decide (x = .non))) H) := by
  intro pins s σ H x y v u Q I rx ry h
  obtain ⟨rfl, q⟩ := h
  cases ry
  refine isnot_none_gen (bg I q ?_)
  cases x <;> first
    | (cases rx; rfl)
    | (obtain ⟨t, rfl⟩ := rx; rfl)
theorem au (b : Expr) {op : CmpOp} (h : op ≠ .In := by decide) (h2 : op ≠ .NotIn := by decide) : behindInMarks op b = false := by
  have e1 : (op == CmpOp.In) = false := by cases op <;> first | rfl | exact absurd rfl h
  have e2 : (op == CmpOp.NotIn) = false := by cases op <;> first | rfl | exact absurd rfl h2
  cases b <;> simp [behindInMarks, e1, e2]
theorem a4p {op : CmpOp} {r : R2} (ho : OpR X (compareOp op) r) (ha : PE X a ta) (hb : PE X b tb) (hm : behindInMarks op b = false) : PE X (.Compare a [op] [b] pos) (tOp r ta tb) := by
  intro pins s σ H Q I h
  exact wpAny_Compare1 (binT ha hb I h fun v u s2 x y H2 I2 rx ry q => ho pins s2 σ H2 x y v u Q I2 rx ry q) hm
inductive tTestS (x : V) (H' : Hp) (Q : Bool → Hp → Prop) : Prop
  | mk (k : Bool) (h0 : x = .bl k) (h1 : Q k H') : tTestS x H' Q
noncomputable def sv (t : TE) : TT := fun σ H Q => t σ H fun x H' => tTestS x H' Q
theorem xh {op : CmpOp} {r : R2} (ho : OpR X (compareOp op) r) (ha : PE X a ta) (hb : PE X b tb) (hm : behindInMarks op b = false) : PT X (.Compare a [op] [b] pos) (sv (tOp r ta tb)) := by
  intro pins s σ H Q I h
  refine wpAny_isTrue_Compare1 (thn (ha pins s σ H _ I h) fun v s1 ⟨x, H1, I1, r1, q1⟩ => thn (hb pins s1 σ H1 _ I1 q1) fun u s2 ⟨y, H2, I2, r2, q2⟩ =>
    thn (ho pins s2 σ H2 x y v u _ I2 r1 r2 q2) fun c s3 ⟨z, H3, I3, r3, k, e, q3⟩ => ?_) hm
  subst e
  cases r3
  exact wpAny_truthy_bool ⟨H3, I3, q3⟩
noncomputable def TruV (K : PySem.W.Frag) (x : V) (H : Hp) (k : Bool) : Prop :=
  match x with
  | .non => k = false
  | .bl b => k = b
  | .int i => k = (i != 0)
  | .str y => y.length ≤ sizeLine ∧ k = ((y.length : Int) != 0)
  | .byt y => y.size ≤ sizeLine ∧ k = ((y.size : Int) != 0)
  | .ref p => (∃ xs, SqL K H p xs ∧ k = !xs.isEmpty) ∨ (∃ xs, SqT K H p xs ∧ k = !xs.isEmpty) ∨ ∃ kvs, H p = some (.dK kvs) ∧ k = !kvs.isEmpty
  | _ => False
theorem yi {κ : Type} {kvs : List (κ × V)} {vs : List (κ × Value)} (r : KV kvs vs) : (!vs.isEmpty) = !kvs.isEmpty := by
  cases r <;> rfl
theorem p9 {xs : List V} {its : List Value} (r : Vals xs its) : (!its.toArray.isEmpty) = !xs.isEmpty := by
  cases r <;> simp
theorem jt : (sizeLine : Nat) < 2 ^ 63 := by rw [sizeLine_eq]; decide
theorem a52 : TruR X (fun x H Q => ∃ k, TruV X.K x H k ∧ Q k H) := by
  intro pins s σ H x v Q I rx h
  obtain ⟨k, e, q⟩ := h
  have hl := jt
  have hs : sizeLine = 16777216 := sizeLine_eq
  cases x with
  | non =>
    cases rx
    have e' : k = false := e
    subst e'
    exact truthy_none ⟨H, I, q⟩
  | bl b =>
    cases rx
    have e' : k = b := e
    subst e'
    exact wpAny_truthy_bool ⟨H, I, q⟩
  | int i =>
    obtain ⟨t, rfl⟩ := rx
    have e' : k = (i != 0) := e
    subst e'
    exact PySem.P.truthy_int ⟨H, I, q⟩
  | str y =>
    obtain ⟨t, rfl⟩ := rx
    obtain ⟨hy, e'⟩ : y.length ≤ sizeLine ∧ k = ((y.length : Int) != 0) := e
    subst e'
    exact PySem.P.truthy_str (by lia) ⟨H, I.tok _, q⟩
  | byt y =>
    obtain ⟨t, rfl⟩ := rx
    obtain ⟨hy, e'⟩ : y.size ≤ sizeLine ∧ k = ((y.size : Int) != 0) := e
    subst e'
    exact PySem.W.truthy_bytes (by lia) ⟨H, I.tok _, q⟩
  | ref p =>
    cases rx
    have e' : (∃ xs, SqL X.K H p xs ∧ k = !xs.isEmpty) ∨ (∃ xs, SqT X.K H p xs ∧ k = !xs.isEmpty) ∨ ∃ kvs, H p = some (.dK kvs) ∧ k = !kvs.isEmpty := e
    rcases e' with ⟨xs, hx, e'⟩ | ⟨xs, hx, e'⟩ | ⟨kvs, hx, e'⟩
    · subst e'
      obtain ⟨its, r, pl, hz⟩ := I.list hx
      have hlen := r.length
      exact wpAny_truthy_list pl.isList (by simp only [List.size_toArray]; lia) ⟨H, I.tok _, by rw [p9 r]; exact q⟩
    · subst e'
      obtain ⟨its, r, pl, hz⟩ := I.tuple hx
      have hlen := r.length
      exact truthy_tuple pl (by simp only [List.size_toArray]; lia) ⟨H, I.tok _, by rw [p9 r]; exact q⟩
    · subst e'
      obtain ⟨hz, hS, vs, r, m⟩ : kvs.length ≤ sizeLine ∧ (p == sysModules) = false ∧ ∃ vs, KV kvs vs ∧ s.heap.DictOf (bz X.prog X.w) p vs := I.hok p _ hx
      have hlen : kvs.length = vs.length := Paired.length r
      exact wpAny_truthy_dict hS m (by lia) ⟨H, I.tok _, by rw [yi r]; exact q⟩
  | _ => exact (show False from e).elim
theorem a1m (ha : PE X a ta) (he : ∀ whole, isTrue a X.env whole = (do let v ← whole; standAt a.pos; holding [v] (truthy v))) :
    PT X a (fun σ H Q => ta σ H fun x H' => ∃ k, TruV X.K x H' k ∧ Q k H') := by
  intro pins s σ H Q I h
  exact isTrue_plain (thn (ha pins s σ H _ I h) fun v s1 ⟨x, H1, I1, r1, q1⟩ => a52 pins s1 σ H1 x v Q I1 r1 q1) (he _)
theorem gi : OpR X (binaryOp .Add) (fun x y H Q => ∃ i j, x = .str i ∧ y = .str j ∧ i.length + j.length ≤ sizeLine ∧ Q (.str (i ++ j)) H) := by
  intro pins s σ H x y v u Q I rx ry h
  obtain ⟨i, j, rfl, rfl, hz, q⟩ := h
  obtain ⟨t, rfl⟩ := rx
  obtain ⟨t', rfl⟩ := ry
  exact add_str (fun t' tk => ⟨.str (i ++ j), H, I.tok _, ⟨_, rfl⟩, q⟩) hz
theorem nk {x : V} {us : List Value} (r : Vals [x] us) : ∃ u, us = [u] ∧ RelV x u := by
  cases r with
  | cons r1 r2 => cases r2; exact ⟨_, rfl, r1⟩
theorem a6w {x y : V} {us : List Value} (r : Vals [x, y] us) : ∃ u w', us = [u, w'] ∧ RelV x u ∧ RelV y w' := by
  cases r with
  | cons r1 r2 =>
    cases r2 with
    | cons r3 r4 => cases r4; exact ⟨_, _, rfl, r1, r3⟩
end
end L2
namespace L2
open PySem PySem.Spec PyProof.Rows
section
variable {prog : Program} {w : World} {A : Around} {E : Value → Shared → Prop} {s : Shared} {K : PySem.W.Frag} {x dx C f : Addr} {mA : Str → Option Value} {name : Str} {v : Value}
end
theorem RelO.some_of {v : V} {o : Option Value} (r : RelO (some v) o) : ∃ u, o = some u ∧ RelV v u := by
  cases o with
  | none => exact (show False from r).elim
  | some u => exact ⟨u, rfl, r⟩
section
variable {P : Program} {w : World} {H H' : Hp} {h h' : Heap} {a C dx : Addr} {fs fs' : List (Str × V)}
end
structure Con (K : PySem.W.Frag) (C : Addr) (f : Str) (v : V) (u : Value) : Prop where
  at_ : PySem.W.findIn K (.ref C) f = some (some u)
  rel : RelV v u
  get : PySem.W.specialIn K u "__get__" = some none
  cp : PySem.W.copiedNames.contains f = false
section
variable {X : Cx} {pins : List (Addr × Obj)} {σ : St} {H : Hp} {s : Shared} {a C dx : Addr} {fs : List (Str × V)} {f : Str} {v : V} {A : Around} {E : Value → Shared → Prop}
end
section
variable {X : Cx} {o e value : Expr} {f : Str} {pos pos' tpos : Pos} {ta tv : TE}
end
section
variable {X : Cx} {pins : List (Addr × Obj)} {σ : St} {H : Hp} {s : Shared} {A : Around} {E : Value → Shared → Prop} {Q : Value → Shared → Prop} {c : Value} {b : Bool}
end
end L2
namespace L2
open PySem PySem.Spec PyProof.Rows
structure Room (k : Nat) (A : Around) : Prop where
  hd : A.handled = none
  dp : A.depth + 3 * k + 5 < recursionLimit
  un : A.units + 16 * k + 200 < cLine
theorem Room.mono {j k : Nat} {A : Around} (r : Room k A) (h : j ≤ k) : Room j A := ⟨r.hd, by have := r.dp; lia, by have := r.un; lia⟩
theorem Room.deeper {k : Nat} {A : Around} (r : Room (k + 1) A) (env : Env) : Room k (A.deeper env) :=
  ⟨r.hd, by have := r.dp; show A.depth + 1 + 3 * k + 5 < _; lia, by have := r.un; show A.units + 3 + 16 * k + 200 < _; lia⟩
theorem Room.depth {k : Nat} {A : Around} (r : Room k A) : A.depth < recursionLimit := by have := r.dp; lia
theorem Room.units {k : Nat} {A : Around} (r : Room k A) : A.units + 64 < cLine := by have := r.un; lia
noncomputable def tNil : TA := fun _ H Q => Q [] H
noncomputable def dj (ta : TE) (tr : TA) : TA := fun σ H Q => ta σ H fun x H1 => tr σ H1 fun xs H2 => Q (x :: xs) H2
section
variable {X : Cx} {e : Expr} {es : List Expr} {te : TE} {t : TA} {pos : Pos}
theorem m9 : PA X [] tNil := fun _ _ _ _ H Q I h => Calls.spliced_nil ⟨[], H, I, .nil, h⟩
theorem dm (ha : PE X e te) (hr : PA X es t) (hs : starEach (e :: es) X.env = (false, eval e X.env) :: starEach es X.env := by rfl) : PA X (e :: es) (dj te t) := by
  intro pos pins s σ H Q I h
  rw [hs]
  show wpAny _ _ (spliced ((false, eval e X.env) :: backTo pos (starEach es X.env))) _ _ s
  refine Calls.spliced_cons (thn (ha pins s σ H _ I h) fun u s1 zq => ?_)
  obtain ⟨x, H1, I1, r1, q1⟩ := zq
  exact thn (hr pos pins s1 σ H1 _ I1 q1) fun us s2 ⟨xs, H2, I2, r2, q2⟩ => ⟨x :: xs, H2, I2, .cons r1 r2, q2⟩
noncomputable def tTup (t : TA) : TE := fun σ H Q => t σ H fun xs H1 => xs.length ≤ sizeLine ∧ ∀ p, H1 p = none → Q (.ref p) (upd H1 p (.tup xs))
noncomputable def tLst (t : TA) : TE := fun σ H Q => t σ H fun xs H1 => xs.length ≤ sizeLine ∧ ∀ p, H1 p = none → Q (.ref p) (upd H1 p (.lst xs))
theorem a0t {x1} (h : PA X es t) : PE X (.Tuple es x1 pos) (tTup t) := by
  intro pins s σ H Q I hq
  refine wpAny_Tuple_spliced (thn (h pos pins s σ H _ I hq) fun us s1 ⟨xs, H1, I1, r, z, q⟩ => ⟨by rw [← r.length]; exact z, ?_⟩)
  have hf : H1 s1.heap.objs.size = none := I1.hok.fresh (Nat.le_refl _)
  refine ⟨.ref s1.heap.objs.size, upd H1 s1.heap.objs.size (.tup xs), I1.laid (t' := s1.toks) (fun b u e => Heap.get?_push_of_some _ e) (Nat.le_refl _) ?_, rfl, q _ hf⟩
  exact ⟨z, us, r, ⟨_, Heap.get?_push_size _ rfl, rfl, _, rfl⟩⟩
theorem um (h : PA X es t) : PE X (.List es pos) (tLst t) := by
  intro pins s σ H Q I hq
  refine wpAny_List_spliced (thn (h pos pins s σ H _ I hq) fun us s1 ⟨xs, H1, I1, r, z, q⟩ => ⟨by rw [← r.length]; exact z, ?_⟩)
  have hf : H1 s1.heap.objs.size = none := I1.hok.fresh (Nat.le_refl _)
  refine ⟨.ref s1.heap.objs.size, upd H1 s1.heap.objs.size (.lst xs), I1.laid (t' := s1.toks) (fun b u e => Heap.get?_push_of_some _ e) (Nat.le_refl _) ?_, rfl, q _ hf⟩
  exact ⟨z, us, 0, r, Heap.get?_push_size _ rfl⟩
end
abbrev Sp := List V → Hp → VK → XK → Prop
abbrev CXT := List Env → Hp → Shared → XK → Value → Shared → Prop
structure Env0 (P : Program) (w : World) (K : PySem.W.Frag) (mg : Str → Option Value) (base : Heap) (A : Around) (outer : List Env) (s : Shared) (H : Hp) : Prop where
  frames : A.frames = some outer
  mod : Mod K mg base
  bs : ∀ b o, base.get? b = some o → s.heap.get? b = some o ∧ H b = none
  bsz : base.objs.size ≤ s.heap.objs.size
  funs : s.heap.FunFrames base outer
  frf : ∀ b ∈ frs outer, H b = none
  hok : HOk P w H s.heap
  bare : AllBare s.gens
noncomputable def CE (outer : List Env) (P : Program) (w : World) (H : Hp) (s : Shared) (Q : VK) (u : Value) (s' : Shared) : Prop :=
  ∃ v H', s'.os = s.os ∧ AllBare s'.gens ∧ Un (frs outer) [] H H' s.heap s'.heap ∧ HOk P w H' s'.heap ∧ RelV v u ∧ Q v H'
noncomputable def CR (CX : CXT) (outer : List Env) (P : Program) (w : World) (H : Hp) (s : Shared) (Q : VK) (E : XK) (r : Result) (s' : Shared) : Prop :=
  match r with
  | .ok (.ret u) => CE outer P w H s Q u s'
  | .ok _ => False
  | .error e => CX outer H s E e s'
structure FnOk (P : Program) (w : World) (K : PySem.W.Frag) (mg : Str → Option Value) (base : Heap) (CX : CXT) (k : Nat) (f : Addr) (fd : FuncData) (ps : List Str) (sp : Sp) : Prop where
  len : ∀ vs H Q E, sp vs H Q E → vs.length = ps.length
  run : ∀ (A : Around) (outer : List Env) (s : Shared) (H : Hp) (args : Args) (us : List Value) (vs : List V) (Q : VK) (E : XK), Room k A → Env0 P w K mg base A outer s H → BindsTo s fd args (ps.zip us) → Vals vs us → sp vs H Q E →
    codeAny (model P w) A (.call (.ref f) args) (CR CX outer P w H s Q E) s
section
variable {X : Cx} {pins : List (Addr × Obj)} {σ : St} {H : Hp} {s s' : Shared}
theorem Inv.env0 (I : Inv X pins σ H s) : Env0 X.prog X.w X.K X.mg X.base X.A X.stack s H :=
  ⟨I.ok.frames, I.ok.mod, I.bs, Nat.le_trans I.ok.bsz I.sz, I.stack, I.stkFree, I.hok, I.bare⟩
theorem Inv.after {Q : VK} {u : Value} (I : Inv X pins σ H s) (h : CE X.stack X.prog X.w H s Q u s') : EP X pins σ Q u s' := by
  obtain ⟨v, H', os, bare, un, hok, r, q⟩ := h
  obtain ⟨hh, g, d, t, os'⟩ := s'
  obtain rfl : os' = s.os := os
  exact ⟨v, H', I.call (h' := hh) (g' := g) (d' := d) (t' := t) (ch := []) un hok bare (fun b z => absurd z (by simp)), r, q⟩
end
noncomputable def a3d (sp : Sp) (dvs : List V) (E : XK) (t : TA) : TE := fun σ H Q => t σ H fun vs H1 => sp (vs ++ dvs) H1 Q E
noncomputable def Binds (K : PySem.W.Frag) (fd : FuncData) (ps : List Str) (ds : List Value) : Prop :=
  ∀ (s : Shared) (us : List Value), K.In s.heap → (us ++ ds).length = ps.length → BindsTo s fd ⟨us, []⟩ (ps.zip (us ++ ds))
theorem Binds.all {K : PySem.W.Frag} {fd : FuncData} {ps : List Str} (h : ∀ us : List Value, us.length = ps.length → bindArgs fd ⟨us, []⟩ = pure (ps.zip us)) : Binds K fd ps [] := fun s us _ hl => by
  rw [List.append_nil] at hl ⊢
  exact .of_eq (h us hl)
noncomputable def jr (CX : CXT) (X : Cx) (E : XK) : Prop := ∀ (pins : List (Addr × Obj)) (σ : St) (H : Hp) (s : Shared) (e : Value) (s' : Shared), Inv X pins σ H s → CX X.stack H s E e s' → X.xe e s'
section
variable {X : Cx} {CX : CXT} {k : Nat} {f C : Addr} {fd : FuncData} {ps : List Str} {sp : Sp} {dvs : List V} {ds : List Value} {E : XK} {x m : Str} {p pos apos : Pos} {e o : Expr} {es : List Expr} {ta : TE} {t : TA}
theorem a60 {pins : List (Addr × Obj)} {σ : St} {H : Hp} {s : Shared} {Q : VK} {us : List Value} {vs : List V} (F : FnOk X.prog X.w X.K X.mg X.base CX k f fd ps sp) (hr : Room k X.A) (hb : Binds X.K fd ps ds) (hd : Vals dvs ds) (hx : jr CX X E)
    (I : Inv X pins σ H s) (r : Vals vs us) (h : sp (vs ++ dvs) H Q E) : wpAny (model X.prog X.w) X.A (call (.ref f) us) (EP X pins σ Q) X.xe s := by
  have r2 : Vals (vs ++ dvs) (us ++ ds) := r.append hd
  have hl : (us ++ ds).length = ps.length := by rw [← r2.length]; exact F.len _ _ _ _ h
  refine wpAny_call (codeAny_mono (F.run X.A X.stack s H ⟨us, []⟩ (us ++ ds) (vs ++ dvs) Q E hr I.env0 (hb s us I.kIn hl) r2 h) fun r s' hq => ?_)
  cases r with
  | error e => exact hx pins σ H s e s' I hq
  | ok fl =>
    cases fl with
    | ret u => exact I.after hq
    | next => exact False.elim hq
    | brk => exact False.elim hq
    | cont => exact False.elim hq
theorem a4n (F : FnOk X.prog X.w X.K X.mg X.base CX k f fd ps sp) (hr : Room k X.A) (hg : Gl X x) (hm : X.mg x = some (.ref f)) (hk : PySem.W.keepIn X.K (.ref f) = true) (hb : Binds X.K fd ps ds) (hd : Vals dvs ds) (hx : jr CX X E)
    (ha : PA X (e :: es) t) (hdb : (x == ("__debug__" : Str)) = false := by decide) (he : starEach (e :: es) X.env = (false, eval e X.env) :: starEach es X.env := by rfl) (hpl : (backTo pos (starEach es X.env)).any (·.1) = false := by rfl) :
    PE X (.Call (.Name x p) (e :: es) [] pos) (a3d sp dvs E t) := by
  intro pins s σ H Q I h
  refine wpAny_Call_Name_kw (qb I hg hm ?_ hdb)
  refine PySem.W.callWith_K (h₀ := X.base) I.ok.mod.kin hk (thn (ha pos pins s σ H _ I h) fun us s1 ⟨vs, H1, I1, r, q⟩ => ⟨I1.kIn, ?_⟩) he hpl
  exact a60 F hr hb hd hx I1 r q
end
section
variable {X : Cx} {CX : CXT} {k : Nat} {f C : Addr} {fd : FuncData} {ps ks : List Str} {sp : Sp} {E : XK} {x m : Str} {p pos apos kpos : Pos} {e o : Expr} {es : List Expr} {kws : List Keyword} {te ta : TE} {t tk : TA} {nm : Option Str}
variable {g : List Value → List Value → List Value} {gV : List V → List V → List V}
end
structure FnScope (N P : List Str) (sc : Scope) : Prop where
  kind : sc.kind = .function
  co : sc.isCoroutine = false
  gen : sc.isGenerator = false
  nd : N.Nodup
  pre : N.take P.length = P
  par : ∀ x ∈ P, sc.names.lookup x = some .local ∨ sc.names.lookup x = some .cell
  nofree : ∀ y ∈ sc.names, y.2 ≠ .free
theorem qy {kindOf : Str → Option NameKind} {x : Str} : ∀ {binds : List (Str × Value)} {m : Str → Option Value}, (∀ v, (x, v) ∉ binds) → bindL kindOf binds m x = m x
  | [], _, _ => rfl
  | (n, v) :: r, m, h => by
    unfold bindL
    rw [qy fun w hw => h w (List.mem_cons_of_mem _ hw)]
    split
    · have : x ≠ n := by rintro rfl; exact h v List.mem_cons_self
      simp [this]
    · rfl
theorem rd {kindOf : Str → Option NameKind} {x : Str} : ∀ {binds : List (Str × Value)} {m : Str → Option Value}, (∀ v, (x, v) ∉ binds) → bindC kindOf binds m x = m x
  | [], _, _ => rfl
  | (n, v) :: r, m, h => by
    unfold bindC
    rw [rd fun w hw => h w (List.mem_cons_of_mem _ hw)]
    split
    · rfl
    · have : x ≠ n := by rintro rfl; exact h v List.mem_cons_self
      simp [this]
theorem r6 {kindOf : Str → Option NameKind} {x : Str} {v : Value} : ∀ {P : List Str} {vs : List Value} {i : Nat} {m : Str → Option Value}, P.Nodup → P[i]? = some x → vs[i]? = some v → kindOf x = some .local →
    bindL kindOf (P.zip vs) m x = some v
  | [], _, _, _, _, h, _, _ => by simp at h
  | _ :: _, [], _, _, _, _, h, _ => by simp at h
  | p :: P, w :: vs, 0, m, nd, h1, h2, hk => by
    simp at h1 h2; subst h1; subst h2
    show bindL kindOf ((p, w) :: P.zip vs) m p = _
    unfold bindL
    rw [qy fun v hv => (List.nodup_cons.mp nd).1 (List.of_mem_zip hv).1, if_pos hk]
    simp
  | p :: P, w :: vs, i + 1, m, nd, h1, h2, hk => by
    show bindL kindOf ((p, w) :: P.zip vs) m x = _
    unfold bindL
    exact r6 (i := i) (List.nodup_cons.mp nd).2 (by simpa using h1) (by simpa using h2) hk
theorem rm {kindOf : Str → Option NameKind} {x : Str} {v : Value} : ∀ {P : List Str} {vs : List Value} {i : Nat} {m : Str → Option Value}, P.Nodup → P[i]? = some x → vs[i]? = some v → kindOf x ≠ some .local →
    bindC kindOf (P.zip vs) m x = some v
  | [], _, _, _, _, h, _, _ => by simp at h
  | _ :: _, [], _, _, _, _, h, _ => by simp at h
  | p :: P, w :: vs, 0, m, nd, h1, h2, hk => by
    simp at h1 h2; subst h1; subst h2
    show bindC kindOf ((p, w) :: P.zip vs) m p = _
    unfold bindC
    rw [rd fun v hv => (List.nodup_cons.mp nd).1 (List.of_mem_zip hv).1, if_neg hk]
    simp
  | p :: P, w :: vs, i + 1, m, nd, h1, h2, hk => by
    show bindC kindOf ((p, w) :: P.zip vs) m x = _
    unfold bindC
    exact rm (i := i) (List.nodup_cons.mp nd).2 (by simpa using h1) (by simpa using h2) hk
noncomputable def start (N : List Str) (vs : List V) : St := vs.map some ++ List.replicate (N.length - vs.length) none
noncomputable def cxOf (CX : CXT) (P : Program) (w : World) (K : PySem.W.Frag) (mg : Str → Option Value) (base : Heap) (N : List Str) (qual : Str) (scope : Scope) (f : Addr) (cd : Value) (A : Around) (outer : List Env) (s : Shared) (H : Hp) (E : XK) : Cx where
  prog := P
  w := w
  K := K
  mg := mg
  base := base
  A := A.deeper (envOfC qual scope s.heap.objs.size f cd)
  N := N
  s₀ := s
  H₀ := H
  env := envOfC qual scope s.heap.objs.size f cd
  outer := outer
  stack := envOfC qual scope s.heap.objs.size f cd :: outer
  ex := []
  calm := true
  fn := fun _ => true
  pn := []
  xe := fun e s' => wpAny (model P w) (A.deeper (envOfC qual scope s.heap.objs.size f cd)) (leaving (envOfC qual scope s.heap.objs.size f cd) e) (fun _ s'' => CX outer H s E e s'') (fun e' s'' => CX outer H s E e' s'') s'
theorem ud {sc : Scope} {n : Nat} {x : Str} (h : sc.names.lookup x = some .cell) : ∃ c, (cellsFrom n sc.names []).lookup x = some c := by
  have q := PySem.W.cellsFrom_some sc.names n [] (.inl h)
  exact Option.isSome_iff_exists.mp q
theorem a1h {CX : CXT} {P : Program} {w : World} {K : PySem.W.Frag} {mg : Str → Option Value} {base : Heap} {N ps : List Str} {qual : Str} {scope : Scope} {f : Addr} {cd : Value} {A : Around} {outer : List Env} {s s1 : Shared} {H : Hp} {E : XK} {us : List Value} {vs : List V}
    (S : FnScope N ps scope) (hd : A.handled = none) (e0 : Env0 P w K mg base A outer s H) (hl : vs.length = ps.length) (r : Vals vs us)
    (x : InCallC s s.heap.objs.size (bindL (envOfC qual scope s.heap.objs.size f cd).kindOf (ps.zip us) fun _ => none) (cellsFrom (s.heap.objs.size + 1) scope.names []) (bindC (envOfC qual scope s.heap.objs.size f cd).kindOf (ps.zip us) fun _ => none) s1) :
    Inv (cxOf CX P w K mg base N qual scope f cd A outer s H E) [] (start N vs) H s1 := by
  have hpl : ps.length ≤ N.length := by have := congrArg List.length S.pre; rw [List.length_take] at this; lia
  obtain ⟨h1, tk, rfl, hk⟩ := x.done
  have noA : ∀ b : Addr, b ∉ (cxOf CX P w K mg base N qual scope f cd A outer s H E).ex := fun b z => absurd (show b ∈ ([] : List Addr) from z) (by simp)
  refine ⟨⟨e0.mod, S.kind, rfl, rfl, Nat.le_refl _, fun y z c h1 h2 => ?_, fun y hy => ?_, fun y c _ h => ?_, fun _ => hd, Around.frames_deeper e0.frames, .inr ⟨rfl, rfl⟩, fun b z => absurd z (noA b), e0.bs, e0.bsz, fun b _ _ => noA b, fun b z => absurd z (noA b), e0.funs, e0.frf⟩,
    rfl, e0.bare, Un.kept hk, ⟨_, x.toInCall.ns, fun i y v h1 h2 h3 => ?_⟩, fun y c h => ⟨_, x.cell y c h⟩, e0.hok.fresh (Nat.le_refl _), fun y c h => ?_, fun p hp => absurd (show p ∈ ([] : List (Addr × Obj)) from hp) (by simp), e0.hok.kept hk, ?_⟩
  · exact name_of_addr x.apart (PySem.mem_of_lookup h1) (PySem.mem_of_lookup h2)
  · have hy : scope.names.lookup y = some .cell ∨ scope.names.lookup y = some .free := hy
    rcases hy with hy | hy
    · exact ud hy
    · exact absurd rfl (S.nofree _ (PySem.mem_of_lookup hy))
  · exact Nat.le_of_lt (x.above y c (PySem.mem_of_lookup h))
  · have hi : i < vs.length := by
      unfold start at h2
      by_cases hi : i < vs.length
      · exact hi
      · rw [List.getElem?_append_right (by simpa using hi)] at h2
        rw [List.getElem?_replicate] at h2
        split at h2 <;> cases h2
    have ha : vs[i]? = some v := by
      unfold start at h2
      rw [List.getElem?_append_left (by simpa using hi), List.getElem?_map] at h2
      cases e : vs[i]? with
      | none => rw [e] at h2; cases h2
      | some a => rw [e] at h2; cases h2; rfl
    obtain ⟨u, hu, rv⟩ := r.get ha
    have hp : ps[i]? = some y := by
      rw [← S.pre, List.getElem?_take_of_lt (by lia)]; exact h1
    have ndP : ps.Nodup := by rw [← S.pre]; exact S.nd.sublist (List.take_sublist _ _)
    refine ⟨u, rv, ?_⟩
    rcases S.par y (List.mem_of_getElem? hp) with k | k
    · exact .inl ⟨k, r6 ndP hp hu k⟩
    · obtain ⟨c, e⟩ := ud (n := s.heap.objs.size + 1) k
      refine .inr ⟨.inl k, c, e, ?_⟩
      have q := x.cell y c e
      rw [rm ndP hp hu (by show scope.names.lookup y ≠ _; rw [k]; decide)] at q
      exact q
  · exact e0.hok.fresh (Nat.le_of_lt (x.above y c (PySem.mem_of_lookup h)))
  · unfold start
    show _ = N.length
    rw [List.length_append, List.length_map, List.length_replicate]
    lia
theorem a3u {CX : CXT} {P : Program} {w : World} {K : PySem.W.Frag} {mg : Str → Option Value} {base : Heap} {k : Nat} {f : Addr} {name qual : Str} {params : Arguments} {body : List Stmt} {scope : Scope} {dV kV doc pm cdv ct oc : Value} {an od : Option Addr}
    {osl : Array (Option Value)} {N ps : List Str} {sp : Sp} (lk : K.lookup f = some ⟨oc, od, .func (PySem.W.fnOf name qual params body scope dV kV doc pm an cdv ct), osl⟩) (hcd : PySem.W.codeIn K cdv qual = true) (S : FnScope N ps scope)
    (len : ∀ vs H Q E, sp vs H Q E → vs.length = ps.length)
    (hbody : ∀ (A : Around) (outer : List Env) (s : Shared) (H : Hp) (vs : List V) (Q : VK) (E : XK), Room k (A.deeper (envOfC qual scope s.heap.objs.size f cdv)) → sp vs H Q E →
      ∃ t, PSs (cxOf CX P w K mg base N qual scope f cdv A outer s H E) body t ∧ t { nx := fun _ H' => Q .non H', rt := Q } (start N vs) H) :
    FnOk P w K mg base CX (k + 1) f (PySem.W.fnOf name qual params body scope dV kV doc pm an cdv ct) ps sp := by
  refine ⟨len, fun A outer s H args us vs Q E hr e0 hb r hsp => ?_⟩
  have hl := len _ _ _ _ hsp
  have KX : K.In s.heap := e0.mod.kin.keeps fun b o e => (e0.bs b o e).1
  have lim : s.heap.NoLimit := e0.mod.nolimit.keeps fun b o e => (e0.bs b o e).1
  have hkind : ∀ y ∈ ps.zip us, scope.names.lookup y.1 = some .local ∨ (scope.names.lookup y.1 = some .cell ∧ ((cellsFrom (s.heap.objs.size + 1) scope.names []).lookup y.1).isSome = true) := fun ⟨n, v⟩ hy => by
    rcases S.par n (List.of_mem_zip hy).1 with q | q
    · exact .inl q
    · exact .inr ⟨q, PySem.W.cellsFrom_some _ _ _ (.inl q)⟩
  refine codeAny_call_function hr.depth (KX _ _ lk) rfl S.co S.gen rfl (PySem.W.codeRec_of KX hcd) (hb _ _ _ _ ?_)
  refine wpAny_newFunctionEnv_cells S.kind hkind fun env he s1 x => ?_
  subst he
  refine ⟨lim.keeps x.toInCall.keep, codeAny_func ?_⟩
  obtain ⟨t, ht, hq⟩ := hbody A outer s H vs Q E (hr.deeper _) hsp
  have I : Inv (cxOf CX P w K mg base N qual scope f cdv A outer s H E) [] (start N vs) H s1 := a1h S hr.hd e0 hl r x
  refine wpAny_mono (ht [] s1 (start N vs) H _ I hq) (fun fl s' hs => ?_) fun e s' hs => hs
  have fin : ∀ {σ' : St} {H' : Hp} {v : V} {u : Value}, Inv (cxOf CX P w K mg base N qual scope f cdv A outer s H E) [] σ' H' s' → RelV v u → Q v H' → CE outer P w H s Q u s' :=
    fun {σ' H' v u} J rv q => ⟨v, H', J.os, J.bare, J.base, J.hok, rv, q⟩
  cases fl with
  | ret u =>
    obtain ⟨v, σ', H', J, rv, q⟩ := hs
    exact fin J rv q
  | next =>
    obtain ⟨σ', H', J, q⟩ := hs
    exact fin (v := V.non) (u := Value.none) J rfl q
  | brk =>
    obtain ⟨_, _, _, q⟩ := hs
    exact False.elim q
  | cont =>
    obtain ⟨_, _, _, q⟩ := hs
    exact False.elim q
end L2
namespace L2
open PySem PySem.Spec PyProof.Rows
section
variable {X : Cx} {x : Str} {p pos : Pos} {e : Expr} {es : List Expr} {t : TA} {id T : String} {r : List V → Hp → VK → Prop}
noncomputable def tCB (r : List V → Hp → VK → Prop) (t : TA) : TE := fun σ H Q => t σ H fun vs H1 => r vs H1 Q
theorem ux (hc : cw X (.builtin id) r) (hg : Gl X x) (hm : X.mg x = none) (hv : bootBuiltins x = some (.builtin id)) (ha : PA X (e :: es) t) (hn : x ≠ "__name__" := by decide) (hdb : (x == ("__debug__" : Str)) = false := by decide)
    (he : starEach (e :: es) X.env = (false, eval e X.env) :: starEach es X.env := by rfl) (hpl : (backTo pos (starEach es X.env)).any (·.1) = false := by rfl) : PE X (.Call (.Name x p) (e :: es) [] pos) (tCB r t) := by
  intro pins s σ H Q I h
  refine wpAny_Call_Name_kw (mq I hg hm hv ?_ hn hdb)
  exact PyProof.Rows.callWith_builtin1 (thn (ha pos pins s σ H _ I h) fun us s1 ⟨vs, H1, I1, r1, q1⟩ => hc pins s1 σ H1 vs us Q I1 r1 q1) he hpl
theorem rf (hc : cw X (.type T) r) (hg : Gl X x) (hm : X.mg x = none) (hv : bootBuiltins x = some (.type T)) (ha : PA X (e :: es) t) (hn : x ≠ "__name__" := by decide) (hdb : (x == ("__debug__" : Str)) = false := by decide)
    (he : starEach (e :: es) X.env = (false, eval e X.env) :: starEach es X.env := by rfl) (hpl : (backTo pos (starEach es X.env)).any (·.1) = false := by rfl) : PE X (.Call (.Name x p) (e :: es) [] pos) (tCB r t) := by
  intro pins s σ H Q I h
  refine wpAny_Call_Name_kw (mq I hg hm hv ?_ hn hdb)
  exact PyProof.Rows.callWith_type1 (thn (ha pos pins s σ H _ I h) fun us s1 ⟨vs, H1, I1, r1, q1⟩ => hc pins s1 σ H1 vs us Q I1 r1 q1) he hpl
end
end L2
namespace HT
open PySem PyProof.Rows
section
open PySem.SeqAt
open PySem.AutoSeq1 (wpAny_loadPart')
open PySem.MeetsSeq PySem.MeetsSeq2 PySem.MeetsSeq3
end
section
variable {prog : Program} {w : World} {A : Around} {E : Value → Shared → Prop} {s : Shared}
theorem cat_tup {t b : Addr} {vs ws : List Value} {Q : Value → Shared → Prop} (ht : IsTup s.heap t vs.toArray) (hb : IsTup s.heap b ws.toArray) (hv : vs ≠ [])
    (h1 : ws = [] → Q (.ref t) s) (h2 : ws ≠ [] → Q (.ref s.heap.objs.size) { s with heap := s.heap.push { cls := .type "tuple", data := .seq (vs ++ ws).toArray } })
    (hsz : vs.length + ws.length ≤ sizeLine) : wpAny (model prog w) A (binaryOp .Add (.ref t) (.ref b)) Q E s := by
  obtain ⟨⟨cls, dd, data, sl⟩, ho, hc, n, hd⟩ := id ht
  obtain ⟨⟨cls2, dd2, data2, sl2⟩, ho2, hc2, n2, hd2⟩ := id hb
  simp only at hc hd hc2 hd2
  subst hc hd hc2 hd2
  have e : vs.toArray ++ ws.toArray = (vs ++ ws).toArray := by simp
  by_cases hw : ws = []
  · exact concat_meets ⟨_, ho, rfl⟩ ⟨_, ho2, rfl⟩ noFill_tuple_add seq_tuple_add PySem.F.slot_tuple_add PySem.F.entry_tuple_add (PySem.F.args_tuple_add_2 _ _)
      (tuple_addW1 t b vs.toArray ws.toArray n n2 dd dd2 sl sl2 (by simpa using hv) (by simp [hw])) ⟨ho, ho2, h1 hw⟩
  · refine concat_meets ⟨_, ho, rfl⟩ ⟨_, ho2, rfl⟩ noFill_tuple_add seq_tuple_add PySem.F.slot_tuple_add PySem.F.entry_tuple_add (PySem.F.args_tuple_add_2 _ _)
      (tuple_addW2 t b vs.toArray ws.toArray n n2 dd dd2 sl sl2 (by simpa using hv) (by simpa using hw) (by rw [List.size_toArray, List.size_toArray]; exact hsz)) ⟨ho, ho2, ?_⟩
    rw [e]
    exact h2 hw
noncomputable def sIx (n d : Nat) : Option Int → Nat
  | none => d
  | some v => if v < 0 then (v + (n : Int)).toNat else min v.toNat n
theorem sIx_none (n d : Nat) : sIx n d none = d := rfl
theorem sIx_nat (n d k : Nat) : sIx n d (some (k : Int)) = min k n := by
  show (if (k : Int) < 0 then ((k : Int) + (n : Int)).toNat else min (k : Int).toNat n) = min k n
  rw [if_neg (by lia), Int.toNat_natCast]
theorem a64 (n d : Nat) (hd : d ≤ n) (o : Option Int) : sIx n d o ≤ n := by
  cases o with
  | none => exact hd
  | some v =>
    show (if v < 0 then (v + (n : Int)).toNat else min v.toNat n) ≤ n
    by_cases hv : v < 0
    · rw [if_pos hv]; lia
    · rw [if_neg hv]; exact Nat.min_le_right _ _
theorem xm (v : Int) (n d : Nat) : (if v < 0 then max (v + (n : Int)) 0 else min v (n : Int)) = ((sIx n d (some v) : Nat) : Int) := by
  show (if v < 0 then max (v + (n : Int)) 0 else min v (n : Int)) = (((if v < 0 then (v + (n : Int)).toNat else min v.toNat n) : Nat) : Int)
  by_cases hv : v < 0
  · simp only [if_pos hv]; lia
  · simp only [if_neg hv]; lia
theorem yg (lo hi : Option Int) (n : Nat) : Builtin.Slice.sliceAdjust lo hi 1 (n : Int) = (((sIx n 0 lo : Nat) : Int), ((sIx n n hi : Nat) : Int)) := by
  have h1 : ¬ ((1 : Int) < 0) := by lia
  unfold Builtin.Slice.sliceAdjust
  simp only [h1, if_false]
  refine Prod.ext ?_ ?_
  · cases lo with
    | none => rfl
    | some v => exact xm v n 0
  · cases hi with
    | none => rfl
    | some v => exact xm v n n
theorem yj (i j : Nat) : Builtin.Slice.slicePlaces (i : Int) (j : Int) 1 = j - i := by
  unfold Builtin.Slice.slicePlaces
  have h1 : (1 : Int) > 0 := by lia
  simp only [h1, if_true, Int.ediv_one]
  split <;> lia
theorem po {v : Value} {o : Option Int} {Q : Option Int → Shared → Prop} (p : IsPart v o) (h : Q o s) : wpAny (model prog w) A (Builtin.Slice.slicePartIndex v) Q E s := by
  cases p with
  | none => exact slicePart_none h
  | int i t => exact slicePart_int h
theorem oi {sl : Addr} {vl vu : Value} {lo hi : Option Int} {n : Nat} {Q : Int × Int × Nat → Shared → Prop} (hs : s.heap.IsSliceOf sl vl vu .none) (pl : IsPart vl lo) (pu : IsPart vu hi)
    (h : Q (((sIx n 0 lo : Nat) : Int), 1, sIx n n hi - sIx n 0 lo) s) : wpAny (model prog w) A (Builtin.Slice.sliceApplied (.ref sl) (pure (n : Int))) Q E s := by
  obtain ⟨os, hos, hcs, hds⟩ := id hs
  unfold Builtin.Slice.sliceApplied Builtin.Slice.sliceFields
  refine wpAny_bind (wpAny_bind (wpAny_field hos hds (x := vl) rfl (wpAny_bind (wpAny_field hos hds (x := vu) rfl (wpAny_bind (wpAny_field hos hds (x := .none) rfl (wpAny_pure ?_)))))))
  refine wpAny_bind (slicePart_none ?_)
  show wpAny _ _ (if ((1 : Int) == 0) = true then _ else _) _ _ s
  rw [if_neg (by decide)]
  refine wpAny_bind (po pl (wpAny_bind (po pu (wpAny_bind (wpAny_pure ?_)))))
  show wpAny _ _ (match Builtin.Slice.sliceAdjust lo hi 1 (n : Int) with | (lo, hi) => pure (lo, (1 : Int), Builtin.Slice.slicePlaces lo hi 1)) _ _ s
  rw [yg lo hi n]
  show wpAny _ _ (pure (((sIx n 0 lo : Nat) : Int), (1 : Int), Builtin.Slice.slicePlaces ((sIx n 0 lo : Nat) : Int) ((sIx n n hi : Nat) : Int) 1)) _ _ s
  rw [yj]
  exact wpAny_pure h
theorem a1z (xs : Array Value) (i k : Nat) : ((List.range k).filterMap fun (m : Nat) => xs[((i : Int) + (m : Int) * 1).toNat]?).toArray = ((xs.toList.drop i).take k).toArray := by
  have e : (fun (m : Nat) => xs[((i : Int) + (m : Int) * 1).toNat]?) = fun m => xs[i + m]? := by
    funext m
    have : ((i : Int) + (m : Int) * 1).toNat = i + m := by lia
    rw [this]
  rw [e]
  have := pick_run xs i k
  rw [List.filterMap_map] at this
  have e2 : ((fun x => xs[x]?) ∘ fun x => i + x) = fun m => xs[i + m]? := rfl
  rw [e2] at this
  rw [this]
theorem getItem_tuple_cut {t sl : Addr} {items : Array Value} {vl vu : Value} {lo hi : Option Int} {Q : Value → Shared → Prop} (ht : IsTup s.heap t items) (hs : s.heap.IsSliceOf sl vl vu .none) (pl : IsPart vl lo) (pu : IsPart vu hi)
    (hw : ¬ (sIx items.size 0 lo = 0 ∧ sIx items.size items.size hi = items.size))
    (h : Q (.ref s.heap.objs.size) { s with heap := s.heap.push { cls := .type "tuple", data := .seq ((items.toList.drop (sIx items.size 0 lo)).take (sIx items.size items.size hi - sIx items.size 0 lo)).toArray } })
    (hsz : items.size ≤ sizeLine) : wpAny (model prog w) A (getItem (.ref t) (.ref sl)) Q E s := by
  have htake : sizeOk (.seq ((items.toList.drop (sIx items.size 0 lo)).take (sIx items.size items.size hi - sIx items.size 0 lo)).toArray) := by
    show ((items.toList.drop (sIx items.size 0 lo)).take (sIx items.size items.size hi - sIx items.size 0 lo)).toArray.size ≤ sizeLine
    rw [List.size_toArray, List.length_take, List.length_drop, Array.length_toList]
    lia
  have hj : sIx items.size items.size hi ≤ items.size := a64 _ _ (Nat.le_refl _) hi
  obtain ⟨os, hos, hcs, hds⟩ := id hs
  have hTs : s.TypeIs (.ref sl) "slice" := ⟨os, hos, hcs⟩
  unfold getItem
  try with_reducible refine wpAny_holding ?_
  first | refine wpAny_bind (wpAny_pure ?_) | skip
  refine wpAny_bind (wpAny_sequenceKey ht.typeIs (by decide) ?_)
  refine wpAny_bind (wpAny_callSpecial?_slot (name := Str.ofString "__getitem__") ht.typeIs PyProof.Rows.slot_tuple_getitem
    (wpAny_call_entry PyProof.Rows.slot_tuple_getitem ht.typeIs entry_tuple_getitem ?_ (args_tuple_getitem _ _)))
  show wpAny _ _ (Builtin.Tuple.tupleItemsOf (.ref t) >>= _) _ _ s
  refine wpAny_bind (tupleItemsOf_ ht ?_)
  refine wpAny_bind (wpAny_typeOf hTs ?_)
  rw [if_pos (by decide)]
  refine wpAny_bind (oi hs pl pu ?_)
  have hno : ¬ ((((sIx items.size 0 lo : Nat) : Int) == 0 && (1 : Int) == 1 && (sIx items.size items.size hi - sIx items.size 0 lo) == items.size) = true) := by
    intro q
    rw [Bool.and_eq_true, Bool.and_eq_true] at q
    have q1 : ((sIx items.size 0 lo : Nat) : Int) = 0 := eq_of_beq q.1.1
    have q2 : sIx items.size items.size hi - sIx items.size 0 lo = items.size := eq_of_beq q.2
    exact hw ⟨by lia, by lia⟩
  show wpAny _ _ (if (((sIx items.size 0 lo : Nat) : Int) == 0 && (1 : Int) == 1 && (sIx items.size items.size hi - sIx items.size 0 lo) == items.size) = true then _ else _) _ _ s
  rw [if_neg hno, a1z]
  first
    | exact wpAny_bind (m := Builtin.Tuple.tupleExact _) (wpAny_newObj_type (wpAny_pure ⟨_, rfl, wpAny_pure h⟩) htake)
    | exact wpAny_bind (m := Builtin.Tuple.tupleExact _) (wpAny_newObj_type (wpAny_bind (wpAny_pure (wpAny_pure ⟨_, rfl, wpAny_pure h⟩))) htake)
    | exact wpAny_bind (wpAny_bind (m := Builtin.Tuple.tupleExact _) (wpAny_newObj_type (wpAny_pure (wpAny_pure ⟨_, rfl, wpAny_pure h⟩)) htake))
    | exact wpAny_bind (wpAny_bind (m := Builtin.Tuple.tupleExact _) (wpAny_newObj_type (wpAny_pure ⟨_, rfl, wpAny_pure h⟩) htake))
end
end HT
namespace L2
open PySem PySem.Spec PyProof.Rows
abbrev TO := St → Hp → (Option Int → Hp → Prop) → Prop
noncomputable def PO (X : Cx) (e : Option Expr) (t : TO) : Prop :=
  ∀ (pins : List (Addr × Obj)) (s : Shared) (σ : St) (H : Hp) (Q : Option Int → Hp → Prop), Inv X pins σ H s → t σ H Q →
    wpAny (model X.prog X.w) X.A (evalPart e X.env) (fun u s' => ∃ o H', Inv X pins σ H' s' ∧ IsPart u o ∧ Q o H') X.xe s
noncomputable def xp : TO := fun _ H Q => Q none H
inductive tPartS (x : V) (H1 : Hp) (Q : Option Int → Hp → Prop) : Prop
  | mk (i : Int) (h0 : x = .int i) (h1 : Q (some i) H1) : tPartS x H1 Q
noncomputable def a3t (t : TE) : TO := fun σ H Q => t σ H fun x H1 => tPartS x H1 Q
theorem ko {ns : List Int} : ∀ {us : List Value}, Vals (ns.map V.int) us → IntsAre us ns := by
  induction ns with
  | nil => intro us r; rw [List.map_nil] at r; cases r; exact .nil
  | cons n ns ih =>
    intro us r
    rw [List.map_cons] at r
    cases r with
    | cons r1 r2 =>
      obtain ⟨t, e⟩ := r1
      subst e
      exact .cons n t (ih r2)
section
variable {X : Cx} {e : Expr} {te : TE} {lo hi : Option Expr} {tl th : TO} {pos p2 : Pos}
theorem xr : PO X none xp := by
  intro pins s σ H Q I h
  rw [evalPart_none]
  exact wpAny_pure ⟨none, H, I, .none, h⟩
theorem xj (h : PE X e te) : PO X (some e) (a3t te) := by
  intro pins s σ H Q I hw
  rw [evalPart_some]
  refine thn (h pins s σ H _ I hw) fun u s1 zq => ?_
  obtain ⟨x, H1, I1, r1, q1⟩ := zq
  obtain ⟨i, rfl, q⟩ := q1
  obtain ⟨t, rfl⟩ := r1
  exact ⟨some i, H1, I1, .int i t, q⟩
noncomputable def SlR (X : Cx) (r : V → Option Int → Option Int → Hp → VK → Prop) : Prop :=
  ∀ (pins : List (Addr × Obj)) (s : Shared) (σ : St) (H : Hp) (x : V) (v vl vu : Value) (lo hi : Option Int) (sl : Addr) (Q : VK), Inv X pins σ H s → RelV x v → s.heap.IsSliceOf sl vl vu .none → IsPart vl lo → IsPart vu hi → r x lo hi H Q →
    ∃ T id, typeLookup (.type T) "__getitem__" = pure (some (.builtin id)) ∧ s.TypeIs v T ∧ wpAny (model X.prog X.w) X.A (getItem v (.ref sl)) (EP X pins σ Q) X.xe s
noncomputable def tSl (r : V → Option Int → Option Int → Hp → VK → Prop) (te : TE) (tl th : TO) : TE := fun σ H Q => te σ H fun x H1 => tl σ H1 fun l H2 => th σ H2 fun u H3 => r x l u H3 Q
theorem t8 {r : V → Option Int → Option Int → Hp → VK → Prop} (hr : SlR X r) (he : PE X e te) (hl : PO X lo tl) (hu : PO X hi th) : PE X (.Subscript e (.Slice lo hi none p2) pos) (tSl r te tl th) := by
  intro pins s σ H Q I h
  refine Subscript_ (thn (he pins s σ H _ I h) fun v s1 zq => ?_)
  obtain ⟨x, H1, I1, r1, q1⟩ := zq
  refine wpAny_Slice (thn (hl pins s1 σ H1 _ I1 q1) fun vl s2 ⟨l, H2, I2, pl, q2⟩ => thn (hu pins s2 σ H2 _ I2 q2) fun vu s3 zq => ?_)
  obtain ⟨u, H3, I3, pu, q3⟩ := zq
  rw [evalPart_none]
  refine wpAny_pure ?_
  have I4 : Inv X pins σ H3 { s3 with heap := s3.heap.push { cls := .type "slice", data := .fields #[vl, vu, .none] } } := I3.kept (t' := s3.toks) fun b ob q => Heap.get?_push_of_some _ q
  obtain ⟨T, id, hT, ht, hg⟩ := hr pins { s3 with heap := s3.heap.push { cls := .type "slice", data := .fields #[vl, vu, .none] } } σ H3 x v vl vu l u s3.heap.objs.size Q I4 r1 (Heap.IsSliceOf.new ..) pl pu q3
  show wpAny (model X.prog X.w) X.A (subscriptTail e (.Slice lo hi none p2) v (.ref s3.heap.objs.size)) (EP X pins σ Q) X.xe { s3 with heap := s3.heap.push { cls := .type "slice", data := .fields #[vl, vu, .none] } }
  exact tail_any (ops := [.ref s3.heap.objs.size, v]) ht hT hg (by with_unfolding_all rfl)
noncomputable def cutV (xs : List V) (lo hi : Option Int) : List V := (xs.drop (HT.sIx xs.length 0 lo)).take (HT.sIx xs.length xs.length hi - HT.sIx xs.length 0 lo)
theorem o9 (xs : List V) (lo hi : Option Int) : (cutV xs lo hi).length ≤ xs.length := by
  unfold cutV
  rw [List.length_take, List.length_drop]
  lia
inductive rSlTS (K : PySem.W.Frag) (x : V) (lo hi : Option Int) (H : Hp) (Q : VK) : Prop
  | mk (a : Addr) (xs : List V) (h0 : x = .ref a) (h1 : SqT K H a xs) (h2 : ¬ (HT.sIx xs.length 0 lo = 0 ∧ HT.sIx xs.length xs.length hi = xs.length)) (h3 : ∀ p, H p = none → Q (.ref p) (upd H p (.tup (cutV xs lo hi)))) : rSlTS K x lo hi H Q
noncomputable def rSlT (K : PySem.W.Frag) : V → Option Int → Option Int → Hp → VK → Prop := fun x lo hi H Q => rSlTS K x lo hi H Q
theorem a0r : SlR X (rSlT X.K) := by
  intro pins s σ H x v vl vu lo hi sl Q I rx hs pl pu h
  obtain ⟨a, xs, rfl, hx, hw, q⟩ := h
  cases rx
  obtain ⟨its, r, ht, hz⟩ := I.tuple hx
  have hlen : its.toArray.size = xs.length := by rw [List.size_toArray]; exact r.length.symm
  refine ⟨"tuple", _, PyProof.Rows.slot_tuple_getitem.lookup, ht.typeIs, ?_⟩
  refine HT.getItem_tuple_cut ht hs pl pu (by rw [hlen]; exact hw) ?_ (by rw [hlen]; exact hz)
  rw [hlen]
  refine ⟨.ref s.heap.objs.size, _, I.laid (t' := s.toks) (o := .tup (cutV xs lo hi)) (fun b ob q => Heap.get?_push_of_some _ q) (Nat.le_refl _) ?_, rfl, q _ (I.hok.fresh (Nat.le_refl _))⟩
  exact ⟨Nat.le_trans (o9 xs lo hi) hz, _, (r.drop (HT.sIx xs.length 0 lo)).take (HT.sIx xs.length xs.length hi - HT.sIx xs.length 0 lo), IsTup.new _ _⟩
inductive rCatTS (K : PySem.W.Frag) (x y : V) (H : Hp) (Q : VK) : Prop
  | mk (a b : Addr) (xs ys : List V) (h0 : x = .ref a) (h1 : y = .ref b) (h2 : SqT K H a xs) (h3 : SqT K H b ys) (h4 : xs ≠ []) (h5 : xs.length + ys.length ≤ sizeLine) (h6 : (ys = [] → Q (.ref a) H)) (h7 : (ys ≠ [] → ∀ p, H p = none → Q (.ref p) (upd H p (.tup (xs ++ ys))))) : rCatTS K x y H Q
noncomputable def a6m (K : PySem.W.Frag) : R2 := fun x y H Q => rCatTS K x y H Q
theorem Vals.nil_iff {xs : List V} {us : List Value} (r : Vals xs us) : us = [] ↔ xs = [] := by
  cases r with
  | nil => simp
  | cons _ _ => simp
theorem a4o : OpR X (binaryOp .Add) (a6m X.K) := by
  intro pins s σ H x y v u Q I rx ry h
  obtain ⟨a, b, xs, ys, rfl, rfl, ha, hb, hx, hz, q1, q2⟩ := h
  cases rx
  cases ry
  obtain ⟨its, r1, p1, _⟩ := I.tuple ha
  obtain ⟨its2, r2, p2, _⟩ := I.tuple hb
  refine HT.cat_tup p1 p2 (fun z => hx (r1.nil_iff.mp z)) (fun z => ⟨.ref a, H, I, rfl, q1 (r2.nil_iff.mp z)⟩) (fun z => ?_) (by rw [← r1.length, ← r2.length]; exact hz)
  refine ⟨.ref s.heap.objs.size, _, I.laid (t' := s.toks) (o := .tup (xs ++ ys)) (fun b ob q => Heap.get?_push_of_some _ q) (Nat.le_refl _) ?_, rfl, q2 (fun w => z (r2.nil_iff.mpr w)) _ (I.hok.fresh (Nat.le_refl _))⟩
  exact ⟨by rw [List.length_append]; exact hz, _, r1.append r2, IsTup.new _ _⟩
end
end L2
namespace L2
open PySem PySem.Spec PyProof.Rows
noncomputable def ixN (n : Nat) (i : Int) : Option Nat := if 0 ≤ i then (if i < n then some i.toNat else none) else if -(n : Int) ≤ i then some (i + n).toNat else none
noncomputable def atI {α : Type} (xs : List α) (i : Int) : Option α := (ixN xs.length i).bind fun j => xs[j]?
theorem xk {n : Nat} {i : Int} {j : Nat} (h : ixN n i = some j) : seqIndex? i n = some j ∧ j < n ∧ -(n : Int) ≤ i ∧ i < n := by
  unfold ixN at h
  by_cases h0 : 0 ≤ i
  · rw [if_pos h0] at h
    by_cases h1 : i < n
    · rw [if_pos h1] at h
      have e : i.toNat = j := Option.some.inj h
      exact ⟨by rw [seqIndex_of h0 h1, e], by lia, by lia, h1⟩
    · rw [if_neg h1] at h; cases h
  · rw [if_neg h0] at h
    by_cases h1 : -(n : Int) ≤ i
    · rw [if_pos h1] at h
      have e : (i + n).toNat = j := Option.some.inj h
      exact ⟨by rw [seqIndex_neg (by lia) h1, e], by lia, h1, by lia⟩
    · rw [if_neg h1] at h; cases h
theorem qh {α : Type} {xs : List α} {i : Int} {v : α} (h : atI xs i = some v) : ∃ j, seqIndex? i xs.length = some j ∧ xs[j]? = some v ∧ j < xs.length ∧ -(xs.length : Int) ≤ i ∧ i < xs.length := by
  unfold atI at h
  cases e : ixN xs.length i with
  | none => rw [e] at h; cases h
  | some j =>
    rw [e] at h
    obtain ⟨h1, h2, h3, h4⟩ := xk e
    exact ⟨j, h1, h, h2, h3, h4⟩
theorem bu {α : Type} {xs : List α} {j : Nat} {v : α} (h : xs[j]? = some v) : atI xs (j : Int) = some v := by
  have hj : j < xs.length := (List.getElem?_eq_some_iff.mp h).1
  have e : ixN xs.length (j : Int) = some j := by
    unfold ixN
    rw [if_pos (by lia), if_pos (by lia)]; simp
  unfold atI; rw [e]; exact h
noncomputable def xt (b : Expr) : Prop := ∀ o i, subscripted b false o i = operate [o, i] (getItem o i)
noncomputable def IxR (X : Cx) (r : R2) : Prop :=
  ∀ (value slice : Expr) (pins : List (Addr × Obj)) (s : Shared) (σ : St) (H : Hp) (x y : V) (v u : Value) (Q : VK), Inv X pins σ H s → RelV x v → RelV y u → r x y H Q →
    subscripted slice false v u = operate [v, u] (getItem v u) → wpAny (model X.prog X.w) X.A (subscriptTail value slice v u) (EP X pins σ Q) X.xe s
noncomputable def MtR (X : Cx) (id : String) (r : V → List V → Hp → VK → Prop) : Prop :=
  ∀ (pins : List (Addr × Obj)) (s : Shared) (σ : St) (H : Hp) (x : V) (xs : List V) (v : Value) (us : List Value) (Q : VK), Inv X pins σ H s → RelV x v → Vals xs us → r x xs H Q →
    wpAny (model X.prog X.w) X.A (call (.builtin id) (v :: us)) (EP X pins σ Q) X.xe s
section
variable {X : Cx} {a b : Expr} {ta tb : TE} {pos : Pos}
theorem yr {r : R2} (hr : IxR X r) (ha : PE X a ta) (hb : PE X b tb) (hs : xt b) : PE X (.Subscript a b pos) (tOp r ta tb) := by
  intro pins s σ H Q I h
  exact Subscript_ (binT ha hb I h fun v u s2 x y H2 I2 rx ry q => hr a b pins s2 σ H2 x y v u Q I2 rx ry q (hs _ _))
inductive rIxLS (K : PySem.W.Frag) (x y : V) (H : Hp) (Q : VK) : Prop
  | mk (p : Addr) (xs : List V) (i : Int) (v : V) (h0 : x = .ref p) (h1 : y = .int i) (h2 : SqL K H p xs) (h3 : atI xs i = some v) (h4 : Q v H) : rIxLS K x y H Q
noncomputable def rIxL (K : PySem.W.Frag) : R2 := fun x y H Q => rIxLS K x y H Q
inductive rIxTS (K : PySem.W.Frag) (x y : V) (H : Hp) (Q : VK) : Prop
  | mk (p : Addr) (xs : List V) (i : Int) (v : V) (h0 : x = .ref p) (h1 : y = .int i) (h2 : SqT K H p xs) (h3 : atI xs i = some v) (h4 : Q v H) : rIxTS K x y H Q
noncomputable def rIxT (K : PySem.W.Frag) : R2 := fun x y H Q => rIxTS K x y H Q
inductive rIxSS (x y : V) (H : Hp) (Q : VK) : Prop
  | mk (z : Str) (i : Int) (c : Nat) (h0 : x = .str z) (h1 : y = .int i) (h2 : z.length ≤ sizeLine) (h3 : atI z.cps.toList i = some c) (h4 : Q (.str ⟨#[c]⟩) H) : rIxSS x y H Q
noncomputable def rIxS : R2 := fun x y H Q => rIxSS x y H Q
theorem a47 : IxR X (rIxL X.K) := by
  intro value slice pins s σ H x y v u Q I rx ry h hs
  obtain ⟨p, xs, i, z, rfl, rfl, hq, he, q⟩ := h
  cases rx
  obtain ⟨t, rfl⟩ := ry
  obtain ⟨its, r, pl, hz⟩ := I.list hq
  obtain ⟨j, h1, h2, h3, h4, h5⟩ := qh he
  obtain ⟨w, ew, rw'⟩ := r.get h2
  have hl := r.length
  have hn := jt
  have fin : EP X pins σ Q w s := ⟨z, H, I, rw', q⟩
  by_cases h0 : 0 ≤ i
  · have hj : i.toNat = j := by
      rw [seqIndex_of h0 h5] at h1
      exact Option.some.inj h1
    exact item_listR pl.isList h0 (by lia) (by rw [hj]; simpa using ew) fin hs
  · have hj : (i + (its.toArray.size : Int)).toNat = j := by
      rw [seqIndex_neg (by lia) h4] at h1
      rw [List.size_toArray, ← hl]
      exact Option.some.inj h1
    exact subscriptTail_builtinR (x := w) pl.isList.typeIs slot_list_getitem.lookup
      (wpAny_getItem_list_neg (Q := fun r s' => r = w ∧ EP X pins σ Q r s') pl.isList (by lia) (by rw [List.size_toArray] <;> lia) (by lia) (by rw [hj]; simpa using ew) ⟨rfl, fin⟩) hs
theorem vg : IxR X (rIxT X.K) := by
  intro value slice pins s σ H x y v u Q I rx ry h hs
  obtain ⟨p, xs, i, z, rfl, rfl, hq, he, q⟩ := h
  cases rx
  obtain ⟨t, rfl⟩ := ry
  obtain ⟨its, r, pl, hz⟩ := I.tuple hq
  obtain ⟨j, h1, h2, h3, h4, h5⟩ := qh he
  obtain ⟨w, ew, rw'⟩ := r.get h2
  have hl := r.length
  have hn := jt
  have fin : EP X pins σ Q w s := ⟨z, H, I, rw', q⟩
  exact subscriptTail_builtinR (x := w) pl.typeIs slot_tuple_getitem.lookup
    (getItem_tuple (j := j) (Q := fun r s' => r = w ∧ EP X pins σ Q r s') pl (by lia) (by lia) (by rw [List.size_toArray, ← hl]; exact h1) (by simpa using ew) ⟨rfl, fin⟩) hs
theorem q0 : IxR X rIxS := by
  intro value slice pins s σ H x y v u Q I rx ry h hs
  obtain ⟨z, i, c, rfl, rfl, hz, he, q⟩ := h
  obtain ⟨t, rfl⟩ := rx
  obtain ⟨t', rfl⟩ := ry
  obtain ⟨j, h1, h2, h3, h4, h5⟩ := qh he
  have hl : z.cps.toList.length = z.length := by simp [Str.length]
  rw [hl] at h1 h4 h5
  have hn := jt
  exact tail_any (typeIs_str s z t) slot_str_getitem.lookup (getItem_str (c := c) (by
    have e1 : decide (i < -(2 ^ 63 : Int)) = false := decide_eq_false (by lia)
    have e2 : decide (i ≥ 2 ^ 63) = false := decide_eq_false (by lia)
    rw [e1, e2, Bool.or_false]) (by rw [h1]; simpa using h2) ⟨.str ⟨#[c]⟩, H, I.tok _, ⟨_, rfl⟩, q⟩) hs
theorem ym (its : List Value) (n j : Nat) (u : Value) : Obj.mapSeq (·.setIfInBounds j u) { cls := .type "list", data := .seq its.toArray n } = { cls := .type "list", data := .seq (its.set j u).toArray n } := by
  simp [Obj.mapSeq]
theorem Inv.lst {pins : List (Addr × Obj)} {σ : St} {H : Hp} {s : Shared} {p : Addr} {xs : List V} (I : Inv X pins σ H s) (h : H p = some (.lst xs)) :
    ∃ (its : List Value) (n : Nat), Vals xs its ∧ s.heap.get? p = some { cls := .type "list", data := .seq its.toArray n } ∧ xs.length ≤ sizeLine := by
  obtain ⟨z, its, n, r, e⟩ := I.hok p _ h
  exact ⟨its, n, r, e, z⟩
theorem Inv.lstUpd {pins : List (Addr × Obj)} {σ : St} {H : Hp} {s : Shared} {p : Addr} {xs ys : List V} {its its' : List Value} {n n' : Nat} {f : Obj → Obj} (I : Inv X pins σ H s) (h : H p = some (.lst xs))
    (ho : s.heap.get? p = some { cls := .type "list", data := .seq its.toArray n }) (hf : f { cls := .type "list", data := .seq its.toArray n } = { cls := .type "list", data := .seq its'.toArray n' }) (r : Vals ys its') (hz : ys.length ≤ sizeLine) (t : Nat) :
    Inv X pins σ (upd H p (.lst ys)) { s with heap := s.heap.update p f, toks := t } := by
  have e : (s.heap.update p f).get? p = some { cls := .type "list", data := .seq its'.toArray n' } := by
    rw [Heap.get?_update_self f ho (by rw [hf] <;> rfl), hf]
  refine I.write (x := p) (e := p) (by rw [h]; trivial) (.inl rfl) (fun b u hb q => (Heap.get?_update_other _ _ (Ne.symm hb)).trans q) ⟨_, e⟩ ?_
  exact ⟨hz, its', n', r, e⟩
inductive rSetLS (o i v : V) (H : Hp) (Q : Hp → Prop) : Prop
  | mk (p : Addr) (xs : List V) (k : Int) (j : Nat) (h0 : o = .ref p) (h1 : i = .int k) (h2 : H p = some (.lst xs)) (h3 : ixN xs.length k = some j) (h4 : Q (upd H p (.lst (xs.set j v)))) : rSetLS o i v H Q
noncomputable def a3m : V → V → V → Hp → (Hp → Prop) → Prop := fun o i v H Q => rSetLS o i v H Q
theorem ir : PSet X a3m := by
  intro pins s σ H o i v ov iv u Q I ro ri rv h
  obtain ⟨p, xs, k, j, rfl, rfl, hp, hj, q⟩ := h
  cases ro
  obtain ⟨t, rfl⟩ := ri
  obtain ⟨its, n, r, ho, hz⟩ := I.lst hp
  obtain ⟨h1, h2, h3, h4⟩ := xk hj
  have hl := r.length
  have hn := jt
  have I' : Inv X pins σ (upd H p (.lst (xs.set j v))) { s with heap := s.heap.update p (Obj.mapSeq (·.setIfInBounds j u)) } :=
    I.lstUpd hp ho (ym its n j u) (r.set rv j) (by rw [List.length_set]; exact hz) s.toks
  by_cases h0 : 0 ≤ k
  · have hk : k.toNat = j := by
      rw [seqIndex_of h0 h4] at h1
      exact Option.some.inj h1
    exact PySem.W.ki_setAt ho h0 (by lia) (by rw [List.size_toArray, ← hl]; exact h4) (by rw [hk]; exact ⟨_, I', q⟩)
  · have hk : (k + (its.toArray.size : Int)).toNat = j := by
      rw [seqIndex_neg (by lia) h3] at h1
      rw [List.size_toArray, ← hl]
      exact Option.some.inj h1
    exact PySem.W.ki_setBack ho (by lia) (by rw [List.size_toArray, ← hl]; exact h3) (by lia) (by rw [hk]; exact ⟨_, I', q⟩)
theorem uy (lo hi : Option Int) (n : Nat) : (sliceBounds lo hi none n).1 = ((HT.sIx n 0 lo : Nat) : Int) ∧ (sliceBounds lo hi none n).2.1 = ((HT.sIx n n hi : Nat) : Int) ∧ (sliceBounds lo hi none n).2.2 = 1 := by
  refine ⟨?_, ?_, rfl⟩
  · cases lo with
    | none => simp [sliceBounds, HT.sIx]
    | some i =>
      simp only [sliceBounds, HT.sIx, Option.getD_none, show (1 : Int) > 0 by decide, if_true]
      by_cases h : i < 0
      · simp only [h, if_true] <;> lia
      · simp only [h, if_false] <;> lia
  · cases hi with
    | none => simp [sliceBounds, HT.sIx]
    | some i =>
      simp only [sliceBounds, HT.sIx, Option.getD_none, show (1 : Int) > 0 by decide, if_true]
      by_cases h : i < 0
      · simp only [h, if_true] <;> lia
      · simp only [h, if_false] <;> lia
theorem si (its : List Value) (lo hi : Option Int) : slicePick its.toArray lo hi none = ((its.drop (HT.sIx its.length 0 lo)).take (HT.sIx its.length its.length hi - HT.sIx its.length 0 lo)).toArray := by
  obtain ⟨h1, h2, h3⟩ := uy lo hi its.toArray.size
  unfold slicePick
  rw [h1, h2, h3]
  simp only [sliceRange_one, pick_run, List.size_toArray] <;> rfl
inductive rSlLS (K : PySem.W.Frag) (x : V) (lo hi : Option Int) (H : Hp) (Q : VK) : Prop
  | mk (a : Addr) (xs : List V) (h0 : x = .ref a) (h1 : SqL K H a xs) (h2 : ∀ p, H p = none → Q (.ref p) (upd H p (.lst (cutV xs lo hi)))) : rSlLS K x lo hi H Q
noncomputable def rSlL (K : PySem.W.Frag) : V → Option Int → Option Int → Hp → VK → Prop := fun x lo hi H Q => rSlLS K x lo hi H Q
theorem a45 : SlR X (rSlL X.K) := by
  intro pins s σ H x v vl vu lo hi sl Q I rx hs pl pu h
  obtain ⟨a, xs, rfl, hx, q⟩ := h
  cases rx
  obtain ⟨its, r, ht, hz⟩ := I.list hx
  have hlen := r.length
  refine ⟨"list", _, slot_list_getitem.lookup, ht.isList.typeIs, ?_⟩
  refine wpAny_getItem_list_slice ht.isList hs pl pu .none (by simp) ?_ (by rw [List.size_toArray] <;> lia)
  rw [si, ← hlen]
  refine ⟨.ref s.heap.objs.size, _, I.laid (t' := s.toks) (o := .lst (cutV xs lo hi)) (fun b ob q => Heap.get?_push_of_some _ q) (Nat.le_refl _) ?_, rfl, q _ (I.hok.fresh (Nat.le_refl _))⟩
  exact ⟨Nat.le_trans (o9 xs lo hi) hz, _, 0, (r.drop (HT.sIx xs.length 0 lo)).take (HT.sIx xs.length xs.length hi - HT.sIx xs.length 0 lo), Heap.get?_push_size _ rfl⟩
noncomputable def i7 : V → Bool
  | .non => true
  | .bl _ => true
  | .int _ => true
  | .str _ => true
  | _ => false
noncomputable def eqV : V → V → Bool
  | .non, .non => true
  | .bl a, .bl b => a == b
  | .bl a, .int b => (if a then 1 else 0) == b
  | .int a, .bl b => a == (if b then 1 else 0)
  | .int a, .int b => a == b
  | .str a, .str b => a == b
  | _, _ => false
theorem a5s {A : Around} {s : Shared} {y x : V} {u v : Value} (ry : RelV y u) (rx : RelV x v) (fy : i7 y = true) (fx : i7 x = true) : SeqAt.EqAt A s u v (eqV y x) := by
  cases y with
  | non =>
    cases ry
    cases x with
    | non => cases rx; exact SeqAt.EqAt.same _
    | bl b => cases rx; exact SeqAt.EqAt.none_bool b
    | int b => obtain ⟨t, rfl⟩ := rx; exact SeqAt.EqAt.none_int b t
    | str b => obtain ⟨t, rfl⟩ := rx; exact SeqAt.EqAt.none_str b t
    | _ => exact absurd (show false = true from fx) Bool.false_ne_true
  | bl a =>
    cases ry
    cases x with
    | non => cases rx; exact SeqAt.EqAt.bool_none a
    | bl b => cases rx; exact SeqAt.EqAt.bool_bool a b
    | int b => obtain ⟨t, rfl⟩ := rx; exact SeqAt.EqAt.bool_int a b t
    | str b => obtain ⟨t, rfl⟩ := rx; exact SeqAt.EqAt.bool_str a b t
    | _ => exact absurd (show false = true from fx) Bool.false_ne_true
  | int a =>
    obtain ⟨t', rfl⟩ := ry
    cases x with
    | non => cases rx; exact SeqAt.EqAt.int_none a t'
    | bl b => cases rx; exact SeqAt.EqAt.int_bool a t' b
    | int b => obtain ⟨t, rfl⟩ := rx; exact SeqAt.EqAt.int_int a t' b t
    | str b => obtain ⟨t, rfl⟩ := rx; exact SeqAt.EqAt.int_str a t' b t
    | _ => exact absurd (show false = true from fx) Bool.false_ne_true
  | str a =>
    obtain ⟨t', rfl⟩ := ry
    cases x with
    | non => cases rx; exact SeqAt.EqAt.str_none a t'
    | bl b => cases rx; exact SeqAt.EqAt.str_bool a t' b
    | int b => obtain ⟨t, rfl⟩ := rx; exact SeqAt.EqAt.str_int a t' b t
    | str b => obtain ⟨t, rfl⟩ := rx; exact SeqAt.EqAt.str_str a t' b t
    | _ => exact absurd (show false = true from fx) Bool.false_ne_true
  | _ => exact absurd (show false = true from fy) Bool.false_ne_true
noncomputable def eqU (x : V) (u : Value) : Bool := match u with
  | .none => eqV .non x
  | .bool b => eqV (.bl b) x
  | .int i _ => eqV (.int i) x
  | .str z _ => eqV (.str z) x
  | _ => false
theorem a03 {x y : V} {u : Value} (r : RelV y u) (f : i7 y = true) : eqU x u = eqV y x := by
  cases y with
  | non => cases r; rfl
  | bl b => cases r; rfl
  | int i => obtain ⟨t, rfl⟩ := r; rfl
  | str z => obtain ⟨t, rfl⟩ := r; rfl
  | _ => exact absurd (show false = true from f) Bool.false_ne_true
theorem jc {x : V} : ∀ {xs : List V} {us : List Value}, Vals xs us → xs.all i7 = true → us.any (eqU x) = xs.any fun y => eqV y x
  | _, _, .nil, _ => rfl
  | y :: xs, u :: us, .cons r t, f => by
    rw [List.all_cons, Bool.and_eq_true] at f
    rw [List.any_cons, List.any_cons, a03 r f.1, jc t f.2]
theorem iq {A : Around} {s : Shared} {x : V} {v : Value} (rx : RelV x v) (fx : i7 x = true) : ∀ {xs : List V} {us : List Value}, Vals xs us → xs.all i7 = true → ∀ u ∈ us, SeqAt.EqAt A s u v (eqU x u)
  | _, _, .nil, _ => fun u hu => by cases hu
  | y :: xs, u :: us, .cons r t, f => fun u' hu => by
    rw [List.all_cons, Bool.and_eq_true] at f
    rcases List.mem_cons.mp hu with rfl | hu
    · rw [a03 r f.1]; exact a5s r rx f.1 fx
    · exact iq rx fx t f.2 u' hu
noncomputable def inV (x : V) (xs : List V) : Bool := xs.any fun y => eqV y x
inductive rInS (K : PySem.W.Frag) (neg : Bool) (x y : V) (H : Hp) (Q : VK) : Prop
  | mk (p : Addr) (xs : List V) (h0 : y = .ref p) (h1 : (SqL K H p xs ∨ SqT K H p xs)) (h2 : i7 x = true) (h3 : xs.all i7 = true) (h4 : Q (.bl (if neg then !inV x xs else inV x xs)) H) : rInS K neg x y H Q
noncomputable def rIn (K : PySem.W.Frag) (neg : Bool) : R2 := fun x y H Q => rInS K neg x y H Q
theorem zl : OpR X (compareOp .In) (rIn X.K false) := by
  intro pins s σ H x y v u Q I rx ry h
  obtain ⟨p, xs, rfl, hq, fx, fs, q⟩ := h
  cases ry
  rcases hq with hq | hq
  · obtain ⟨its, r, pl, hz⟩ := I.list hq
    refine SeqAt.in_listAt (eqU x) pl.isList (fun w hw => iq rx fx r fs w (by simpa using hw)) ⟨.bl _, H, I, rfl, ?_⟩
    rw [show its.toArray.any (eqU x) = its.any (eqU x) by simp, jc r fs]
    exact q
  · obtain ⟨its, r, pl, hz⟩ := I.tuple hq
    refine SeqAt.in_tupleAt (eqU x) pl (fun w hw => iq rx fx r fs w (by simpa using hw)) ⟨.bl _, H, I, rfl, ?_⟩
    rw [show its.toArray.any (eqU x) = its.any (eqU x) by simp, jc r fs]
    exact q
theorem vj : OpR X (compareOp .NotIn) (rIn X.K true) := by
  intro pins s σ H x y v u Q I rx ry h
  obtain ⟨p, xs, rfl, hq, fx, fs, q⟩ := h
  cases ry
  rcases hq with hq | hq
  · obtain ⟨its, r, pl, hz⟩ := I.list hq
    refine SeqAt.notIn_listAt (eqU x) pl.isList (fun w hw => iq rx fx r fs w (by simpa using hw)) ⟨.bl _, H, I, rfl, ?_⟩
    rw [show its.toArray.any (eqU x) = its.any (eqU x) by simp, jc r fs]
    exact q
  · obtain ⟨its, r, pl, hz⟩ := I.tuple hq
    refine SeqAt.notIn_tupleAt (eqU x) pl (fun w hw => iq rx fx r fs w (by simpa using hw)) ⟨.bl _, H, I, rfl, ?_⟩
    rw [show its.toArray.any (eqU x) = its.any (eqU x) by simp, jc r fs]
    exact q
theorem mj : cw X (.builtin "len") (fun xs H Q => ∃ p ys, xs = [.ref p] ∧ (SqL X.K H p ys ∨ SqT X.K H p ys) ∧ Q (.int ys.length) H) := by
  intro pins s σ H xs us Q I r h
  obtain ⟨p, ys, rfl, hq, q⟩ := h
  obtain ⟨u, rfl, rx⟩ := nk r
  cases rx
  have hn := jt
  rcases hq with hq | hq
  · obtain ⟨its, r', pl, hz⟩ := I.list hq
    have hlen := r'.length
    exact Calls.call_len_list pl.isList (by simp only [List.size_toArray] <;> lia) ⟨.int ys.length, H, I.tok _, ⟨s.toks + 1, by rw [List.size_toArray, hlen]⟩, q⟩
  · obtain ⟨its, r', pl, hz⟩ := I.tuple hq
    have hlen := r'.length
    exact len_tuple pl (by simp only [List.size_toArray] <;> lia) ⟨.int ys.length, H, I.tok _, ⟨s.toks + 1, by rw [List.size_toArray, hlen]⟩, q⟩
theorem gf : cw X (.type "list") (fun xs H Q => ∃ p ys, xs = [.ref p] ∧ (SqL X.K H p ys ∨ SqT X.K H p ys) ∧ ∀ l, H l = none → Q (.ref l) (upd H l (.lst ys))) := by
  intro pins s σ H xs us Q I r h
  obtain ⟨p, ys, rfl, hq, q⟩ := h
  obtain ⟨u, rfl, rx⟩ := nk r
  cases rx
  have fin : ∀ (its : List Value), Vals ys its → ys.length ≤ sizeLine → ∀ (h' : Heap) (c' : Nat), (∀ b o', s.heap.get? b = some o' → h'.get? b = some o') →
      h'.get? s.heap.objs.size = some { cls := .type "list", dict := none, data := .seq its.toArray c', slots := #[] } → EP X pins σ Q (.ref s.heap.objs.size) { s with heap := h' } := fun its r' hz h' c' kp e =>
    ⟨.ref s.heap.objs.size, _, I.laid (t' := s.toks) kp (Nat.le_refl _) (show ObjOk X.prog X.w _ h' _ (.lst ys) from ⟨hz, its, c', r', e⟩), rfl, q _ (I.hok.fresh (Nat.le_refl _))⟩
  rcases hq with hq | hq
  · obtain ⟨its, r', pl, hz⟩ := I.list hq
    have hlen := r'.length
    obtain ⟨o, ho, hc, n, hd⟩ := pl.isList
    exact call_list_seq p (.inl rfl) ho hc hd (fun h' c' kp e => fin its r' hz h' c' kp e) (by simp only [List.size_toArray] <;> lia)
  · obtain ⟨its, r', pl, hz⟩ := I.tuple hq
    have hlen := r'.length
    obtain ⟨o, ho, hc, n, hd⟩ := pl
    exact call_list_seq p (.inr rfl) ho hc hd (fun h' c' kp e => fin its r' hz h' c' kp e) (by simp only [List.size_toArray] <;> lia)
theorem sj : cw X (.type "tuple") (fun xs H Q => ∃ p ys, xs = [.ref p] ∧ ((SqL X.K H p ys ∧ ∀ l, H l = none → Q (.ref l) (upd H l (.tup ys))) ∨ (SqT X.K H p ys ∧ Q (.ref p) H))) := by
  intro pins s σ H xs us Q I r h
  obtain ⟨p, ys, rfl, h⟩ := h
  obtain ⟨u, rfl, rx⟩ := nk r
  cases rx
  rcases h with ⟨hq, q⟩ | ⟨hq, q⟩
  · obtain ⟨its, r', pl, hz⟩ := I.list hq
    have hlen := r'.length
    refine call_tuple_list pl.isList (fun h' kp => ?_) (by simp only [List.size_toArray] <;> lia)
    have I1 : Inv X pins σ H { s with heap := h' } := I.kept (t' := s.toks) kp
    have I2 : Inv X pins σ (upd H h'.objs.size (.tup ys)) { s with heap := h'.push { cls := .type "tuple", data := .seq its.toArray } } :=
      I1.laid (t' := s.toks) (fun b o e => Heap.get?_push_of_some _ e) (Nat.le_refl _) (show ObjOk X.prog X.w _ _ _ (.tup ys) from ⟨hz, its, r', IsTup.new _ _⟩)
    exact ⟨.ref h'.objs.size, _, I2, rfl, q _ (I1.hok.fresh (Nat.le_refl _))⟩
  · obtain ⟨its, r', pl, hz⟩ := I.tuple hq
    exact call_tuple_same pl ⟨.ref p, H, I, rfl, q⟩
noncomputable def tyV (K : PySem.W.Frag) (T : String) (x : V) (H : Hp) : Prop := match x with
  | .str _ => T = "str"
  | .int _ => T = "int"
  | .ref p => (T = "list" ∧ ∃ xs, SqL K H p xs) ∨ (T = "tuple" ∧ ∃ o, K.lookup p = some o ∧ o.cls = .type "tuple" ∧ o.dict = none) ∨
      (T = "dict" ∧ ((∃ kvs, H p = some (.dK kvs)) ∨ ∃ kvs, H p = some (.dT kvs))) ∨ (T = "set" ∧ ∃ S n, H p = some (.set S n))
  | _ => False
theorem a0e {pins : List (Addr × Obj)} {σ : St} {H : Hp} {s : Shared} {T : String} {x : V} {v : Value} (I : Inv X pins σ H s) (r : RelV x v) (ty : tyV X.K T x H) :
    s.TypeIs v T ∧ ∀ a, v = .ref a → ∃ ob, s.heap.get? a = some ob ∧ ob.dict = none := by
  cases x with
  | str z =>
    obtain ⟨t, rfl⟩ := r
    cases (show T = "str" from ty)
    exact ⟨typeIs_str s z t, fun _ e => nomatch e⟩
  | int i =>
    obtain ⟨t, rfl⟩ := r
    cases (show T = "int" from ty)
    exact ⟨typeIs_int s i t, fun _ e => nomatch e⟩
  | ref p =>
    cases r
    rcases ty with ⟨rfl, xs, hq⟩ | ⟨rfl, o, hk, hc, hd⟩ | ⟨rfl, hk⟩ | ⟨rfl, S, n, hk⟩
    · obtain ⟨its, _, pl, _⟩ := I.list hq
      refine ⟨pl.isList.typeIs, fun a e => ?_⟩
      cases e
      obtain ⟨o, n, e, c, hd, _⟩ := pl
      exact ⟨o, e, hd⟩
    · refine ⟨⟨o, I.kIn p o hk, hc⟩, fun a e => ?_⟩
      cases e
      exact ⟨o, I.kIn _ o hk, hd⟩
    · have z : ∃ o, s.heap.get? p = some o ∧ o.ExactDict := by
        rcases hk with ⟨kvs, hk⟩ | ⟨kvs, hk⟩
        · obtain ⟨_, _, _, _, o, _, _, e, ex, _⟩ := I.hok p _ hk
          exact ⟨o, e, ex⟩
        · obtain ⟨_, _, _, _, o, _, _, e, ex, _⟩ := I.hok p _ hk
          exact ⟨o, e, ex⟩
      obtain ⟨o, e, ex⟩ := z
      refine ⟨⟨o, e, ex.1⟩, fun a e2 => ?_⟩
      cases e2
      exact ⟨o, e, ex.2.1⟩
    · obtain ⟨o, _, _, _, e, ex, _⟩ := I.hok p _ hk
      refine ⟨⟨o, e, ex.1⟩, fun a e2 => ?_⟩
      cases e2
      exact ⟨o, e, ex.2.1⟩
  | _ => exact False.elim ty
noncomputable def tBM0 (K : PySem.W.Frag) (T : String) (r : V → List V → Hp → VK → Prop) (to : TE) : TE := fun σ H Q => to σ H fun x H1 => tyV K T x H1 ∧ r x [] H1 Q
noncomputable def tBM (K : PySem.W.Frag) (T : String) (r : V → List V → Hp → VK → Prop) (to : TE) (t : TA) : TE := fun σ H Q => to σ H fun x H1 => tyV K T x H1 ∧ t σ H1 fun xs H2 => r x xs H2 Q
variable {o e : Expr} {es : List Expr} {to : TE} {t : TA} {name : Str} {apos cpos : Pos} {T id : String} {r : V → List V → Hp → VK → Prop}
theorem a6b (pa : PlainAttrs T) (slot : Slot T name id) (hty : typeOf (.builtin id) = pure (.type "method_descriptor")) (hm : MtR X id r) (ho : PE X o to)
    (hbase : attributeBase o name X.env (eval o X.env) = eval o X.env := by rfl) (hline : (apos.endLine == cpos.line) = true := by rfl) : PE X (.Call (.Attribute o name apos) [] [] cpos) (tBM0 X.K T r to) := by
  intro pins s σ H Q I h
  refine wpAny_Call_method0_late hbase hline (thn (ho pins s σ H _ I h) fun v s1 zq => ?_)
  obtain ⟨x, H1, I1, r1, ty, q1⟩ := zq
  obtain ⟨h1, h2⟩ := a0e I1 r1 ty
  exact ⟨T, id, pa, slot, hty, h1, h2, Calls.callWith_builtin rfl (PySem.evalArgs_none (hm pins s1 σ H1 x [] v [] Q I1 r1 .nil q1))⟩
theorem a3j (pa : PlainAttrs T) (slot : Slot T name id) (hty : typeOf (.builtin id) = pure (.type "method_descriptor")) (hm : MtR X id r) (ho : PE X o to) (ha : PA X (e :: es) t)
    (hbase : attributeBase o name X.env (eval o X.env) = eval o X.env := by rfl)
    (hfew : ((backTo cpos (starEach (e :: es) X.env)).all (fun x => !x.1) && (backToKw cpos (keywordEach [] X.env)).all (fun x => x.1.isSome)
      && decide ((e :: es).length + ([] : List Keyword).length + (if ([] : List Keyword).isEmpty then 0 else 1) < 30)) = true := by rfl)
    (hline : (apos.endLine == cpos.line) = true := by rfl) (hs : starEach (e :: es) X.env = (false, eval e X.env) :: starEach es X.env := by rfl) (hplain : (backTo cpos (starEach es X.env)).any (·.1) = false := by rfl) :
    PE X (.Call (.Attribute o name apos) (e :: es) [] cpos) (tBM X.K T r to t) := by
  intro pins s σ H Q I h
  refine wpAny_Call_method_late hbase hfew hline rfl (thn (ho pins s σ H _ I h) fun v s1 zq => ?_)
  obtain ⟨x, H1, I1, r1, ty, q1⟩ := zq
  obtain ⟨h1, h2⟩ := a0e I1 r1 ty
  refine ⟨T, id, pa, slot, hty, h1, h2, ?_⟩
  have hA := ha cpos pins s1 σ H1 _ I1 q1
  rw [hs] at hA ⊢
  refine Calls.callWith_builtin (by show (false || (backTo cpos (starEach es X.env)).any (·.1)) = false; rw [hplain] <;> rfl) (Calls.evalArgs_plain ?_)
  exact thn hA fun us s2 ⟨vs, H2, I2, r2, q2⟩ => hm pins s2 σ H2 x vs v us Q I2 r1 r2 q2
/- xs.append(e), list.index on a module's tuple .. are MtR facts of 06m -/
end
end L2
namespace L2
open PySem PySem.Spec PyProof.Rows
noncomputable def MtM (X : Cx) (id : String) (r : V → List V → Hp → VK → Prop) : Prop :=
  ∀ (pins : List (Addr × Obj)) (s : Shared) (σ : St) (H : Hp) (x : V) (xs : List V) (v : Value) (us : List Value) (Q : VK), Inv X pins σ H s → RelV x v → Vals xs us → r x xs H Q →
    wpAny (model X.prog X.w) X.A (call (.builtin id) (v :: us)) (EP X pins σ Q) X.xe s
theorem Vals.one : ∀ {x : V} {us : List Value}, Vals [x] us → ∃ u, us = [u] ∧ RelV x u
  | _, _, .cons r .nil => ⟨_, rfl, r⟩
theorem Vals.zero : ∀ {us : List Value}, Vals [] us → us = []
  | _, .nil => rfl
theorem Vals.dropLast {xs : List V} {us : List Value} (h : Vals xs us) : Vals xs.dropLast us.dropLast := by
  induction h with
  | nil => exact .nil
  | cons r t ih =>
    cases t with
    | nil => exact .nil
    | cons q t' => exact .cons r ih
theorem Vals.eraseIdx : ∀ {xs : List V} {us : List Value} (i : Nat), Vals xs us → Vals (xs.eraseIdx i) (us.eraseIdx i)
  | _, _, _, .nil => .nil
  | _, _, 0, .cons _ t => t
  | _, _, i + 1, .cons r t => .cons r (Vals.eraseIdx i t)
theorem yu {α : Type} (l : List α) : l.eraseIdx (l.length - 1) = l.dropLast := by
  induction l with
  | nil => rfl
  | cons a r ih =>
    cases r with
    | nil => rfl
    | cons b r =>
      have e : (a :: b :: r).length - 1 = ((b :: r).length - 1) + 1 := by
        have h1 : (a :: b :: r).length = r.length + 2 := rfl
        have h2 : (b :: r).length = r.length + 1 := rfl
        lia
      rw [e, List.eraseIdx_cons_succ, ih]
      all_goals rfl
theorem rp {α : Type} : ∀ (l : List α) (i : Nat), (l.eraseIdx i).length ≤ l.length
  | [], _ => Nat.le_refl _
  | _ :: _, 0 => Nat.le_succ _
  | _ :: r, i + 1 => Nat.succ_le_succ (rp r i)
section
variable {X : Cx} {pins : List (Addr × Obj)} {σ : St} {H : Hp} {s : Shared} {l b : Addr} {xs ys zs : List V}
theorem Inv.lset {its its' : List Value} {n : Nat} {f : Array Value → Array Value} {t' : Nat} (I : Inv X pins σ H s) (hH : H l = some (.lst xs))
    (e : s.heap.get? l = some { cls := .type "list", data := .seq its.toArray n }) (hf : f its.toArray = its'.toArray) (hv : Vals ys its') (hz : ys.length ≤ sizeLine) :
    Inv X pins σ (upd H l (.lst ys)) { s with heap := s.heap.update l (Obj.mapSeq f), toks := t' } := by
  have q := PySem.IsL.update e f
  rw [hf] at q
  refine I.write (x := l) (e := l) (by rw [hH]; exact trivial) (.inl rfl) (fun b' u hb hu => (Heap.get?_update_other s.heap (Obj.mapSeq f) (Ne.symm hb)).trans hu) ⟨_, q⟩ ?_
  exact ⟨hz, its', _, hv, q⟩
theorem Inv.lnew {its : List Value} {t' : Nat} (I : Inv X pins σ H s) (hv : Vals ys its) (hz : ys.length ≤ sizeLine) :
    Inv X pins σ (upd H s.heap.objs.size (.lst ys)) { s with heap := s.heap.push { cls := .type "list", data := .seq its.toArray }, toks := t' } :=
  I.laid (fun _ _ q => Heap.get?_push_of_some _ q) (Nat.le_refl _) ⟨hz, its, 0, hv, Heap.get?_push_size _ rfl⟩
theorem Inv.fresh (I : Inv X pins σ H s) : H s.heap.objs.size = none := I.hok.fresh (Nat.le_refl _)
theorem Inv.lstM (I : Inv X pins σ H s) (hH : H l = some (.lst xs)) : xs.length ≤ sizeLine ∧ ∃ (its : List Value) (n : Nat), Vals xs its ∧ xs.length = its.length ∧ s.heap.get? l = some { cls := .type "list", data := .seq its.toArray n } := by
  obtain ⟨z, its, n, r, e⟩ := I.hok l _ hH
  exact ⟨z, its, n, r, r.length, e⟩
theorem a35 {n : Nat} (h : n ≤ sizeLine) : Builtin.List.listTooLong n = false := by
  unfold Builtin.List.listTooLong
  exact decide_eq_false (by lia)
end
section
variable {X : Cx}
inductive rAppendS (x : V) (vs : List V) (H : Hp) (Q : VK) : Prop
  | mk (l : Addr) (xs : List V) (y : V) (h0 : x = .ref l) (h1 : vs = [y]) (h2 : H l = some (.lst xs)) (h3 : xs.length < sizeLine) (h4 : Q .non (upd H l (.lst (xs ++ [y])))) : rAppendS x vs H Q
noncomputable def a4r : V → List V → Hp → VK → Prop := fun x vs H Q => rAppendS x vs H Q
theorem bq : MtM X "list.append" a4r := by
  intro pins s σ H x vs v us Q I rx rv h
  obtain ⟨l, xs, y, rfl, rfl, hH, hz, q⟩ := h
  cases rx
  obtain ⟨u, rfl, ru⟩ := rv.one
  obtain ⟨z, its, n, r, hl, e⟩ := I.lstM hH
  refine call_meets F.slot_list_append ⟨_, e, rfl⟩ F.entry_list_append (F.args_list_append_2 _ _) (PySem.list_append l its.toArray n u (by rw [List.size_toArray]; lia)) ⟨e, ?_⟩
  refine ⟨.non, _, I.lset (its' := its ++ [u]) hH e (by simp) (r.append (.cons ru .nil)) ?_, rfl, q⟩
  rw [List.length_append, List.length_singleton]
  lia
inductive rExtendS (x : V) (vs : List V) (H : Hp) (Q : VK) : Prop
  | mk (l b : Addr) (xs zs : List V) (h0 : x = .ref l) (h1 : vs = [.ref b]) (h2 : H l = some (.lst xs)) (h3 : H b = some (.lst zs)) (h4 : xs.length + zs.length ≤ sizeLine) (h5 : Q .non (upd H l (.lst (xs ++ zs)))) : rExtendS x vs H Q
noncomputable def a41 : V → List V → Hp → VK → Prop := fun x vs H Q => rExtendS x vs H Q
theorem iw : MtM X "list.extend" a41 := by
  intro pins s σ H x vs v us Q I rx rv h
  obtain ⟨l, b, xs, zs, rfl, rfl, hH, hB, hz, q⟩ := h
  cases rx
  obtain ⟨u, rfl, ru⟩ := rv.one
  cases ru
  obtain ⟨z, its, n, r, hl, e⟩ := I.lstM hH
  obtain ⟨z2, its2, n2, r2, hl2, e2⟩ := I.lstM hB
  have hsz : its.toArray.size + its2.toArray.size ≤ sizeLine := by rw [List.size_toArray, List.size_toArray]; lia
  have hlong : ¬ (!its.toArray.isEmpty && Builtin.List.listTooLong (its.toArray.size + its2.toArray.size)) = true := by
    rw [a35 hsz, Bool.and_false]
    exact Bool.false_ne_true
  refine call_meets F.slot_list_extend ⟨_, e, rfl⟩ F.entry_list_extend (F.args_list_extend_2 _ _)
    (AutoSeq1.list_extend_list_list_0 l its.toArray n b its2.toArray n2 hlong (by rw [List.size_toArray]; lia) (by lia)) ⟨e, e2, ?_⟩
  refine ⟨.non, _, I.lset (its' := its ++ its2) hH e (by simp) (r.append r2) ?_, rfl, q⟩
  rw [List.length_append]
  lia
inductive rPopS (x : V) (vs : List V) (H : Hp) (Q : VK) : Prop
  | mk (l : Addr) (xs : List V) (y : V) (h0 : x = .ref l) (h1 : vs = []) (h2 : H l = some (.lst xs)) (h3 : xs[xs.length - 1]? = some y) (h4 : Q y (upd H l (.lst xs.dropLast))) : rPopS x vs H Q
noncomputable def rPop : V → List V → Hp → VK → Prop := fun x vs H Q => rPopS x vs H Q
theorem a63 : MtM X "list.pop" rPop := by
  intro pins s σ H x vs v us Q I rx rv h
  obtain ⟨l, xs, y, rfl, rfl, hH, hy, q⟩ := h
  cases rx
  have hus := rv.zero
  subst hus
  obtain ⟨z, its, n, r, hl, e⟩ := I.lstM hH
  obtain ⟨u, hu, ru⟩ := r.get hy
  have hy' : its.toArray[its.toArray.size - 1]? = some u := by
    show its.toArray[its.length - 1]? = some u
    rw [← Array.getElem?_toList, ← hl]
    exact hu
  refine call_meets F.slot_list_pop ⟨_, e, rfl⟩ F.entry_list_pop (F.args_list_pop_1 _) (MeetsSeq.list_pop_last l its.toArray n u hy' (by rw [List.size_toArray]; lia)) ⟨e, ?_⟩
  refine ⟨y, _, I.lset (its' := its.dropLast) hH e ?_ r.dropLast ?_, ru, q⟩
  · show its.toArray.eraseIdxIfInBounds (its.toArray.size - 1) = its.dropLast.toArray
    rw [List.size_toArray, List.eraseIdxIfInBounds_toArray, yu]
  · rw [List.length_dropLast]
    lia
inductive rPopAtS (x : V) (vs : List V) (H : Hp) (Q : VK) : Prop
  | mk (l : Addr) (xs : List V) (i : Int) (k : Nat) (y : V) (h0 : x = .ref l) (h1 : vs = [.int i]) (h2 : H l = some (.lst xs)) (h3 : -(2 ^ 63) ≤ i) (h4 : i < 2 ^ 63) (h5 : seqIndex? i xs.length = some k) (h6 : xs[k]? = some y) (h7 : Q y (upd H l (.lst (xs.eraseIdx k)))) : rPopAtS x vs H Q
noncomputable def a5i : V → List V → Hp → VK → Prop := fun x vs H Q => rPopAtS x vs H Q
theorem tz : MtM X "list.pop" a5i := by
  intro pins s σ H x vs v us Q I rx rv h
  obtain ⟨l, xs, i, k, y, rfl, rfl, hH, h1, h2, hk, hy, q⟩ := h
  cases rx
  obtain ⟨u, rfl, ru⟩ := rv.one
  obtain ⟨t, rfl⟩ := ru
  obtain ⟨z, its, n, r, hl, e⟩ := I.lstM hH
  obtain ⟨w, hw, rw'⟩ := r.get hy
  refine call_meets F.slot_list_pop ⟨_, e, rfl⟩ F.entry_list_pop (F.args_list_pop_2 _ _)
    (MeetsSeq.list_pop_at l its.toArray n i t k w (fitsIndex_both h1 h2) (by rw [List.size_toArray, ← hl]; exact hk) (by rw [← Array.getElem?_toList]; exact hw) (by rw [List.size_toArray]; lia)) ⟨e, ?_⟩
  refine ⟨y, _, I.lset (its' := its.eraseIdx k) hH e ?_ (r.eraseIdx k) ?_, rw', q⟩
  · show its.toArray.eraseIdxIfInBounds k = (its.eraseIdx k).toArray
    rw [List.eraseIdxIfInBounds_toArray]
  · have := rp xs k
    lia
inductive rCatS (x y : V) (H : Hp) (Q : VK) : Prop
  | mk (l b : Addr) (xs zs : List V) (h0 : x = .ref l) (h1 : y = .ref b) (h2 : H l = some (.lst xs)) (h3 : H b = some (.lst zs)) (h4 : xs.length + zs.length ≤ sizeLine) (h5 : ∀ p, H p = none → Q (.ref p) (upd H p (.lst (xs ++ zs)))) : rCatS x y H Q
noncomputable def rCat : R2 := fun x y H Q => rCatS x y H Q
theorem cx : OpR X (binaryOp .Add) rCat := by
  intro pins s σ H x y v u Q I rx ry h
  obtain ⟨l, b, xs, zs, rfl, rfl, hH, hB, hz, q⟩ := h
  cases rx
  cases ry
  obtain ⟨z, its, n, r, hl, e⟩ := I.lstM hH
  obtain ⟨z2, its2, n2, r2, hl2, e2⟩ := I.lstM hB
  refine PySem.P.add_list e e2 ?_ (by rw [List.size_toArray, List.size_toArray]; lia)
  have ea : its.toArray ++ its2.toArray = (its ++ its2).toArray := by simp
  rw [ea]
  exact ⟨.ref _, _, I.lnew (t' := s.toks) (r.append r2) (by rw [List.length_append]; lia), rfl, q _ I.fresh⟩
end
section
variable {prog : Program} {w : World} {A : Around} {E : Value → Shared → Prop} {s : Shared}
end
section
variable {X : Cx}
end
end L2
namespace Att
open PySem PySem.W PySem.Calls PyProof.Rows
theorem q5 {P : Params} {h : Heap} : ∀ (ns : List Int) (vs : List Value), WellAll P h vs (ns.map WData.int) → IntsAre vs ns := by
  intro ns
  induction ns with
  | nil =>
    intro vs w
    rw [List.map_nil] at w
    cases w
    exact .nil
  | cons n ns ih =>
    intro vs w
    rw [List.map_cons] at w
    cases w with
    | cons a b =>
      cases a
      exact .cons _ _ (ih _ b)
theorem zk {l : OpenLaw} {n : Nat} (hn : l.most = some n) {P : Params} {h : Heap} {args : List WData} {vals : List Value}
    (hpre : l.row.toRowW.claim.pre args = true) (hwl : WellAll P h vals args) :
    ∃ a vs ns, vals = [Value.ref a] ∧ args = [WData.list (ns.map WData.int)] ∧ h.get? a = some { cls := .type "list", data := .seq vs.toArray } ∧ IntsAre vs ns ∧ ns.length ≤ n := by
  have hsh : WShape.hasAll [] args [.list .int] = true := (pre_splitW hpre).1
  have hc : l.pre.holds [] { args := args } = true := (pre_splitW hpre).2
  obtain ⟨d, r, rfl, h1, h2⟩ := hasAllW_cons hsh
  obtain rfl := hasAllW_nil h2
  obtain ⟨xs, rfl, h3⟩ := hasW_list h1
  obtain ⟨ns, rfl⟩ := items_int h3
  have hlen : ns.length ≤ n := by
    unfold OpenLaw.pre at hc
    have h4 : (WTm.not (.lt (.lit (.int (n : Int))) (.len (.arg 0)))).holds [] { args := [.list (ns.map .int)] } = true := by
      have h4 := (holds_andW hc).1
      rw [hn] at h4
      exact h4
    have h5 := condW_of h4 (w_not (w_lt w_lit (w_len_list (w_arg rfl))))
    rw [List.length_map] at h5
    refine Nat.le_of_not_lt fun q => ?_
    have q' : (n : Int) < ((ns.length : Nat) : Int) := by lia
    first
      | (rw [decide_eq_true q'] at h5; exact absurd h5 (by decide))
      | (simp at h5; lia)
  cases hwl with
  | cons w1 w2 =>
    cases w2
    cases w1 with
    | list ho hall => exact ⟨_, _, ns, rfl, rfl, ho, q5 ns _ hall, hlen⟩
theorem zm (l : OpenLaw) (args : List WData) : l.row.toRowW.claim.post args (.bool true) args = true :=
  postW_of (r := l.row.toRowW) (X := (true == true))
    (show WShape.has [] (.bool true) .bool = true by first | rfl | decide | simp [WShape.has, WShape.arms, WShape.armsAll])
    (show (WTm.eq .res (.lit (.bool true))).value [] { args := args, res := some (.bool true), after := args } = some (.bool (true == true)) from w_eq_bool (w_res rfl) w_lit) rfl
theorem attach_call {l : OpenLaw} {n : Nat} {q : Program} {loose : List Str} {XP : (Str → Option Value) → Heap → Prop} {YP : World → Heap → Prop} {d : DefRec}
    (hn : l.most = some n) (hdf : d.params.defaults = [])
    (call : ∀ (w : World) (s₀ s₁ : Shared) (mg mb : Str → Option Value) (fa : Addr) (o : Obj) (pm cd doc : Value) (a : Addr) (vs : List Value) (ns : List Int),
      Ground q loose [] XP w s₀ mg mb s₁.heap → YP w s₁.heap →
      s₁.heap.get? fa = some o → o.data = .func (docDef d.name d.params d.body d.scope pm cd doc) → s₁.heap.CodeRec cd d.name → mg d.name = some (.ref fa) →
      s₁.heap.get? a = some { cls := .type "list", data := .seq vs.toArray } → IntsAre vs ns → ns.length ≤ n → s₁.gens = #[] →
      codeAny (model l.prog w) callerA (.call (.ref fa) ⟨[.ref a], []⟩) (fun r s' => r = .ok (.ret (.bool true)) ∧ OldK s₁.heap s'.heap ∧ s'.os = s₁.os ∧ AllBare s'.gens) s₁) :
    WalkO q loose XP YP l.row.toRowW d [] (fun f vs => PySem.call f vs) := by
  intro w s₀ s₁ mg mb G Y fa o pm cd doc dV kV ho hd hcd hD hmg hg args vals as hpre hlay hrd hwl hlo
  obtain rfl : dV = .none := Dflts.none hD hdf
  obtain rfl : kV = .none := Dflts.noKw hD
  obtain ⟨a, vs, ns, rfl, rfl, hobj, hints, hlen⟩ := zk hn hpre hwl
  refine enter_call (codeAny_mono (call w s₀ s₁ mg mb fa o pm cd doc a vs ns G Y ho (fd_plain hd) hcd hmg hobj hints hlen hg) fun r s' hq => ?_)
  obtain ⟨rfl, h2, h3, h4⟩ := hq
  exact ⟨.inl ⟨.bool true, .bool true, [], rfl, fun _ => rfl, .bool true, zm l _, fun _ => ⟨List.Pairwise.nil, fun _ hm => (nomatch hm)⟩⟩, h2, h3, h4⟩
section
variable {prog : Program} {w : World} {A : Around} {E : Value → Shared → Prop} {s : Shared} {K : Frag}
end
end Att
namespace L2
open PySem PySem.Spec PyProof.Rows
theorem sg : ∀ {vs : List Value} {ns : List Int}, IntsAre vs ns → Vals (ns.map V.int) vs
  | _, _, .nil => .nil
  | _, _, .cons n t h => .cons ⟨t, rfl⟩ (sg h)
noncomputable def Only (H : Hp) : Prop := ∀ b, H b = none ∨ ∃ o xs, H b = some (.frz o (.lst xs))
theorem a2s {P : Program} {w : World} {K : PySem.W.Frag} {mg mb : Str → Option Value} {CX : CXT} {k : Nat} {fa a : Addr} {fd : FuncData} {x : Str} {sp : Sp} {s₁ : Shared} {vs : List Value} {ns : List Int}
    (KX : K.In s₁.heap) (hns : s₁.heap.Ns mainGlobals mg) (hb : s₁.heap.Ns builtinsNs mb) (hbb : ∀ x : Str, x ≠ "__name__" → mb x = bootBuiltins x) (hlim : s₁.heap.NoLimit) (hg : s₁.gens = #[])
    (ha : s₁.heap.get? a = some { cls := .type "list", data := .seq vs.toArray }) (hi : IntsAre vs ns) (hl : ns.length ≤ sizeLine) (hr : Room k callerA)
    (F : ∀ base : Heap, K.In base → base.Ns mainGlobals mg → FnOk P w K mg base CX k fa fd [x] sp) (hbind : ∀ (s : Shared) (u : Value), BindsTo s fd ⟨[u], []⟩ [(x, u)])
    (hsp : ∀ H : Hp, Only H → SqL K H a (ns.map V.int) → sp [.ref a] H (fun v _ => v = .bl true) fun _ _ _ => False)
    (hCX : ∀ H e s', CX [] H s₁ (fun _ _ _ => False) e s' → False) :
    codeAny (model P w) callerA (.call (.ref fa) ⟨[.ref a], []⟩) (fun r s' => r = .ok (.ret (.bool true)) ∧ OldK s₁.heap s'.heap ∧ s'.os = s₁.os ∧ AllBare s'.gens) s₁ := by
  have rv := sg hi
  have lenV := hi.length
  have core : ∀ H : Hp, Only H → SqL K H a (ns.map V.int) → HOk P w H s₁.heap → (∀ b, H b ≠ none → b = a) → (H a ≠ none → K.lookup a = none) →
      codeAny (model P w) callerA (.call (.ref fa) ⟨[.ref a], []⟩) (fun r s' => r = .ok (.ret (.bool true)) ∧ OldK s₁.heap s'.heap ∧ s'.os = s₁.os ∧ AllBare s'.gens) s₁ := by
    intro H hO hS hok hA hK
    have base_of : ∀ {b : Addr} {o : Obj}, s₁.heap.get? b = some o → H b = none → (hidT s₁.heap H).get? b = some o := fun e n => a2e e n
    have noA : ∀ {b : Addr} {o : Obj} {es : Array DictEntry} {ep : Nat}, s₁.heap.get? b = some o → o.data = .dict es ep → H b = none := fun {b o es ep} e d => by
      cases q : H b with
      | none => rfl
      | some u =>
        have e' : b = a := hA b (by rw [q]; simp)
        subst e'
        rw [ha] at e; cases e
        have d' : Data.seq vs.toArray _ = Data.dict es ep := d
        cases d'
    have nsK : ∀ {b : Addr} {m : Str → Option Value}, s₁.heap.Ns b m → (hidT s₁.heap H).Ns b m := fun {b m} ⟨o, es, ep, e, d, r⟩ => ⟨o, es, ep, base_of e (noA e d), d, r⟩
    have hKb : K.In (hidT s₁.heap H) := fun b o e => base_of (KX b o e) (by
      cases q : H b with
      | none => rfl
      | some u =>
        have e' : b = a := hA b (by rw [q]; simp)
        subst e'
        rw [hK (by rw [q]; simp)] at e; cases e)
    have hM : Mod K mg (hidT s₁.heap H) := ⟨hKb, nsK hns, ⟨mb, nsK hb, hbb⟩, let ⟨mc, h1, h2⟩ := hlim; ⟨mc, nsK h1, h2⟩⟩
    have e0 : Env0 P w K mg (hidT s₁.heap H) callerA [] s₁ H := ⟨rfl, hM, fun b o e => a4a e, Nat.le_of_eq (a1g _ _), trivial, fun b hb => absurd (show b ∈ ([] : List Addr) from hb) (by simp), hok, .of_eq hg⟩
    refine codeAny_mono ((F _ hKb (nsK hns)).run callerA [] s₁ H ⟨[.ref a], []⟩ [.ref a] [.ref a] _ _ hr e0 (hbind s₁ (.ref a)) (.cons rfl .nil) (hsp H hO hS)) fun r s' h => ?_
    cases r with
    | error e => exact (hCX H e s' h).elim
    | ok fl =>
      cases fl with
      | next => exact False.elim h
      | brk => exact False.elim h
      | cont => exact False.elim h
      | ret u =>
        obtain ⟨v, H', os, bare, un, hok', r', q⟩ := h
        have q' : v = .bl true := q
        subst q'
        obtain rfl : u = Value.bool true := r'
        refine ⟨rfl, OldK.of_keep fun b o e => ?_, os, bare⟩
        cases q : H b with
        | none => exact un.keep b o e q (by intro z; exact absurd (show b ∈ ([] : List Addr) from z) (by simp)) (by simp)
        | some u =>
          rcases hO b with z | ⟨ob, xs, z⟩
          · rw [q] at z; cases z
          · have z2 := un.frzs b ob _ z
            obtain ⟨e1, _⟩ := hok b _ z
            obtain ⟨e2, _⟩ := hok' b _ z2
            rw [e] at e1; cases e1
            exact e2
  cases hk : K.lookup a with
  | some o =>
    have e := KX a o hk
    rw [ha] at e
    cases e
    refine core (fun _ => none) (fun _ => .inl rfl) (.inr ⟨_, vs.toArray, _, hk, rfl, rfl, rfl, by rw [List.size_toArray, lenV]; exact hl, by simpa using rv⟩) (fun b u z => by have z' : (none : Option HO) = some u := z; cases z') (fun b z => absurd rfl z) fun z => absurd rfl z
  | none =>
    refine core (fun b => if b = a then some (.frz { cls := .type "list", data := .seq vs.toArray } (.lst (ns.map V.int))) else none) (fun b => ?_) (.inl (.inr ⟨{ cls := .type "list", data := .seq vs.toArray }, if_pos rfl⟩)) (fun b u z => ?_) (fun b z => ?_) fun _ => hk
    · by_cases hb : b = a
      · exact .inr ⟨_, _, if_pos hb⟩
      · exact .inl (if_neg hb)
    · by_cases hb : b = a
      · have z' := (if_pos hb).symm.trans z
        cases z'
        subst hb
        exact ⟨ha, by rw [List.length_map]; exact hl, vs, _, rv, ha⟩
      · have z' := (if_neg hb).symm.trans z
        cases z'
    · by_cases hb : b = a
      · exact hb
      · exact absurd (if_neg hb) z
end L2
namespace L2
open PySem PySem.Spec PyProof.Rows
theorem walk_of {l : PySem.W.OpenLaw} {n k : Nat} {q : Program} {loose : List Str} {XP : (Str → Option Value) → Heap → Prop} {YP : World → Heap → Prop} {d : DefRec} {K : Params → PySem.W.Frag} {CX : World → CXT} {sp : World → Sp} {x : Str}
    (hn : l.most = some n) (hn2 : n ≤ sizeLine) (hdf : d.params.defaults = []) (hr : Room k callerA)
    (hY : ∀ (w : World) (h : Heap), YP w h → (K w.params).In h)
    (F : ∀ (w : World) (mg : Str → Option Value) (fa : Addr) (h : Heap), (K w.params).In h → h.Ns mainGlobals mg → mg d.name = some (.ref fa) →
      ∃ fd : FuncData, (∀ (s : Shared) (u : Value), BindsTo s fd ⟨[u], []⟩ [(x, u)]) ∧
        ∀ base : Heap, (K w.params).In base → base.Ns mainGlobals mg → FnOk l.prog w (K w.params) mg base (CX w) k fa fd [x] (sp w))
    (hsp : ∀ (w : World) (H : Hp) (a : Addr) (ns : List Int), ns.length ≤ n → Only H → SqL (K w.params) H a (ns.map V.int) → sp w [.ref a] H (fun v _ => v = .bl true) fun _ _ _ => False)
    (hCX : ∀ (w : World) (H : Hp) (s : Shared) (e : Value) (s' : Shared), CX w [] H s (fun _ _ _ => False) e s' → False) :
    PySem.W.WalkO q loose XP YP l.row.toRowW d [] (fun f vs => PySem.call f vs) := by
  refine Att.attach_call hn hdf fun w s₀ s₁ mg mb fa o pm cd doc a vs ns G Y ho hd hcd hmg hobj hints hlen hg => ?_
  have KX := hY w _ Y
  obtain ⟨fd, hb, hF⟩ := F w mg fa _ KX G.T.g hmg
  exact a2s KX G.T.g G.T.b G.T.builtins G.T.nolimit hg hobj hints (Nat.le_trans hlen hn2) hr hF hb (fun H hO hS => hsp w H a ns hlen hO hS) fun H e s' => hCX w H s₁ e s'
end L2
/- THE LAST THEOREM (shape; LID, My.* are yours):
   My.Adr: a structure of the addresses that your layer names (classes, functions); My.Txt K t: a structure (Prop) of the equations over K;
   My.txt_mk : {K} {implicit addresses ..} (e1 : nsIn K mainGlobals "law" = some (some (.ref f))) (e2 : K.lookup f = some ⟨oc, od, .func (fnOf "law" "law" params body scope dV kV doc pm an cdv ct), sl⟩) (e3 : codeIn K cdv "law" = true) .. : ∃ t, My.Txt K t
(the tactic k_is has no namespace: write k_is) -/
namespace L2
open PySem PySem.Spec PyProof.Rows
noncomputable def bb (s : Stmt) : Arguments := match s with
  | .FunctionDef _ a _ _ _ _ _ _ _ _ => a
  | _ => { posonlyargs := [], args := [], vararg := none, kwonlyargs := [], kw_defaults := [], kwarg := none, defaults := [] }
noncomputable def b6 (s : Stmt) : List Stmt := match s with
  | .FunctionDef _ _ b _ _ _ _ _ _ _ => b
  | _ => []
noncomputable def ak (s : Stmt) : Scope := match s with
  | .FunctionDef _ _ _ _ _ _ sc _ _ _ => sc
  | _ => { kind := .function, names := [], isGenerator := false, isCoroutine := false }
abbrev CX0 : CXT := fun _ _ _ _ _ _ => False
abbrev E0 : XK := fun _ _ _ => False
theorem aw {X : Cx} : jr CX0 X E0 := fun _ _ _ _ _ _ _ h => h.elim
structure Fun (K : PySem.W.Frag) (x qual : Str) (st : Stmt) (f : Addr) (fd : FuncData) : Prop where
  ex : ∃ (oc : Value) (od : Option Addr) (kV doc pm : Value) (an : Option Addr) (cdv ct : Value) (osl : Array (Option Value)),
    fd = PySem.W.fnOf x qual (bb st) (b6 st) (ak st) .none kV doc pm an cdv ct ∧ K.lookup f = some ⟨oc, od, .func fd, osl⟩ ∧ PySem.W.codeIn K cdv qual = true
  kp : PySem.W.keepIn K (.ref f) = true
section
variable {P : Program} {w : World} {K : PySem.W.Frag} {mg : Str → Option Value} {base : Heap}
theorem Fun.ok {x qual : Str} {st : Stmt} {f : Addr} {fd : FuncData} {N ps : List Str} {k : Nat} {sp : Sp} (F : Fun K x qual st f fd) (S : FnScope N ps (ak st)) (len : ∀ vs H Q E, sp vs H Q E → vs.length = ps.length)
    (hbody : ∀ (cdv : Value) (A : Around) (outer : List Env) (s : Shared) (H : Hp) (vs : List V) (Q : VK) (E : XK), Room k (A.deeper (envOfC qual (ak st) s.heap.objs.size f cdv)) → sp vs H Q E →
      ∃ t, PSs (cxOf CX0 P w K mg base N qual (ak st) f cdv A outer s H E).nox (b6 st) t ∧ t { nx := fun _ H' => Q .non H', rt := Q } (start N vs) H) : FnOk P w K mg base CX0 (k + 1) f fd ps sp := by
  obtain ⟨oc, od, kV, doc, pm, an, cdv, ct, osl, rfl, lk, hcd⟩ := F.ex
  refine a3u lk hcd S len fun A outer s H vs Q E hr hsp => ?_
  obtain ⟨t, h, q⟩ := hbody cdv A outer s H vs Q E hr hsp
  exact ⟨t, h.nox, q⟩
theorem Fun.binds {x qual : Str} {st : Stmt} {f : Addr} {fd : FuncData} {ps : List Str} (F : Fun K x qual st f fd)
    (h : ∀ (kV doc pm : Value) (an : Option Addr) (cdv ct : Value) (us : List Value), us.length = ps.length → bindArgs (PySem.W.fnOf x qual (bb st) (b6 st) (ak st) .none kV doc pm an cdv ct) ⟨us, []⟩ = pure (ps.zip us)) : Binds K fd ps [] := by
  obtain ⟨oc, od, kV, doc, pm, an, cdv, ct, osl, rfl, lk, hcd⟩ := F.ex
  exact .all (h kV doc pm an cdv ct)
theorem bo {x qual : Str} {st : Stmt} {f : Addr} {oc : Value} {od an : Option Addr} {osl : Array (Option Value)} {kV doc pm cdv ct : Value} (l : K.lookup f = some ⟨oc, od, .func (PySem.W.fnOf x qual (bb st) (b6 st) (ak st) .none kV doc pm an cdv ct), osl⟩)
    (c : PySem.W.codeIn K cdv qual = true) (k : PySem.W.keepIn K (.ref f) = true) : Fun K x qual st f (PySem.W.fnOf x qual (bb st) (b6 st) (ak st) .none kV doc pm an cdv ct) := ⟨⟨oc, od, kV, doc, pm, an, cdv, ct, osl, rfl, l, c⟩, k⟩
end
theorem dw {A : Around} {k : Nat} (hr : Room k A) : A.units + 1 < cLine := Nat.lt_of_le_of_lt (Nat.add_le_add_left (by decide : 1 ≤ 64) _) hr.units
theorem fe {n : Nat} (h : n ≤ 1000) : n < sizeLine := Nat.lt_of_le_of_lt h (by decide)
section
variable {X : Cx}
theorem pv (i : Nat) {x : Str} {pos : Pos} (hN : X.N[i]? = some x := by rfl) (hv : Vis X.env.scope x := by first | exact Or.inl rfl | exact Or.inr (Or.inl rfl) | exact Or.inr (Or.inr rfl)) (hd : (x == ("__debug__" : Str)) = false := by decide)
    (hcd : (x == ("__classdict__" : Str)) = false := by decide) : PE X (.Name x pos) (tVar i) := a61 hN hv hd hcd
end
theorem iteF {A B : Prop} (h : B) : if false = true then A else B := by
  rw [if_neg Bool.false_ne_true]
  exact h
theorem iteT {A B : Prop} (h : A) : if true = true then A else B := by
  rw [if_pos rfl]
  exact h
noncomputable def Same (H H' : Hp) : Prop := ∀ b o, H b = some o → H' b = some o
theorem Same.refl (H : Hp) : Same H H := fun _ _ h => h
theorem Same.trans {H H1 H2 : Hp} (a : Same H H1) (b : Same H1 H2) : Same H H2 := fun c o h => b c o (a c o h)
theorem Same.free {H H' : Hp} (e : Same H H') {l : Addr} (h : H' l = Option.none) : H l = Option.none := by
  cases q : H l with
  | none => rfl
  | some o =>
    rw [e l o q] at h
    cases h
theorem Same.seq {K : PySem.W.Frag} {H H' : Hp} {a : Addr} {xs : List V} (e : Same H H') (h : SqL K H a xs) : SqL K H' a xs := by
  rcases h with (h | ⟨o, h⟩) | h
  · exact .inl (.inl (e _ _ h))
  · exact .inl (.inr ⟨o, e _ _ h⟩)
  · exact .inr h
end L2
namespace L2
inductive And4 (P0 P1 P2 P3 : Prop) : Prop
  | mk (h0 : P0) (h1 : P1) (h2 : P2) (h3 : P3) : And4 P0 P1 P2 P3
inductive And5 (P0 P1 P2 P3 P4 : Prop) : Prop
  | mk (h0 : P0) (h1 : P1) (h2 : P2) (h3 : P3) (h4 : P4) : And5 P0 P1 P2 P3 P4
inductive And6 (P0 P1 P2 P3 P4 P5 : Prop) : Prop
  | mk (h0 : P0) (h1 : P1) (h2 : P2) (h3 : P3) (h4 : P4) (h5 : P5) : And6 P0 P1 P2 P3 P4 P5
inductive And7 (P0 P1 P2 P3 P4 P5 P6 : Prop) : Prop
  | mk (h0 : P0) (h1 : P1) (h2 : P2) (h3 : P3) (h4 : P4) (h5 : P5) (h6 : P6) : And7 P0 P1 P2 P3 P4 P5 P6
inductive And8 (P0 P1 P2 P3 P4 P5 P6 P7 : Prop) : Prop
  | mk (h0 : P0) (h1 : P1) (h2 : P2) (h3 : P3) (h4 : P4) (h5 : P5) (h6 : P6) (h7 : P7) : And8 P0 P1 P2 P3 P4 P5 P6 P7
inductive And9 (P0 P1 P2 P3 P4 P5 P6 P7 P8 : Prop) : Prop
  | mk (h0 : P0) (h1 : P1) (h2 : P2) (h3 : P3) (h4 : P4) (h5 : P5) (h6 : P6) (h7 : P7) (h8 : P8) : And9 P0 P1 P2 P3 P4 P5 P6 P7 P8
inductive And14 (P0 P1 P2 P3 P4 P5 P6 P7 P8 P9 P10 P11 P12 P13 : Prop) : Prop
  | mk (h0 : P0) (h1 : P1) (h2 : P2) (h3 : P3) (h4 : P4) (h5 : P5) (h6 : P6) (h7 : P7) (h8 : P8) (h9 : P9) (h10 : P10) (h11 : P11) (h12 : P12) (h13 : P13) : And14 P0 P1 P2 P3 P4 P5 P6 P7 P8 P9 P10 P11 P12 P13
inductive Ex2 {α0 α1 : Type} (P : α0 → α1 → Prop) : Prop
  | mk (a0 : α0) (a1 : α1) (h : P a0 a1) : Ex2 P
inductive Ex3 {α0 α1 α2 : Type} (P : α0 → α1 → α2 → Prop) : Prop
  | mk (a0 : α0) (a1 : α1) (a2 : α2) (h : P a0 a1 a2) : Ex3 P
inductive Ex4 {α0 α1 α2 α3 : Type} (P : α0 → α1 → α2 → α3 → Prop) : Prop
  | mk (a0 : α0) (a1 : α1) (a2 : α2) (a3 : α3) (h : P a0 a1 a2 a3) : Ex4 P
inductive Ex5 {α0 α1 α2 α3 α4 : Type} (P : α0 → α1 → α2 → α3 → α4 → Prop) : Prop
  | mk (a0 : α0) (a1 : α1) (a2 : α2) (a3 : α3) (a4 : α4) (h : P a0 a1 a2 a3 a4) : Ex5 P
inductive Ex7 {α0 α1 α2 α3 α4 α5 α6 : Type} (P : α0 → α1 → α2 → α3 → α4 → α5 → α6 → Prop) : Prop
  | mk (a0 : α0) (a1 : α1) (a2 : α2) (a3 : α3) (a4 : α4) (a5 : α5) (a6 : α6) (h : P a0 a1 a2 a3 a4 a5 a6) : Ex7 P
inductive Ex9 {α0 α1 α2 α3 α4 α5 α6 α7 α8 : Type} (P : α0 → α1 → α2 → α3 → α4 → α5 → α6 → α7 → α8 → Prop) : Prop
  | mk (a0 : α0) (a1 : α1) (a2 : α2) (a3 : α3) (a4 : α4) (a5 : α5) (a6 : α6) (a7 : α7) (a8 : α8) (h : P a0 a1 a2 a3 a4 a5 a6 a7 a8) : Ex9 P
end L2
set_option maxHeartbeats 16000000
namespace L2
open PySem PySem.Spec PyProof.Rows
noncomputable def blk (X : Cx) (N : List Str) (s : Shared) (H : Hp) (sc : Scope) (cl : List (Str × Addr)) (C : Addr) (ex : List Addr) : Cx where
  prog := X.prog
  w := X.w
  K := X.K
  mg := X.mg
  base := X.base
  A := X.A
  N := N
  s₀ := s
  H₀ := H
  env := compEnvC sc cl C X.env
  outer := X.stack
  stack := X.stack
  ex := ex
  fn := fun _ => false
  calm := X.calm
  pn := []
  xe := fun _ _ => False
section
variable {prog : Program} {w : World} {A : Around} {R : Result → Shared → Prop} {s : Shared}
theorem o6 {elt target iter : Expr} {ifs : List Expr} {scope : Scope} {pos : Pos} {it acc : Value} {env : Env} (I : Nat → Shared → Prop)
    (turn : ∀ n s, I n s → wpAny (model prog w) A (pyNext it) (fun r s₁ => match r with
      | none => R (.ok .next) s₁
      | some v => wpAny (model prog w) A (letOwnedTupleGo target it v) (fun _ s₁' => wpAny (model prog w) A (assign target env v) (fun _ s₂ =>
          wpAny (model prog w) A (forIn ifs true fun c r => if r = true then do let ok ← isTrue c env (eval c env); pure (ForInStep.yield ok) else pure (ForInStep.yield r)) (fun ok s₃ =>
            if ok = true then wpAny (model prog w) A (eval elt env) (fun x s₄ =>
              wpAny (model prog w) A (call (.builtin "list.append") [acc, x]) (fun _ s₅ => ∃ m, m < n ∧ I m s₅) (fun _ _ => False) s₄) (fun _ _ => False) s₃
            else ∃ m, m < n ∧ I m s₃) (fun _ _ => False) s₂) (fun _ _ => False) s₁') (fun _ _ => False) s₁) (fun _ _ => False) s)
    (n : Nat) (h : I n s) :
    codeAny (model prog w) A (.compLoop (.ListComp elt [⟨target, iter, ifs, 0⟩] scope pos) 0 it acc env) R s := by
  refine codeAny_loop rfl I (fun n s hI => ?_) n h
  show wpAny _ A ((compTurn (.ListComp elt [⟨target, iter, ifs, 0⟩] scope pos) 0 it acc env).onRaise (fun x => do noteFrame x env; theTreesLotGoes x)) _ _ s
  refine wpAny_noted ?_
  rw [compTurn_list]
  refine wpAny_bind (wpAny_standAt (wpAny_bind (wpAny_mono (turn n s hI) (fun r s₁ h₁ => ?_) fun _ _ h' => h'.elim)))
  cases r with
  | none => exact wpAny_pure h₁
  | some v =>
    refine wpAny_bind (wpAny_mono h₁ (fun _ s₁' h₁' => ?_) fun _ _ h' => h'.elim)
    refine wpAny_bind (wpAny_mono h₁' (fun _ s₂ h₂ => wpAny_bind (wpAny_mono h₂ (fun ok s₃ h₃ => ?_) fun _ _ h' => h'.elim)) fun _ _ h' => h'.elim)
    cases ok with
    | false => exact wpAny_pure ⟨rfl, h₃⟩
    | true =>
      exact wpAny_bind (wpAny_bind (wpAny_mono h₃ (fun x s₄ h₄ => wpAny_bind (wpAny_mono h₄ (fun _ s₅ h₅ => wpAny_pure (wpAny_pure ⟨rfl, h₅⟩)) fun _ _ h' => h'.elim)) fun _ _ h' => h'.elim))
end
noncomputable def PTs (X : Cx) (ifs : List Expr) (t : TT) : Prop :=
  ∀ (pins : List (Addr × Obj)) (s : Shared) (σ : St) (H : Hp) (Q : Bool → Hp → Prop), Inv X pins σ H s → t σ H Q →
    wpAny (model X.prog X.w) X.A (forIn ifs true fun c r => if r = true then do let ok ← isTrue c X.env (eval c X.env); pure (ForInStep.yield ok) else pure (ForInStep.yield r)) (TP X pins σ Q) X.xe s
noncomputable def tYes : TT := fun _ H Q => Q true H
theorem a4z {X : Cx} : PTs X [] tYes := fun _ _ _ H _ I h => wpAny_tests_nil ⟨H, I, h⟩
theorem a4j {X : Cx} {c : Expr} {t : TT} (h : PT X c t) : PTs X [c] t := fun pins s σ H Q I q => wpAny_tests_one (h pins s σ H Q I q)
noncomputable def cy (σ : St) (ix : List Nat) : St := ix.map fun j => (σ[j]?).getD none
noncomputable def lz (J : It) (H1 : Hp) (σ : St) (ix : List Nat) (tc : TT) (te : TE) (Q : VK) : Prop := ∀ D, H1 D = none →
  ∃ W : Nat → Nat → Hp → Prop, (∃ m, W 0 m (upd H1 D (.lst []))) ∧ ∀ i m H, W i m H →
    (J.stop i H ∧ Q (.ref D) H) ∨ (J.go i H ∧ ∀ x H', J.yld i H x H' → tc (some x :: cy σ ix) H' fun b H2 =>
      if b = true then te (some x :: cy σ ix) H2 fun y H3 => ∃ ys, H3 D = some (.lst ys) ∧ ys.length < sizeLine ∧ ∃ m', m' < m ∧ W (i + 1) m' (upd H3 D (.lst (ys ++ [y])))
      else ∃ m', m' < m ∧ W (i + 1) m' H2)
noncomputable def lb (ix : List Nat) (wi : TI) (tc : TT) (te : TE) : TE := fun σ H Q => wi σ H fun J H1 => lz J H1 σ ix tc te Q
section
variable {X : Cx}
theorem yb {pins : List (Addr × Obj)} {σ : St} {H : Hp} {s : Shared} {N : List Str} {x : Str} {sc : Scope} {cl : List (Str × Addr)} {fp : List Addr} {ix : List Nat} {h1 : Heap} {m : Str → Option Value} {tk : Nat}
    (I : Inv X pins σ H s) (hkind : sc.kind = .function) (hN : N = x :: ix.map fun j => (X.N[j]?).getD "")
    (hsub : ∀ y c, cl.lookup y = some c → X.env.cells.lookup y = some c) (hhas : ∀ y, ((relabel sc X.env).names.lookup y = some .cell ∨ (relabel sc X.env).names.lookup y = some .free) → ∃ c, cl.lookup y = some c)
    (hix : ∀ j ∈ ix, ∃ y, X.N[j]? = some y ∧ X.env.kindOf y = some .cell ∧ (relabel sc X.env).names.lookup y = some .cell)
    (hfp : ∀ b ∈ fp, FpOk X pins H b) (hlt : ∀ b ∈ fp, b < s.heap.objs.size)
    (hns : h1.Ns s.heap.objs.size m) (hk : ∀ b o, s.heap.get? b = some o → h1.get? b = some o) :
    Inv (blk X N s H sc cl s.heap.objs.size fp) [] (none :: cy σ ix) H { s with heap := h1, toks := tk } := by
  have fresh : H s.heap.objs.size = none := I.hok.fresh (Nat.le_refl _)
  refine ⟨⟨I.ok.mod, hkind, I.ok.glob, I.ok.blt, Nat.le_refl _, fun y z c h1 h2 => I.ok.inj y z c (hsub y c h1) (hsub z c h2), fun y hy => hhas y hy, fun y c z _ => absurd (show false = true from z) (by decide), I.ok.hd, I.ok.frames, .inl rfl,
    fun b hb => ⟨Nat.ne_of_lt (hlt b hb), fun y c e => (hfp b hb).2.2.2.2.1 y c (hsub y c e)⟩, I.bs, Nat.le_trans I.ok.bsz I.sz, fun b o e hb => ?_, fun b hb z => ?_, I.stack, I.stkFree⟩,
    rfl, I.bare, Un.kept hk, ⟨m, hns, fun i y v e1 e2 e3 => ?_⟩, fun y c e => ?_, fresh, fun y c e => I.freeC y c (hsub y c e), fun p hp => absurd (show p ∈ ([] : List (Addr × Obj)) from hp) (by simp), I.hok.kept hk, ?_⟩
  · rcases (hfp b hb).2.2.2.1 with z | z
    · exact I.ok.noex b o e z
    · exact absurd (Nat.lt_of_lt_of_le (Heap.lt_size e) (Nat.le_trans I.ok.bsz z)) (Nat.lt_irrefl _)
  · rcases List.mem_cons.mp (I.stkSub b z) with q | q
    · exact (hfp b hb).2.1 q
    · exact (hfp b hb).2.2.1 q
  · cases i with
    | zero =>
      have e2' : (some none : Option (Option V)) = some (some v) := e2
      cases e2'
    | succ i =>
      have e2' : (cy σ ix)[i]? = some (some v) := by simpa using e2
      unfold cy at e2'
      rw [List.getElem?_map] at e2'
      cases q : ix[i]? with
      | none => rw [q] at e2'; cases e2'
      | some j =>
        rw [q] at e2'
        have e3' : (σ[j]?).getD none = some v := by simpa using e2'
        have e4 : σ[j]? = some (some v) := by
          cases q2 : σ[j]? with
          | none => rw [q2] at e3'; cases e3'
          | some w => rw [q2] at e3'; simpa using e3'
        obtain ⟨y', hy, hc, hr⟩ := hix j (List.mem_of_getElem? q)
        have ey : y' = y := by
          have e1' : N[i + 1]? = some y := e1
          rw [hN, List.getElem?_cons_succ, List.getElem?_map, q] at e1'
          have := Option.some.inj e1'
          simpa [hy] using this
        subst ey
        obtain ⟨m0, hn0, hl0⟩ := I.loc
        obtain ⟨u, r, l⟩ := hl0 j y' v hy e4 (.inr (.inl hc))
        refine ⟨u, r, .inr ⟨.inl hr, ?_⟩⟩
        rcases l with ⟨k, _⟩ | ⟨_, c, ec, ic⟩
        · rw [hc] at k; cases k
        · obtain ⟨c', ec'⟩ := hhas y' (.inl hr)
          have := hsub y' c' ec'
          rw [ec] at this; cases this
          obtain ⟨o, ho, hd⟩ := ic
          exact ⟨c, ec', o, hk c o ho, hd⟩
  · obtain ⟨v, o, ho, hd⟩ := I.cell y c (hsub y c e)
    exact ⟨v, o, hk c o ho, hd⟩
  · show (none :: cy σ ix).length = N.length
    rw [hN]
    simp [cy]
theorem qg {elt iter : Expr} {x : Str} {px pos : Pos} {ifs : List Expr} {sc : Scope} {cl : List (Str × Addr)} {ix : List Nat} {wi : TI} {tc : TT} {te : TE} (N : List Str)
    (hc : X.calm = true) (hi : PI X (.Name x px) iter wi) (hif : ∀ s H C ex, PTs (blk X N s H sc cl C ex) ifs tc) (he : ∀ s H C ex, PE (blk X N s H sc cl C ex) elt te)
    (hkind : sc.kind = .function) (hN : N = x :: ix.map fun j => (X.N[j]?).getD "") (hnd : N.Nodup) (hx : sc.names.lookup x = some .local)
    (hcl : closureFor sc X.env = pure cl) (hcell : ∀ y ∈ sc.names, y.2 ≠ .cell) (hnames : ∀ y ∈ sc.names, y.2 = .local → sc.names.lookup y.1 = some .local)
    (hsub : ∀ y c, cl.lookup y = some c → X.env.cells.lookup y = some c) (hhas : ∀ y, ((relabel sc X.env).names.lookup y = some .cell ∨ (relabel sc X.env).names.lookup y = some .free) → ∃ c, cl.lookup y = some c)
    (hix : ∀ j ∈ ix, ∃ y, X.N[j]? = some y ∧ X.env.kindOf y = some .cell ∧ (relabel sc X.env).names.lookup y = some .cell)
    (hs : ∀ x, foldedSetIterable iter X.env x = pure x := by intro _; rfl) :
    PE X (.ListComp elt [⟨.Name x px, iter, ifs, 0⟩] sc pos) (lb ix wi tc te) := by
  intro pins s σ H Q I h
  rw [eval_ListComp]
  refine wpAny_comprehension_free (use := none) rfl hs hcl hkind hnames (thn (hi pins s σ H _ I h) fun v s1 h1 => thn h1 fun itv s2 h2 => ?_)
  obtain ⟨it, fp, tn, J, H2, e, I2, T, st2, f2, q2⟩ := h2
  subst e
  have fr2 : H2 s2.heap.objs.size = none := I2.hok.fresh (Nat.le_refl _)
  obtain ⟨W, ⟨m0, w0⟩, turn⟩ := q2 s2.heap.objs.size fr2
  refine wpAny_newObj_type ?_
  have I3 : Inv X pins σ (upd H2 s2.heap.objs.size (.lst [])) { s2 with heap := s2.heap.push { cls := .type "list", dict := none, data := .seq ([] : List Value).toArray } } := by
    exact I2.lnew (its := []) (ys := []) (t' := s2.toks) .nil (Nat.zero_le _)
  have lt2 : ∀ b ∈ fp, b < s2.heap.objs.size := fun b hb => by
    obtain ⟨o, ho, _⟩ := T.obj _ _ st2 b hb
    exact Heap.lt_size ho
  have f3 : ∀ b ∈ fp, FpOk X pins (upd H2 s2.heap.objs.size (.lst [])) b := fun b hb => ⟨by rw [ah (Nat.ne_of_lt (lt2 b hb))]; exact (f2 b hb).1, (f2 b hb).2⟩
  generalize hs3 : ({ s2 with heap := s2.heap.push { cls := .type "list", dict := none, data := .seq ([] : List Value).toArray } } : Shared) = s3 at I3
  have hsz3 : s2.heap.objs.size ≤ s3.heap.objs.size := by rw [← hs3]; show _ ≤ (s2.heap.push _).objs.size; rw [Heap.size_push]; exact Nat.le_succ _
  have tn3 : tn 0 s3.heap := T.keep _ _ _ st2 fun b _ o e => by rw [← hs3]; exact Heap.get?_push_of_some _ e
  have lt3 : ∀ b ∈ fp, b < s3.heap.objs.size := fun b hb => Nat.lt_of_lt_of_le (lt2 b hb) hsz3
  refine wpAny_newFunctionEnv hcell (by intro y hy; simp at hy) (fun h4 hns4 hsb4 => ?_) hkind
  have old : ∀ b o, s3.heap.get? b = some o → h4.get? b = some o := fun b o e => hsb4.extBut b o (Nat.ne_of_lt (Heap.lt_size e)) (Heap.get?_push_of_some _ e)
  have I4 := yb (m := _) (tk := s3.toks + ([] : List (Str × Value)).length) (N := N) I3 hkind hN hsub hhas hix f3 lt3 hns4 old
  have tn4 : tn 0 h4 := T.keep _ _ _ tn3 fun b _ o e => old b o e
  have fpB : ∀ {H' : Hp}, (∀ b ∈ fp, H' b = none) → ∀ b ∈ fp, FpOk (blk X N s3 (upd H2 s2.heap.objs.size (.lst [])) sc cl s3.heap.objs.size fp) [] H' b := fun {H'} hn b hb =>
    ⟨hn b hb, Nat.ne_of_lt (lt3 b hb), I4.ok.exfs b hb, .inl hb, fun y c e => (I4.ok.exf b hb).2 y c e, fun p hp => absurd (show p ∈ ([] : List (Addr × Obj)) from hp) (by simp)⟩
  have loop : codeAny (model X.prog X.w) X.A (.compLoop (.ListComp elt [⟨.Name x px, iter, ifs, 0⟩] sc pos) 0 (.ref it) (.ref s2.heap.objs.size) (compEnvC sc cl s3.heap.objs.size X.env))
      (compPost (model X.prog X.w) X.A X.xe none (EP X pins σ Q) (.ref s2.heap.objs.size) s3.heap.objs.size) { s3 with heap := h4, toks := s3.toks + ([] : List (Str × Value)).length } := by
    refine o6 (fun n s' => ∃ i v0 H', Inv (blk X N s3 (upd H2 s2.heap.objs.size (.lst [])) sc cl s3.heap.objs.size fp) [] (v0 :: cy σ ix) H' s' ∧ tn i s'.heap ∧ (∀ b ∈ fp, H' b = none) ∧ W i n H') ?_ m0
      ⟨0, none, _, I4, tn4, fun b hb => (f3 b hb).1, w0⟩
    rintro n s5 ⟨i, v0, H5, I5, st5, fr5, w5⟩
    rcases turn i n H5 w5 with ⟨stop, qn⟩ | ⟨go, step⟩
    · refine thn (T.done (blk X N s3 (upd H2 s2.heap.objs.size (.lst [])) sc cl s3.heap.objs.size fp) rfl rfl rfl hc i [] s5 _ H5 _ I5 (fpB fr5) st5 stop) fun r s6 zq => ?_
      obtain ⟨hr, I6⟩ := zq
      subst hr
      obtain ⟨mm, hm, _⟩ := I6.loc
      refine ⟨mm, hm, fun h7 sb7 => ?_⟩
      have I7 : Inv X pins σ H5 { s6 with heap := h7 } := by
        have hC : H5 s3.heap.objs.size = none := I6.free
        have hc3 : s3.heap.get? s3.heap.objs.size = none := Heap.get?_none_of_le (Nat.le_refl _)
        have up : ∀ b o, b ≠ s3.heap.objs.size → s6.heap.get? b = some o → h7.get? b = some o := fun b o hb e => sb7.extBut b o hb e
        have neC : ∀ b o, s3.heap.get? b = some o → b ≠ s3.heap.objs.size := fun b o e => Nat.ne_of_lt (Heap.lt_size e)
        have u := I6.base
        refine I3.call' (s' := { s6 with heap := h7 }) (ch := fp) I6.os ⟨fun b o e n hb hx => ?_, fun b o e n hb hx => ?_, fun b o e n hx => u.free b o e n hx, fun b o e hx => ?_, u.tups, u.frzs, u.tbls⟩ (fun b o e => ?_) I6.bare fun b hb => ⟨(f3 b hb).2.2.2.1, (f3 b hb).2.1, (f3 b hb).2.2.2.2.1, (f3 b hb).2.2.2.2.2⟩
        · exact up b o (neC b o e) (u.keep b o e n hb hx)
        · obtain ⟨sl, e1⟩ := u.slot b o e n hb hx
          exact ⟨sl, up b _ (neC b o e) e1⟩
        · obtain ⟨o', e1⟩ := u.there b o e hx
          exact ⟨o', up b _ (neC b o e) e1⟩
        · refine (I6.hok b o e).stay (fun c v hc' q => up c v ?_ q) (fun _ q => q) fun _ _ q => q
          rintro rfl
          rcases hc' with z | z
          · rw [← z, hC] at e; cases e
          · rw [hC] at z; cases z
      exact ⟨.ref s2.heap.objs.size, H5, I7, rfl, qn⟩
    · refine thn (T.item (blk X N s3 (upd H2 s2.heap.objs.size (.lst [])) sc cl s3.heap.objs.size fp) rfl rfl rfl hc i [] s5 _ H5 _ I5 (fpB fr5) st5 go) fun r s6 zq => ?_
      obtain ⟨u, hr, h6⟩ := zq
      subst hr
      refine thn h6 fun _ s7 zq => ?_
      obtain ⟨y, H7, I7, r7, y7, st7, fr7⟩ := zq
      have I7' := I7.pinned (fpB fr7) (T.obj _ _ st7)
      refine wpAny_assign_Name (kr (i := 0) I7' hnd (by show N[0]? = some x; rw [hN]; rfl) (.inl (lookup_relabel_local hx)) r7 (fun s8 I8 => ?_) (.inr (lookup_relabel_local hx)))
      have I8' : Inv (blk X N s3 (upd H2 s2.heap.objs.size (.lst [])) sc cl s3.heap.objs.size fp) ([] ++ gy fp s7.heap) (some y :: cy σ ix) H7 s8 := I8
      refine thn (hif _ _ _ _ _ s8 _ H7 _ I8' (step y H7 y7)) fun ok s9 zq => ?_
      obtain ⟨H9, I9, q9⟩ := zq
      have again : ∀ {H' : Hp} {s' : Shared} {m' : Nat}, Inv (blk X N s3 (upd H2 s2.heap.objs.size (.lst [])) sc cl s3.heap.objs.size fp) ([] ++ gy fp s7.heap) (some y :: cy σ ix) H' s' → m' < n → W (i + 1) m' H' →
          ∃ m, m < n ∧ ∃ i v0 H', Inv (blk X N s3 (upd H2 s2.heap.objs.size (.lst [])) sc cl s3.heap.objs.size fp) [] (v0 :: cy σ ix) H' s' ∧ tn i s'.heap ∧ (∀ b ∈ fp, H' b = none) ∧ W i m H' := fun {H' s' m'} Ia hm wa => by
        refine ⟨m', hm, i + 1, some y, H', Ia.unpinned, T.keep _ _ _ st7 fun b hb o e => (Ia.pin (b, o) (List.mem_append_right _ (List.mem_append_right _ (fi hb e)))).1, fun b hb => ?_, wa⟩
        obtain ⟨o, e, d⟩ := T.obj _ _ st7 b hb
        exact (Ia.pin (b, o) (List.mem_append_right _ (List.mem_append_right _ (fi hb e)))).2.1
      cases ok with
      | false =>
        rw [if_neg Bool.false_ne_true] at q9 ⊢
        obtain ⟨m', hm, wa⟩ := q9
        exact again I9 hm wa
      | true =>
        rw [if_pos rfl] at q9 ⊢
        refine thn (he _ _ _ _ _ s9 _ H9 _ I9 q9) fun v10 s10 zq => ?_
        obtain ⟨z, H10, I10, r10, ys, hD, hl, m', hm, wa⟩ := zq
        exact thn (bq _ s10 _ H10 (.ref s2.heap.objs.size) [z] (.ref s2.heap.objs.size) [v10] (fun _ H' => H' = upd H10 s2.heap.objs.size (.lst (ys ++ [z]))) I10 rfl (.cons r10 .nil) ⟨_, ys, z, rfl, rfl, hD, hl, rfl⟩)
          fun _ s11 ⟨_, H11, I11, _, e11⟩ => again I11 hm (by rw [e11]; exact wa)
  subst hs3
  exact codeAny_compStart_list loop (T.self _ 0 _ _ _ tn4 loop)
end
end L2
namespace L2
open PySem PySem.Spec PyProof.Rows
section
variable {X : Cx} {tg : Expr}
theorem v6 (hc : X.calm = true) : cw X (.builtin "all") (fun xs H Q => ∃ (a : Addr) (bs : List Bool), xs = [.ref a] ∧ SqL X.K H a (bs.map V.bl) ∧ Q (.bl (bs.all id)) H) := by
  intro pins s σ H xs us Q I r h
  obtain ⟨a, bs, rfl, hq, q⟩ := h
  obtain ⟨u, rfl, ru⟩ := r.one
  cases ru
  obtain ⟨its, rv, p, hz⟩ := I.list hq
  have hlt : a < s.heap.objs.size := by obtain ⟨o, n, e, _⟩ := p; exact Heap.lt_size e
  refine call_all_walk (wpAny_pyIter_list p.isList ?_)
  have len : bs.length = its.length := by have := rv.length; simpa using this
  refine ⟨s.heap.objs.size, _, _, _, _, _, fun i => (bs[i]?).getD false, rfl, Walks.list (A := X.A.in1) (show X.A.in1.handled = none from I.ok.hd hc) s.heap.objs.size a (Nat.ne_of_lt hlt) its.toArray, ⟨⟨_, Heap.get?_push_size _ rfl, rfl, rfl⟩, p.isList.at fun o e => Heap.get?_push_of_some _ e⟩, ?_, ?_⟩
  · intro i v s' Q' E' hv hQ
    have hv' : its[i]? = some v := by simpa using hv
    cases hb : bs[i]? with
    | none =>
      have h1 := List.getElem?_eq_none_iff.mp hb
      have h2 := (List.getElem?_eq_some_iff.mp hv').1
      lia
    | some b =>
      obtain ⟨u, hu, ru⟩ := rv.get (i := i) (x := V.bl b) (by rw [List.getElem?_map, hb] <;> rfl)
      rw [hv'] at hu
      cases hu
      cases ru
      simp only [hb, Option.getD_some] at hQ
      exact wpAny_truthy_bool hQ
  · intro h' tk hk
    have e : (List.range its.toArray.size).all (fun i => (bs[i]?).getD false) = bs.all id := by
      rw [List.size_toArray, ← len]
      rw [Bool.eq_iff_iff]
      simp only [List.all_eq_true, List.mem_range, id]
      constructor
      · intro h b hb
        obtain ⟨i, hi, e⟩ := List.mem_iff_getElem.mp hb
        have := h i hi
        rw [List.getElem?_eq_getElem hi, Option.getD_some, e] at this
        exact this
      · intro h i hi
        rw [List.getElem?_eq_getElem hi, Option.getD_some]
        exact h _ (List.getElem_mem hi)
    have fr : FpOk X pins H s.heap.objs.size := I.fpOk (Nat.le_refl _) (I.hok.fresh (Nat.le_refl _))
    refine ⟨.bl (bs.all id), H, ?_, by rw [e]; rfl, q⟩
    have I1 : Inv X pins σ H { s with heap := h', toks := tk } := I.kept (h' := h') (t' := tk) fun b o e => hk b o (fun z => by
      have : b = s.heap.objs.size := by simpa using z
      exact absurd (Heap.lt_size e) (by rw [this]; exact Nat.lt_irrefl _)) (Heap.get?_push_of_some _ e)
    exact I1
end
end L2
namespace L2
open PySem PySem.Spec PyProof.Rows
theorem yx (t : SetTable) (es : Array (Int × Value)) (h : Int) (x : Value) : (layNew t es h x).2.1.led = t.led := by
  unfold layNew
  split
  · dsimp only
    unfold SetTable.orStandIn
    split <;> rfl
  · rfl
theorem mi {t t' : SetTable} {hs : Array Int} {n : Nat} {o : Array Nat} (h : t.relaid hs n = some (t', o)) : t'.led = t.led ∧ t'.plain = t.plain := by
  unfold SetTable.relaid SetTable.laid at h
  cases e : SetTable.layClean (SetTable.sizeAbove n - 1) hs with
  | none => rw [e] at h; cases h
  | some ow =>
    rw [e] at h
    have h' := Option.some.inj h
    cases h'
    exact ⟨rfl, rfl⟩
theorem uo (t : SetTable) (es : Array (Int × Value)) (n : Nat) : (relayAll t es n).2.1.led = t.led := by
  unfold relayAll
  split
  · rename_i t' o e
    dsimp only
    split
    · exact (mi e).1
    · rfl
  · rfl
theorem qd (t : SetTable) (es : Array (Int × Value)) (n : Nat) (hp : (relayAll t es n).2.1.plain = true) : t.plain = true := by
  unfold relayAll at hp
  split at hp
  · rename_i t' o e
    dsimp only at hp
    split at hp
    · rw [← (mi e).2]; exact hp
    · cases hp
  · cases hp
noncomputable def ft : Value → Str
  | .str x _ => x
  | _ => ⟨#[]⟩
noncomputable def SSet (P : Program) (w : World) (h : Heap) (a : Addr) (ss : List Str) : Prop :=
  ∃ o es ep t, h.get? a = some o ∧ o.ExactSet ∧ o.data = .set es ep t ∧ ElemsOf (strKind P w) es.toList ∧ es.toList.map (fun e => ft e.2) = ss ∧ ss.Nodup ∧ es.size < scanBound ∧ t.fits es.size = true ∧
    t.led = !w.params.followText "set-order" ∧ (1 ≤ es.size → t.plain = false)
theorem a09 {P : Program} {w : World} {x : Str} {v : Value} (h : (strKind P w).is x v = true) : ∃ u, v = .str x u := Value.isStrOf_shape h
theorem qu {P : Program} {w : World} {l : List (Int × Value)} (h : ElemsOf (strKind P w) l) {e : Int × Value} (he : e ∈ l) : ∃ u, e.2 = .str (ft e.2) u := by
  obtain ⟨⟨k, hk, _⟩, _⟩ := h e he
  obtain ⟨u, hu⟩ := a09 hk
  exact ⟨u, by rw [hu]; rfl⟩
theorem a2t {P : Program} {w : World} {l : List (Int × Value)} (h : ElemsOf (strKind P w) l) (x : Str) : (l.findIdx? (fun e => (strKind P w).is x e.2)).isSome = decide (x ∈ l.map fun e => ft e.2) := by
  rw [Bool.eq_iff_iff, List.findIdx?_isSome, List.any_eq_true, decide_eq_true_eq, List.mem_map]
  constructor
  · rintro ⟨e, he, hk⟩
    obtain ⟨u, hu⟩ := a09 hk
    exact ⟨e, he, by rw [hu]; rfl⟩
  · rintro ⟨e, he, rfl⟩
    obtain ⟨u, hu⟩ := qu h he
    refine ⟨e, he, ?_⟩
    rw [hu]
    exact strKind_is _ _ _ _
section
variable {P : Program} {w : World} {A : Around} {E : Value → Shared → Prop} {s : Shared}
theorem a3a {a : Addr} {ss : List Str} {x : Str} {u : Tok} {Q : Bool → Shared → Prop} (hS : SSet P w s.heap a ss) (hroom : ss.length + 1 < scanBound)
    (h : ∀ h' ss' b, Heap.SameBut a s.heap h' → SSet P w h' a ss' → (if x ∈ ss then ss' = ss else ss'.Perm (ss ++ [x])) → Q b { s with heap := h' }) :
    wpAny (model P w) A (setAddHashed a (.str x u) (hashStr w x)) Q E s := by
  obtain ⟨o, es, ep, t, ho, hex, hd, hel, hss, hnd, hb, hf, hled, hpl⟩ := hS
  have hkey : (strKind P w).is x (.str x u) = true := strKind_is _ _ _ _
  have hn : es.size = ss.length := by rw [← hss, List.length_map, Array.length_toList]
  unfold setAddHashed setAddHashedIn
  refine wpAny_holding (wpAny_bind (wpAny_setState_of ho hd hf ?_))
  dsimp only
  rw [byScan_of (knd := strKind P w) rfl hb hel]
  simp only [↓reduceIte]
  unfold setAddByScan
  refine wpAny_bind ?_
  refine wpAny_bind (wpAny_rule ?_)
  refine wpAny_bind (wpAny_setScan_of (knd := strKind P w) hkey ho hd hf hel ?_)
  have hfm := a2t hel x
  rw [hss] at hfm
  cases hr : List.findIdx? (fun e => (strKind P w).is x e.2) es.toList with
  | some j =>
    dsimp only
    rw [hr] at hfm
    have hx : x ∈ ss := of_decide_eq_true (Eq.symm hfm)
    refine wpAny_pure (wpAny_pure ?_)
    have := h s.heap ss false (Heap.SameBut.refl a s.heap) ⟨o, es, ep, t, ho, hex, hd, hel, hss, hnd, hb, hf, hled, hpl⟩ (by rw [if_pos hx])
    exact this
  | none =>
    dsimp only
    rw [hr] at hfm
    have hx : x ∉ ss := of_decide_eq_false (Eq.symm hfm)
    have hgw : ∀ (b : Bool) {s₁ : Shared} {Q' : Unit → Shared → Prop}, Q' () s₁ → wpAny (model P w) A (match b with | true => rule "set.scan.the-table-gave-way" | false => pure ()) Q' E s₁ :=
      fun b s₁ Q' hq => by cases b <;> first | exact wpAny_pure hq | exact wpAny_rule hq
    have hperm := layNew_perm t es (hashStr w x) (.str x u)
    have hfits := layNew_fits t es (hashStr w x) (.str x u)
    have hled1 := yx t es (hashStr w x) (.str x u)
    show wpAny (model P w) A _ _ E s
    have hash : (strKind P w).hash x = hashStr w x := rfl
    try rw [hash]
    generalize hL : layNew t es (hashStr w x) (.str x u) = L at hperm hfits hled1 ⊢
    obtain ⟨es1, t1, wasDummy, gave⟩ := L
    dsimp only at hperm hfits hled1 ⊢
    rw [Array.toList_push] at hperm
    have hel1 : ElemsOf (strKind P w) es1.toList := (ElemsOf.push (knd := strKind P w) hel hkey rfl).perm hperm
    have hss1 : (es1.toList.map fun e => ft e.2).Perm (ss ++ [x]) := by
      have := hperm.map (fun e : Int × Value => ft e.2)
      rw [List.map_append, hss] at this
      exact this
    have hsz1 : es1.size = ss.length + 1 := by rw [← Array.length_toList, hperm.length_eq, List.length_append, Array.length_toList, hn]; rfl
    have hb1 : es1.size < scanBound := by rw [hsz1]; exact hroom
    have hnd1 : (es1.toList.map fun e => ft e.2).Nodup := by
      refine hss1.nodup_iff.mpr ?_
      rw [List.nodup_append]
      exact ⟨hnd, by simp, fun y hy z hz e => by rw [List.mem_singleton.mp hz] at e; exact hx (e ▸ hy)⟩
    refine wpAny_bind (hgw _ ?_)
    have tail : ∀ t2 : SetTable, t2.fits es1.size = true → t2.led = t.led → t2.plain = false → ∀ (g : Bool → Sem Unit), (∀ (b : Bool) (s₁ : Shared) (Q' : Unit → Shared → Prop), Q' () s₁ → wpAny (model P w) A (g b) Q' E s₁) →
        wpAny (model P w) A (do
          storeSet a es1 t2
          if (!wasDummy && t2.tooFull) = true then do
              g (relayAll t2 es1 (SetTable.grown es1.size)).2.2
              storeSet a (relayAll t2 es1 (SetTable.grown es1.size)).1 (relayAll t2 es1 (SetTable.grown es1.size)).2.1
              pure (some true)
            else pure (some true)) (fun r s' => r = some true ∧ ∃ h' ss', s' = { s with heap := h' } ∧ Heap.SameBut a s.heap h' ∧ SSet P w h' a ss' ∧ ss'.Perm (ss ++ [x])) E s := by
      intro t2 hf2 hl2 hp2 g hg
      refine wpAny_bind (wpAny_storeSet_of ho hd ?_ (fits_of_scanBound hb1))
      have ho1 : (s.heap.update a (Obj.putSet es1 t2)).get? a = some { o with data := .set es1 (ep + 1) t2 } := by
        have := Heap.get?_update_self (Obj.putSet es1 t2) ho (by rw [putSet_of es1 t2 hd]; rfl)
        rw [putSet_of es1 t2 hd] at this; exact this
      have hsb1 := Heap.SameBut.update s.heap a (Obj.putSet es1 t2)
      split
      · have hp := relayAll_perm t2 es1 (SetTable.grown es1.size)
        have hfr := relayAll_fits t2 es1 (SetTable.grown es1.size)
        have hlr := uo t2 es1 (SetTable.grown es1.size)
        have hpr := qd t2 es1 (SetTable.grown es1.size)
        generalize hRl : relayAll t2 es1 (SetTable.grown es1.size) = Rl at hp hfr hlr hpr ⊢
        obtain ⟨es2, t3, gave2⟩ := Rl
        dsimp only at hp hfr hlr hpr ⊢
        have hsz : es2.size = es1.size := by rw [← Array.length_toList, hp.length_eq, Array.length_toList]
        have hb2 : es2.size < scanBound := by rw [hsz]; exact hb1
        refine wpAny_bind (hg _ _ _ ?_)
        refine wpAny_bind (wpAny_storeSet_of ho1 rfl ?_ (fits_of_scanBound hb2))
        have ho2 : ((s.heap.update a (Obj.putSet es1 t2)).update a (Obj.putSet es2 t3)).get? a = some { o with data := .set es2 (ep + 1 + 1) t3 } := by
          have := Heap.get?_update_self (Obj.putSet es2 t3) ho1 (by rw [putSet_of es2 t3 rfl]; rfl)
          rw [putSet_of (o := { o with data := .set es1 (ep + 1) t2 }) es2 t3 rfl] at this; exact this
        have hss2 := hp.map (fun e : Int × Value => ft e.2)
        refine wpAny_pure ⟨rfl, _, es2.toList.map (fun e => ft e.2), rfl, hsb1.trans (Heap.SameBut.update _ a _), ⟨_, es2, ep + 1 + 1, t3, ho2, hex, rfl, hel1.perm hp, rfl, hss2.nodup_iff.mpr hnd1, hb2, hfr, hlr.trans (hl2.trans hled), fun _ => ?_⟩, hss2.trans hss1⟩
        cases hq : t3.plain with
        | false => rfl
        | true => rw [hpr hq] at hp2; cases hp2
      · exact wpAny_pure ⟨rfl, _, es1.toList.map (fun e => ft e.2), rfl, hsb1, ⟨_, es1, ep + 1, t2, ho1, hex, rfl, hel1, rfl, hnd1, hb1, hf2, hl2.trans hled, fun _ => hp2⟩, hss1⟩
    have fin : ∀ s' : Shared, (∃ h' ss', s' = { s with heap := h' } ∧ Heap.SameBut a s.heap h' ∧ SSet P w h' a ss' ∧ ss'.Perm (ss ++ [x])) → Q true s' := by
      rintro s' ⟨h', ss', rfl, hsb, hS', hp'⟩
      exact h h' ss' true hsb hS' (by rw [if_neg hx]; exact hp')
    split
    · refine wpAny_bind ?_
      rw [hashByValue_scannable 8 (x := .str x u) rfl]
      refine wpAny_pure ?_
      dsimp only [plainKind]
      simp only [Bool.false_eq_true, if_false]
      refine wpAny_mono (tail { t1 with plain := false } (SetTable.fits_plain_off hfits) hled1 rfl _ ?_) (fun r s' hq => ?_) fun _ _ e => e
      · intro b s₁ Q' hq; cases b <;> first | exact wpAny_pure hq | exact wpAny_rule hq
      · obtain ⟨rfl, hq⟩ := hq
        exact wpAny_pure (fin s' hq)
    · rename_i hnp
      refine wpAny_bind (wpAny_pure ?_)
      simp only [↓reduceIte]
      refine wpAny_mono (tail t1 hfits hled1 (by simpa using hnp) _ ?_) (fun r s' hq => ?_) fun _ _ e => e
      · intro b s₁ Q' hq; cases b <;> first | exact wpAny_pure hq | exact wpAny_rule hq
      · obtain ⟨rfl, hq⟩ := hq
        exact wpAny_pure (fin s' hq)
end
end L2
namespace L2
open PySem PySem.Spec PyProof.Rows
inductive Dd : List Str → List Str → Prop
  | nil : Dd [] []
  | old {xs ss : List Str} {x : Str} : Dd xs ss → x ∈ ss → Dd (xs ++ [x]) ss
  | new {xs ss ss' : List Str} {x : Str} : Dd xs ss → x ∉ ss → ss'.Perm (ss ++ [x]) → Dd (xs ++ [x]) ss'
theorem Dd.mem {xs ss : List Str} (h : Dd xs ss) : ∀ y, y ∈ ss ↔ y ∈ xs := by
  induction h with
  | nil => intro y; exact Iff.rfl
  | old d hx ih =>
    rename_i zs ss x
    intro y
    rw [ih y, List.mem_append, List.mem_singleton]
    constructor
    · exact .inl
    · rintro (q | rfl)
      · exact q
      · exact (ih y).mp hx
  | new d hx hp ih =>
    rename_i zs ss ss' x
    intro y
    rw [hp.mem_iff, List.mem_append, List.mem_append, ih y]
theorem Dd.nodup {xs ss : List Str} (h : Dd xs ss) : ss.Nodup := by
  induction h with
  | nil => exact List.nodup_nil
  | old d hx ih => exact ih
  | new d hx hp ih =>
    rename_i zs ss ss' x
    refine hp.nodup_iff.mpr (List.nodup_append.mpr ⟨ih, by simp, fun y hy z hz e => ?_⟩)
    rw [List.mem_singleton.mp hz] at e
    exact hx (e ▸ hy)
theorem Dd.len {xs ss : List Str} (h : Dd xs ss) : ss.length ≤ xs.length := by
  induction h with
  | nil => exact Nat.le_refl _
  | old d hx ih => rw [List.length_append]; exact Nat.le_trans ih (Nat.le_add_right _ _)
  | new d hx hp ih => rw [hp.length_eq, List.length_append, List.length_append]; exact Nat.add_le_add_right ih _
theorem x0 : ∀ {vs : List Value} {xs : List Str}, StrsAre vs xs → ∀ (i : Nat) (v : Value), vs[i]? = some v → ∃ x t, xs[i]? = some x ∧ v = .str x t
  | _, _, .nil, i, v, h => by simp at h
  | _, _, .cons x t r, 0, v, h => by simp at h; exact ⟨x, t, rfl, h.symm⟩
  | _, _, .cons x t r, i + 1, v, h => by
    obtain ⟨y, u, e1, e2⟩ := x0 r i v (by simpa using h)
    exact ⟨y, u, by simpa using e1, e2⟩
section
variable {P : Program} {w : World} {A : Around} {R : Result → Shared → Prop} {I : Addr} {fp wr : List Addr} {G : Array GenState → Array GenState → Prop} {n : Nat} {Pv : Nat → Value → Prop} {St : Nat → Shared → Prop}
theorem SSet.at {h h' : Heap} {a : Addr} {ss : List Str} (hS : SSet P w h a ss) (k : ∀ o, h.get? a = some o → h'.get? a = some o) : SSet P w h' a ss := by
  obtain ⟨o, es, ep, tb, ho, rest⟩ := hS
  exact ⟨o, es, ep, tb, k o ho, rest⟩
theorem oy (W : WalksS P w A.in1 I fp wr G n Pv St) (S : Addr) (hSf : S ∉ fp) (xs : List Str) (hn : xs.length = n) (hval : ∀ i v, Pv i v → ∃ x t, xs[i]? = some x ∧ v = .str x t) (hb : n + 1 < scanBound) :
    ∀ (k i : Nat) (s : Shared) (ss : List Str), n - i = k → i ≤ n → St i s → SSet P w s.heap S ss → Dd (xs.take i) ss →
      (∀ s' ss', Moved (S :: wr) G s s' → SSet P w s'.heap S ss' → Dd xs ss' → R (.ok (.ret .none)) s') →
      codeAny (model P w) A (.builtin "set.update.loop" ⟨[.ref S, .ref I], []⟩) R s := by
  have hSw : S ∉ wr := fun h => hSf (W.sub _ h)
  have hsub : ∀ b ∈ wr, b ∈ S :: wr := fun b hb => List.mem_cons_of_mem _ hb
  intro k
  induction k with
  | zero =>
    intro i s ss hk hi hst hS hd hR
    have hin : i = n := by lia
    subst hin
    refine codeAny_builtin PyProof.Rows.F.entry_set_update_loop ?_
    rw [Around.under_plainId PyProof.Rows.F.plain_set_update_loop _]
    show wpAny _ A.in1 (pyNext (.ref I) >>= _) _ _ s
    refine wpAny_bind (W.done s _ _ hst fun s' hm => ?_)
    show wpAny _ A.in1 (ret Value.none) _ _ s'
    refine wpAny_pure (hR s' ss (hm.mono hsub) (hS.at fun o e => hm.heap S _ hSw e) ?_)
    rw [List.take_of_length_le (Nat.le_of_eq hn)] at hd
    exact hd
  | succ k ih =>
    intro i s ss hk hi hst hS hd hR
    have hlt : i < n := by lia
    refine codeAny_builtin PyProof.Rows.F.entry_set_update_loop ?_
    rw [Around.under_plainId PyProof.Rows.F.plain_set_update_loop _]
    show wpAny _ A.in1 (pyNext (.ref I) >>= _) _ _ s
    refine wpAny_bind (W.item i s _ _ hlt hst fun v s' hP hst' hm => ?_)
    obtain ⟨x, t, hx, rfl⟩ := hval i v hP
    have hS' : SSet P w s'.heap S ss := hS.at fun o e => hm.heap S _ hSw e
    show wpAny _ A.in1 (holding [Value.str x t] (setAdd S (.str x t)) >>= _) _ _ s'
    refine wpAny_bind (wpAny_holding ?_)
    unfold setAdd
    refine wpAny_holding ?_
    refine wpAny_bind ((strKind P w).pyHash (k := x) (strKind_is _ _ _ _) ?_)
    have hl : ss.length ≤ i := by have := hd.len; rw [List.length_take] at this; lia
    refine a3a (s := { s' with toks := s'.toks + 1 }) hS' (by lia) fun h' ss' b hsb hS2 hss => ?_
    have hd' : Dd (xs.take (i + 1)) ss' := by
      have e : xs.take (i + 1) = xs.take i ++ [x] := by rw [List.take_add_one, hx]; rfl
      rw [e]
      by_cases hm : x ∈ ss
      · rw [if_pos hm] at hss
        rw [hss]
        exact .old hd hm
      · rw [if_neg hm] at hss
        exact .new hd hm hss
    refine wpAny_pure ⟨plainId_quiet PyProof.Rows.F.plain_set_update_loop _, ih (i + 1) _ ss' (by lia) hlt (W.frame _ s' _ _ hst' (Nat.le_succ _) fun b hb o e => ?_) hS2 hd' fun s'' ss'' hm'' hS'' hd'' => ?_⟩
    · rw [hsb.2 b (fun h : b = S => hSf (by rw [← h]; exact hb))]; exact e
    · refine hR s'' ss'' (Moved.trans W.gtrans ((hm.mono hsub).then_heap (Nat.le_succ _) fun b o hb e => ?_) hm'') hS'' hd''
      rw [hsb.2 b (fun h : b = S => hb (by rw [h]; exact List.mem_cons_self))]; exact e
end
section
variable {P : Program} {w : World} {A : Around} {E : Value → Shared → Prop} {s : Shared}
theorem oh (a : Value) {Q₁ : Value → Shared → Prop}
    (h : Q₁ (.ref s.heap.objs.size) { s with heap := s.heap.push { cls := .type "set", dict := none, data := .set #[] 0 (.fresh 0 0 (!w.params.followText "set-order")) } }) :
    codeAny (model P w) A (.call (.builtin "set.__new__") ⟨[.type "set", a], []⟩) (wants Q₁ E) s := by
  refine codeAny_of_tree ?_
  show wpAny _ A.in1 (do checkBuiltinCall "set.__new__" ⟨[.type "set", a], []⟩; again (.builtin "set.__new__" ⟨[.type "set", a], []⟩)) _ _ s
  refine wpAny_bind (wpAny_of_eq (PySem.F.newCall_set_1 a) (wpAny_pure ⟨plainId_quiet PySem.F.plain_set_new _, codeAny_builtin PySem.F.entry_set_new ?_⟩))
  rw [Around.under_plainId PySem.F.plain_set_new _]
  unfold Builtin.«set.__new__» Builtin.Frozenset.newClass
  have hsub := sub_set_self
  obtain ⟨hp, g, d, tk, os⟩ := s
  dsimp only
  wp_walk
  refine wpAny_askSetting (wpAny_pure ?_)
  dsimp only
  simp only [newObj]
  refine wpAny_bind (wpAny_alloc (wpAny_pure ?_))
  exact wpAny_pure h
set_option maxHeartbeats 16000000 in
theorem sk {l : Addr} {items : Array Value} {xs : List Str} {Q : Value → Shared → Prop}
    (hh : A.handled = none) (hl : s.heap.IsList l items) (hi : StrsAre items.toList xs) (hb : items.size + 1 < scanBound)
    (h : ∀ (h' : Heap) (tk : Nat) (ss : List Str), SSet P w h' s.heap.objs.size ss → Dd xs ss → (∀ b o, b < s.heap.objs.size → s.heap.get? b = some o → h'.get? b = some o) → Q (.ref s.heap.objs.size) { s with heap := h', toks := tk }) :
    wpAny (model P w) A (call (.type "set") [.ref l]) Q E s := by
  obtain ⟨c, tl, hmro⟩ := PySem.F.called_set.mro
  have hmade := PySem.F.called_set.made
  have hsub := PySem.F.called_set.sub
  refine wpAny_call (codeAny_of_tree ?_)
  show wpAny _ _ (callAny (.type "set") _) _ _ _
  refine wpAny_pure ⟨Code.quiet_builtin _ (by decide +kernel), codeAny_builtin PySem.F.entry_type_call ?_⟩
  rw [Around.under_plain (weight_type_call_type "set" [.ref l] []) rfl]
  have h1 := PySem.F.called_set.notType
  have h2 := PySem.F.called_set.canCreate
  have hct := PySem.F.typeCall_set_1 (.ref l)
  repeat (any_goals (first | assumption | wp_step))
  refine codeAny_mono (oh (.ref l) (E := E) (Q₁ := fun obj s₁ => obj = .ref s.heap.objs.size ∧ s₁ = { s with heap := s.heap.push { cls := .type "set", dict := none, data := .set #[] 0 (.fresh 0 0 (!w.params.followText "set-order")) } }) ⟨rfl, rfl⟩) fun r s₁ hr => ?_
  cases r with
  | error e => exact hr
  | ok fl =>
    cases fl with
    | ret obj =>
      obtain ⟨rfl, rfl⟩ := hr
      generalize hled : (!w.params.followText "set-order") = led
      have hS : (s.heap.push { cls := .type "set", dict := none, data := .set #[] 0 (.fresh 0 0 led) }).get? s.heap.objs.size = some { cls := .type "set", dict := none, data := .set #[] 0 (.fresh 0 0 led) } := Heap.get?_push_size _ rfl
      have hT : Shared.TypeIs { s with heap := s.heap.push { cls := .type "set", dict := none, data := .set #[] 0 (.fresh 0 0 led) } } (.ref s.heap.objs.size) "set" := ⟨_, hS, rfl⟩
      have hli := PySem.F.called_set.init.lookup
      have hbi := PySem.F.called_set.init.bind (.ref s.heap.objs.size)
      repeat (any_goals (first | assumption | wp_step))
      refine codeAny_mono (codeAny_call_builtin (R := wants (fun r s₂ => r = .none ∧ ∃ h' tk ss, s₂ = { s with heap := h', toks := tk } ∧ SSet P w h' s.heap.objs.size ss ∧ Dd xs ss ∧
          (∀ b o, b < s.heap.objs.size → s.heap.get? b = some o → h'.get? b = some o)) E) PySem.F.called_set.init.plain PySem.F.entry_set_init (check_set_init_1 hT ?_)) fun r₂ s₂ hr₂ => ?_
      · obtain ⟨ol, hol, hcl, nl, hdl⟩ := hl
        obtain ⟨ocls, odict, odata, oslots⟩ := ol
        simp only at hcl hdl
        subst hcl; subst hdl
        have hol' : (s.heap.push { cls := .type "set", dict := none, data := .set #[] 0 (.fresh 0 0 led) }).get? l = some { cls := .type "list", dict := odict, data := .seq items nl, slots := oslots } := Heap.get?_push_of_some _ hol
        have hsls := PySem.F.sub_list_set
        have hslf := PySem.F.sub_list_frozenset
        have hne : (Value.type "list" == Value.type "dict") = false := by decide
        have hl1 : (s.heap.push { cls := .type "set", dict := none, data := .set #[] 0 (.fresh 0 0 led) }).IsList l items := ⟨_, hol', rfl, nl, rfl⟩
        unfold Builtin.«set.__init__» noKeywords Builtin.Frozenset.updateFrom
        generalize hPI : pyIter = PI
        wp_walk
        subst hPI
        refine wpAny_pyIter_list hl1 ?_
        refine wpAny_bind (wpAny_runValue ?_)
        have hlS : l < s.heap.objs.size := Heap.lt_size hol
        have hh3 : A.in1.in1.in1.handled = none := by simp [hh]
        have hneI : l ≠ (s.heap.push { cls := .type "set", dict := none, data := .set #[] 0 (.fresh 0 0 led) }).objs.size := by
          rw [Heap.size_push]; exact Nat.ne_of_lt (Nat.lt_succ_of_lt hlS)
        have hSf : s.heap.objs.size ∉ [(s.heap.push { cls := .type "set", dict := none, data := .set #[] 0 (.fresh 0 0 led) }).objs.size, l] := by
          rw [Heap.size_push]; simp only [List.mem_cons, List.mem_singleton, List.not_mem_nil, or_false, not_or]
          exact ⟨Nat.ne_of_lt (Nat.lt_succ_self _), Nat.ne_of_gt hlS⟩
        have hlen : xs.length = items.size := by have := hi.length; simpa using this.symm
        have hval : ∀ (i : Nat) (v : Value), items[i]? = some v → ∃ x t, xs[i]? = some x ∧ v = .str x t := fun i v hv => x0 hi i v (by rw [Array.getElem?_toList]; exact hv)
        refine oy ((Walks.list hh3 _ l hneI items).toS) s.heap.objs.size hSf xs hlen hval hb (items.size - 0) 0 _ [] (by lia) (Nat.zero_le _)
          ⟨⟨_, Heap.get?_push_size _ rfl, rfl, rfl⟩, (hl1.push _)⟩ ?hS0 (by rw [List.take_zero]; exact .nil) ?hR
        case hS0 =>
          have hget : ((s.heap.push { cls := .type "set", dict := none, data := .set #[] 0 (.fresh 0 0 led) }).push { cls := .type "list_iterator", data := .fields #[.ref l, .int 0 0] }).get? s.heap.objs.size
              = some { cls := .type "set", dict := none, data := .set #[] 0 (.fresh 0 0 led) } := Heap.get?_push_of_some _ hS
          exact ⟨_, #[], 0, _, hget, ⟨rfl, rfl, rfl⟩, rfl, fun e he => by simp at he, rfl, List.nodup_nil, by decide, by rfl, hled.symm, fun q => absurd q (by simp)⟩
        case hR =>
          intro s' ss' hm hS' hd'
          obtain ⟨h', g', d', tk', os'⟩ := s'
          have eg : g' = s.gens := hm.gens
          have ed : d' = s.drawn := hm.drawn
          have eo : os' = s.os := hm.os
          subst eg; subst ed; subst eo
          show wpAny _ _ _ _ _ _
          refine wpAny_pure ?_
          show wpAny _ _ (ret Value.none) _ _ _
          refine wpAny_pure ⟨rfl, h', tk', ss', rfl, hS', hd', fun b o hb e => ?_⟩
          have hb1 : b ≠ s.heap.objs.size := Nat.ne_of_lt hb
          have hb2 : b ≠ (s.heap.push { cls := .type "set", dict := none, data := .set #[] 0 (.fresh 0 0 led) }).objs.size := by
            rw [Heap.size_push]; exact Nat.ne_of_lt (Nat.lt_succ_of_lt hb)
          exact hm.heap b o (by simp only [List.mem_cons, List.mem_singleton, List.not_mem_nil, or_false, not_or]; exact ⟨hb1, hb2⟩) (Heap.get?_push_of_some _ (Heap.get?_push_of_some _ e))
      · cases r₂ with
        | error e => exact hr₂
        | ok fl₂ =>
          cases fl₂ with
          | ret r =>
            obtain ⟨rfl, h', tk, ss, rfl, hS', hd', hk'⟩ := hr₂
            repeat (any_goals (first | assumption | wp_step))
            exact h _ _ ss hS' hd' hk'
          | _ => exact hr₂.elim
    | _ => exact hr.elim
end
end L2
namespace L2
open PySem PySem.Spec PyProof.Rows
namespace SF
theorem entry_set_iter : entryFor table "set.__iter__" = some Builtin.«frozenset.__iter__» := entryFor_alias (id' := "frozenset.__iter__") (by kernel_rfl) rfl (by decide +kernel) (by kernel_rfl)
theorem slot_next : Slot "set_iterator" "__next__" "set_iterator.__next__" :=
  .of (owner := "set_iterator") (n := "__next__") (by rw [typeLookup_type, builtinLookup_eq_fast]; kernel_rfl) (by decide +kernel) (by decide +kernel) (by decide +kernel)
    (by first | exact .inl (by decide +kernel) | exact .inr (by decide +kernel)) (by rw [isSubtype_type]; kernel_rfl)
theorem entry_next : entryFor table "set_iterator.__next__" = some Builtin.«set_iterator.__next__» := entryFor_of_tree (by kernel_rfl)
theorem args_next (a : Value) : argsOk "set_iterator.__next__" ⟨[a], []⟩ := by unfold argsOk; kernel_rfl
theorem slot_self : Slot "set_iterator" "__iter__" "set_iterator.__iter__" :=
  .of (owner := "set_iterator") (n := "__iter__") (by rw [typeLookup_type, builtinLookup_eq_fast]; kernel_rfl) (by decide +kernel) (by decide +kernel) (by decide +kernel)
    (by first | exact .inl (by decide +kernel) | exact .inr (by decide +kernel)) (by rw [isSubtype_type]; kernel_rfl)
theorem entry_self : entryFor table "set_iterator.__iter__" = some Builtin.«dict_keyiterator.__iter__» :=
  entryFor_alias (id' := "dict_keyiterator.__iter__") (by kernel_rfl) rfl (by decide +kernel) (by kernel_rfl)
theorem args_self (a : Value) : argsOk "set_iterator.__iter__" ⟨[a], []⟩ := by unfold argsOk; kernel_rfl
theorem set_len : typeLookup (.type "set") "__len__" = pure (some (.builtin "set.__len__")) := by rw [typeLookup_type, builtinLookup_eq_fast]; kernel_rfl
theorem sub_set : isSubtype (.type "set") (.type "set") = pure true := by rw [isSubtype_type]; kernel_rfl
end SF
end L2
namespace L2
open PySem PySem.Spec PyProof.Rows
theorem kn {α : Type} : ∀ (l : List α) (i : Nat) (h : i < l.length), (l[i] :: l.eraseIdx i).Perm l
  | x :: r, 0, _ => List.Perm.refl _
  | x :: r, i + 1, h => by
    have h' : i < r.length := by simpa using h
    exact (List.Perm.swap x r[i] (r.eraseIdx i)).trans ((kn r i h').cons x)
theorem o7 {α : Type} (next : Nat → Nat) : ∀ (fuel k : Nat) (left : List α) (out : Array α), left.length = fuel → (pickOrder.go next fuel k left out).toList.Perm (out.toList ++ left)
  | 0, k, left, out, h => by
    have e : left = [] := List.eq_nil_of_length_eq_zero h
    subst e
    simp [pickOrder.go]
  | fuel + 1, k, left, out, h => by
    have hlt : next k % left.length < left.length := Nat.mod_lt _ (by lia)
    unfold pickOrder.go
    rw [List.getElem?_eq_getElem hlt]
    dsimp only
    refine (o7 next fuel (k + 1) _ _ (by rw [List.length_eraseIdx_of_lt hlt]; lia)).trans ?_
    rw [Array.toList_push, List.append_assoc]
    refine List.Perm.append_left _ ?_
    rw [List.singleton_append]
    exact kn _ _ hlt
theorem re {α : Type} (next : Nat → Nat) (xs : Array α) : (pickOrder next xs).toList.Perm xs.toList := by
  have := o7 next xs.size 0 xs.toList #[] (by simp)
  simpa [pickOrder] using this
section
variable {P : Program} {w : World} {A : Around} {E : Value → Shared → Prop}
theorem zh {src : Source} {n : Nat} {s : Shared} {Q : Nat → Shared → Prop} (hn : n ≠ 0) (h : ∀ i d, i < n → Q i { s with drawn := d }) : wpAny (model P w) A (choose src n) Q E s := by
  intro Γ p hΓ
  unfold choose
  rw [Sem.wp_choose]
  exact ⟨hn, h _ _ (Nat.mod_lt _ (Nat.pos_of_ne_zero hn))⟩
theorem jl {α : Type} : ∀ (n : Nat) (xs : List α) (s : Shared) (Q : List α → Shared → Prop), xs.length = n → (∀ ys d, ys.Perm xs → Q ys { s with drawn := d }) → wpAny (model P w) A (drawOrder n xs) Q E s
  | 0, xs, s, Q, hl, h => by
    have e : xs = [] := List.eq_nil_of_length_eq_zero hl
    subst e
    exact wpAny_pure (h [] s.drawn (List.Perm.refl _))
  | n + 1, [], s, Q, hl, h => by simp at hl
  | n + 1, x :: r, s, Q, hl, h => by
    unfold drawOrder
    refine wpAny_bind (zh (by rw [hl]; exact Nat.succ_ne_zero n) fun i d hi => ?_)
    rw [List.getElem?_eq_getElem hi]
    dsimp only
    refine wpAny_bind (jl n _ _ _ (by rw [List.length_eraseIdx_of_lt hi]; lia) fun ys d' hp => ?_)
    refine wpAny_pure (h _ d' ?_)
    exact (hp.cons _).trans (kn _ _ hi)
end
theorem qz {α : Type} : ∀ l : List α, (List.range l.length).filterMap (fun i => l[i]?) = l
  | [] => rfl
  | x :: r => by
    rw [List.length_cons, List.range_succ_eq_map, List.filterMap_cons]
    simp only [List.getElem?_cons_zero]
    rw [List.filterMap_map]
    exact congrArg (x :: ·) (qz r)
noncomputable def sw (first : Value) (i : Nat) (S : Addr) (n ep : Nat) : Obj := { cls := .type "set_iterator", dict := none, data := .fields #[first, .int i 0, .ref S, .int n 0, .int ep 0], slots := #[] }
inductive Ord (w : World) (S : Addr) (es : Array (Int × Value)) (ep : Nat) (t : SetTable) (h : Heap) : Value → Nat → List Value → Prop
  | text (i : Nat) : w.params.followText "set-order" = true → Ord w S es ep t h (.int 0 0) i ((pickOrder (w.params.setOrder S ep) es).toList.map (·.2))
  | drawn (i : Nat) (T : Addr) (ps : List Nat) : w.params.followText "set-order" = false → IsTup h T (ps.map fun (p : Nat) => Value.int p 0).toArray → (∀ p ∈ ps, p < es.size) → Ord w S es ep t h (.ref T) i (ps.filterMap fun p => (es[p]?).map (·.2))
  | none (k i : Nat) : w.params.followText "set-order" = false → es.size = 0 → Ord w S es ep t h (.int k 0) i []
  | one0 (e : Int × Value) : w.params.followText "set-order" = false → es = #[e] → Ord w S es ep t h (.int 0 0) 0 [e.2]
  | one1 (e : Int × Value) (j : Nat) : w.params.followText "set-order" = false → es = #[e] → t.place = #[j] → Ord w S es ep t h (.int (j + 1 : Nat) 0) 1 [e.2]
noncomputable def a3n (P : Program) (w : World) (S I T0 : Addr) (es : Array (Int × Value)) (ep : Nat) (t : SetTable) (ord : List Value) (i : Nat) (h : Heap) : Prop :=
  ∃ first o, h.get? I = some (sw first i S es.size ep) ∧ h.get? S = some o ∧ o.data = .set es ep t ∧ Ord w S es ep t h first i ord ∧ ∀ T, first = .ref T → T = T0
section
variable {P : Program} {w : World} {A : Around} {E : Value → Shared → Prop} {s : Shared}
theorem a5f (j : Nat) : SetTable.below #[j] (j + 1) = 1 := by
  simp [SetTable.below, SetTable.below.go]
theorem a68 (j : Nat) : SetTable.below #[j] 0 = 0 := by
  simp [SetTable.below, SetTable.below.go]
theorem m8 {Q : Bool → Shared → Prop} (h : Q (w.params.followText "set-order") s) : wpAny (model P w) A setsByText Q E s := by
  unfold setsByText
  exact wpAny_bind (wpAny_askSetting (wpAny_pure h))
theorem pe {S : Addr} {es : Array (Int × Value)} {ep i k : Nat} {t : SetTable} {ord : List Value} {o : Obj} {Q : Option (Value × Nat) → Shared → Prop} (ho : s.heap.get? S = some o) (hd : o.data = .set es ep t) (hf : t.fits es.size = true)
    (hled : t.led = !w.params.followText "set-order") (od : Ord w S es ep t s.heap (.int (k : Int) 0) i ord)
    (h : ∀ k' : Nat, (∀ v, ord[i]? = some v → Ord w S es ep t s.heap (.int (k' : Int) 0) (i + 1) ord) → Q ((ord[i]?).map fun v => (v, k')) s) : wpAny (model P w) A (setNext S k i ep) Q E s := by
  unfold setNext
  refine wpAny_bind (wpAny_setState_of ho hd hf ?_)
  dsimp only
  refine wpAny_bind (m8 ?_)
  generalize hk : (k : Int) = ki at od
  generalize hfst : Value.int ki 0 = first at od
  cases od with
  | text i ht =>
    cases hfst
    obtain rfl : k = 0 := by lia
    rw [ht]
    simp only [if_true, bne_self_eq_false, Bool.false_eq_true, if_false]
    unfold setWalk
    refine wpAny_bind ?_
    refine wpAny_bind (wpAny_setState_of ho hd hf ?_)
    dsimp only
    refine wpAny_bind (m8 ?_)
    rw [ht]
    simp only [if_true]
    refine wpAny_bind (wpAny_askSetting (wpAny_pure ?_))
    refine wpAny_pure ?_
    have := h 0 fun v _ => Ord.text (i + 1) ht
    rw [List.getElem?_map, Array.getElem?_toList] at this
    rw [Option.map_map] at this
    exact this
  | drawn => cases hfst
  | none k' i ht h0 =>
    cases hfst
    rw [ht]
    have e0 : es = #[] := Array.eq_empty_of_size_eq_zero h0
    subst e0
    have hl : t.led = true := by rw [hled, ht]; rfl
    rw [if_neg Bool.false_ne_true]
    split
    · rename_i hdr
      have hdr' : (!t.plain && decide ((#[] : Array (Int × Value)).size > 1)) = true := hdr
      simp at hdr'
    · refine wpAny_bind (show wpAny (model P w) A (if (!t.led && !(#[] : Array (Int × Value)).isEmpty) = true then unsupported "set:maker-not-led" else pure ()) _ _ _ from ?_)
      rw [hl]
      refine wpAny_pure (wpAny_pure ?_)
      have := h k fun v e => by simp at e
      simpa using this
  | one0 e ht he =>
    cases hfst
    obtain rfl : k = 0 := by lia
    rw [ht]
    subst he
    have hl : t.led = true := by rw [hled, ht]; rfl
    have hpz : t.place.size = 1 := by
      simp only [SetTable.fits, Bool.and_eq_true, beq_iff_eq] at hf
      exact hf.1
    obtain ⟨j, hj⟩ : ∃ j, t.place = #[j] := by
      generalize t.place = pl at hpz
      obtain ⟨l⟩ := pl
      obtain ⟨j, rfl⟩ := List.length_eq_one_iff.mp hpz
      exact ⟨j, rfl⟩
    rw [if_neg Bool.false_ne_true]
    split
    · rename_i hdr
      have hdr' : (!t.plain && decide ((#[e] : Array (Int × Value)).size > 1)) = true := hdr
      simp at hdr'
    · refine wpAny_bind (show wpAny (model P w) A (if (!t.led && !(#[e] : Array (Int × Value)).isEmpty) = true then unsupported "set:maker-not-led" else pure ()) _ _ _ from ?_)
      rw [hl]
      refine wpAny_pure (wpAny_pure ?_)
      rw [hj, a68]
      exact h (j + 1) fun v _ => Ord.one1 e j ht rfl hj
  | one1 e j ht he hp =>
    cases hfst
    obtain rfl : k = j + 1 := by lia
    rw [ht]
    subst he
    have hl : t.led = true := by rw [hled, ht]; rfl
    rw [if_neg Bool.false_ne_true]
    split
    · rename_i hdr
      have hdr' : (!t.plain && decide ((#[e] : Array (Int × Value)).size > 1)) = true := hdr
      simp at hdr'
    · refine wpAny_bind (show wpAny (model P w) A (if (!t.led && !(#[e] : Array (Int × Value)).isEmpty) = true then unsupported "set:maker-not-led" else pure ()) _ _ _ from ?_)
      rw [hl]
      refine wpAny_pure (wpAny_pure ?_)
      rw [hp, a5f]
      exact h 0 fun v e => by simp at e
theorem Ord.keep {S : Addr} {es : Array (Int × Value)} {ep i : Nat} {t : SetTable} {ord : List Value} {first : Value} {h h' : Heap} (od : Ord w S es ep t h first i ord) (k : ∀ T o, first = .ref T → h.get? T = some o → h'.get? T = some o) : Ord w S es ep t h' first i ord := by
  cases od with
  | text i ht => exact .text i ht
  | drawn i T ps ht hT hp =>
    obtain ⟨o, e, c⟩ := hT
    exact .drawn i T ps ht ⟨o, k T o rfl e, c⟩ hp
  | none kk i ht h0 => exact .none kk i ht h0
  | one0 e ht he => exact .one0 e ht he
  | one1 e j ht he hp => exact .one1 e j ht he hp
theorem Ord.kind {S : Addr} {es : Array (Int × Value)} {ep i : Nat} {t : SetTable} {ord : List Value} {first : Value} {h : Heap} (od : Ord w S es ep t h first i ord) :
    (∃ k : Nat, first = .int (k : Int) 0) ∨ ∃ (T : Addr) (ps : List Nat), first = .ref T ∧ w.params.followText "set-order" = false ∧ IsTup h T (ps.map fun (p : Nat) => Value.int p 0).toArray ∧ (∀ p ∈ ps, p < es.size) ∧ ord = ps.filterMap fun p => (es[p]?).map (·.2) := by
  cases od with
  | text i ht => exact .inl ⟨0, rfl⟩
  | drawn i T ps ht hT hp => exact .inr ⟨T, ps, rfl, ht, hT, hp, rfl⟩
  | none k i ht h0 => exact .inl ⟨k, rfl⟩
  | one0 e ht he => exact .inl ⟨0, rfl⟩
  | one1 e j ht he hp => exact .inl ⟨j + 1, rfl⟩
theorem Ord.step {S : Addr} {es : Array (Int × Value)} {ep i : Nat} {t : SetTable} {ord : List Value} {T : Addr} {h : Heap} (od : Ord w S es ep t h (.ref T) i ord) : Ord w S es ep t h (.ref T) (i + 1) ord := by
  cases od with
  | drawn i T ps ht hT hp => exact .drawn (i + 1) T ps ht hT hp
end
theorem ug {es : Array (Int × Value)} : ∀ {ps : List Nat}, (∀ p ∈ ps, p < es.size) → ∀ (i : Nat), (ps.filterMap fun p => (es[p]?).map (·.2))[i]? = (ps[i]?).bind fun p => (es[p]?).map (·.2)
  | [], _, i => by simp
  | p :: r, hp, i => by
    have h1 : p < es.size := hp p (by simp)
    have e : es[p]? = some es[p] := by simp [h1]
    rw [List.filterMap_cons, e]
    cases i with
    | zero => simp [e]
    | succ i => simpa using ug (fun q hq => hp q (List.mem_cons_of_mem _ hq)) i
section
variable {P : Program} {w : World} {A : Around}
theorem zv (hh : A.handled = none) {S I : Addr} {es : Array (Int × Value)} {ep : Nat} {t : SetTable} {ord : List Value} (fp : List Addr) (hI : I ∈ fp) (hS : S ∈ fp) (hne : S ≠ I) (hf : t.fits es.size = true) (hled : t.led = !w.params.followText "set-order")
    {T0 : Addr} (hT : T0 ∈ fp) (hTI : T0 ≠ I) :
    Walks P w A I fp [I] ord.length (fun i v => ord[i]? = some v) (a3n P w S I T0 es ep t ord) where
  sub := fun b hb => by rw [List.mem_singleton.mp hb]; exact hI
  frame := fun i h h' st hk => by
    obtain ⟨first, o, h1, h2, h3, h4, h5⟩ := st
    exact ⟨first, o, hk I hI _ h1, hk S hS _ h2, h3, h4.keep (fun T o e q => hk T (by rw [h5 T e]; exact hT) o q), h5⟩
  item := fun i s Q E hi st hQ => by
    obtain ⟨first, o, h1, h2, h3, h4, h5⟩ := st
    have ty : s.TypeIs (.ref I) "set_iterator" := ⟨_, h1, rfl⟩
    unfold pyNext
    refine wpAny_bind (wpAny_attempt (wpAny_callSpecial?_slot (name := Str.ofString "__next__") ty SF.slot_next (wpAny_call_entry SF.slot_next ty SF.entry_next ?_ (SF.args_next _))))
    show wpAny _ _ (fieldsOf (.ref I) >>= _) _ _ s
    refine wpAny_bind (wpAny_fieldsOf h1 rfl ?_)
    show wpAny _ _ (setEntries S >>= _) _ _ s
    refine wpAny_bind (wpAny_setEntries_of h2 h3 hf ?_)
    simp only [bne_self_eq_false, Bool.false_eq_true, if_false]
    have hv : ord[i]? = some ord[i] := List.getElem?_eq_getElem hi
    rcases h4.kind with ⟨k, rfl⟩ | ⟨T, ps, rfl, ht, hTt, hps, hord⟩
    · show wpAny _ _ (setNext S (Int.toNat (k : Int)) (Int.toNat (i : Int)) (Int.toNat (ep : Int)) >>= _) _ _ s
      simp only [Int.toNat_natCast]
      refine wpAny_bind (pe h2 h3 hf hled h4 fun k' hk' => ?_)
      rw [hv]
      show wpAny _ _ (setField (.ref I) 0 (rawInt k') >>= _) _ _ s
      refine wpAny_bind (wpAny_setField_rec h1 (by simp) fun ha ha1 ha2 => ?_)
      refine wpAny_bind (wpAny_setField_rec ha1 (by simp) fun hb hb1 hb2 => ?_)
      refine wpAny_pure ⟨_, rfl, wpAny_pure (hQ _ hb s.toks hv ⟨.int (k' : Int) 0, o, hb1, ?_, h3, (hk' _ hv).keep (fun T o e => by cases e), (fun T e => by cases e)⟩ fun b o hb' e => ?_)⟩
      · rw [hb2.2 S hne, ha2.2 S hne]; exact h2
      · have : b ≠ I := fun z => hb' (by simp [z])
        rw [hb2.2 b this, ha2.2 b this]; exact e
    · have hTne : T ≠ I := by rw [h5 T rfl]; exact hTI
      have hg := ug hps i
      rw [← hord, hv] at hg
      cases hpi : ps[i]? with
      | none => rw [hpi] at hg; cases hg
      | some p =>
        rw [hpi] at hg
        have hp : p < es.size := hps p (List.mem_of_getElem? hpi)
        have hep : es[p]? = some es[p] := by simp [hp]
        have hg' : some ord[i] = (es[p]?).map (·.2) := hg
        rw [hep] at hg'
        have hval : ord[i] = es[p].2 := Option.some.inj hg'
        show wpAny _ _ (seqItems? (.ref T) >>= _) _ _ s
        obtain ⟨oT, eT, cT, nT, dT⟩ := hTt
        refine wpAny_bind (wpAny_seqItems eT dT ?_)
        dsimp only
        have hpl : ((ps.map fun (p : Nat) => Value.int p 0).toArray)[Int.toNat (i : Int)]? = some (.int (p : Int) 0) := by
          rw [Int.toNat_natCast, List.getElem?_toArray, List.getElem?_map, hpi]; rfl
        rw [hpl]
        show wpAny _ _ (setNextDrawn S (Int.toNat (p : Int)) (Int.toNat (ep : Int)) >>= _) _ _ s
        simp only [Int.toNat_natCast]
        unfold setNextDrawn
        refine wpAny_bind (wpAny_bind (wpAny_setState_of h2 h3 hf ?_))
        simp only [bne_self_eq_false, Bool.false_eq_true, if_false]
        rw [hep]
        refine wpAny_pure ?_
        refine wpAny_bind (wpAny_setField_rec h1 (by simp) fun hb hb1 hb2 => ?_)
        refine wpAny_pure ⟨_, rfl, wpAny_pure (hQ _ hb s.toks (by rw [hv, hval]; rfl) ⟨.ref T, o, hb1, ?_, h3, h4.step.keep (fun T' o e q => ?_), h5⟩ fun b o hb' e => ?_)⟩
        · rw [hb2.2 S hne]; exact h2
        · cases e; rw [hb2.2 T hTne]; exact q
        · have : b ≠ I := fun z => hb' (by simp [z])
          rw [hb2.2 b this]; exact e
  done := fun s Q E st hQ => by
    obtain ⟨first, o, h1, h2, h3, h4, h5⟩ := st
    have ty : s.TypeIs (.ref I) "set_iterator" := ⟨_, h1, rfl⟩
    have hv : ord[ord.length]? = none := List.getElem?_eq_none (Nat.le_refl _)
    have stop : ∀ h' : Heap, (∀ b o, b ≠ I → s.heap.get? b = some o → h'.get? b = some o) → wpAny (model P w) A.in1 (do raiseNew (← newExc (.type "StopIteration") []) : Sem Fin) (fun _ _ => False)
        (fun x s' => wpAny (model P w) A (do let b ← isInstance x (.type "StopIteration"); if b = true then pure Option.none else throw x) Q E s') { s with heap := h' } := by
      intro h' hk
      refine wpAny_bind ?_
      simp only [newExc, newTuple]
      refine wpAny_bind (wpAny_newObj_type ?_ (by size_fits))
      refine wpAny_bind (m := firstArgMember _ _) (wpAny_of_eq (a := Value.none) (by first | rfl | (simp only [firstArgMember]; rfl)) ?_)
      refine wpAny_newObj_type ?_ (by size_fits)
      simp only [raiseNew]
      refine wpAny_bind (wpAny_handled ?_)
      rw [show A.in1.handled = none from hh]
      refine wpAny_bind (wpAny_pure (wpAny_throw ?_))
      refine wpAny_bind (wpAny_isInstance (T := "StopIteration") (b := true) ⟨_, Heap.get?_push_size _ rfl, rfl⟩ isSubtype_stop ?_)
      exact wpAny_pure (hQ _ _ fun b o hb e => Heap.get?_push_of_some _ (Heap.get?_push_of_some _ (hk b o (fun z => hb (by simp [z])) e)))
    unfold pyNext
    refine wpAny_bind (wpAny_attempt (wpAny_callSpecial?_slot (name := Str.ofString "__next__") ty SF.slot_next (wpAny_call_entry SF.slot_next ty SF.entry_next ?_ (SF.args_next _))))
    show wpAny _ _ (fieldsOf (.ref I) >>= _) _ _ s
    refine wpAny_bind (wpAny_fieldsOf h1 rfl ?_)
    show wpAny _ _ (setEntries S >>= _) _ _ s
    refine wpAny_bind (wpAny_setEntries_of h2 h3 hf ?_)
    simp only [bne_self_eq_false, Bool.false_eq_true, if_false]
    rcases h4.kind with ⟨k, rfl⟩ | ⟨T, ps, rfl, ht, hTt, hps, hord⟩
    · show wpAny _ _ (setNext S (Int.toNat (k : Int)) (Int.toNat (ord.length : Int)) (Int.toNat (ep : Int)) >>= _) _ _ s
      simp only [Int.toNat_natCast]
      refine wpAny_bind (pe h2 h3 hf hled h4 fun k' hk' => ?_)
      rw [hv]
      show wpAny _ _ (setField (.ref I) 2 .none >>= _) _ _ s
      refine wpAny_bind (wpAny_setField_rec h1 (by simp) fun ha ha1 ha2 => ?_)
      refine wpAny_mono (stop ha fun b o hb e => by rw [ha2.2 b hb]; exact e) (fun _ _ z => z.elim) fun x s' z => ?_
      exact z
    · have hpi : ps[ord.length]? = none := by
        have hg := ug hps ord.length
        rw [← hord, hv] at hg
        cases hpi : ps[ord.length]? with
        | none => rfl
        | some p =>
          rw [hpi] at hg
          have hp : p < es.size := hps p (List.mem_of_getElem? hpi)
          have hep : es[p]? = some es[p] := by simp [hp]
          have hg' : (none : Option Value) = (es[p]?).map (·.2) := hg
          rw [hep] at hg'
          cases hg'
      show wpAny _ _ (seqItems? (.ref T) >>= _) _ _ s
      obtain ⟨oT, eT, cT, nT, dT⟩ := hTt
      refine wpAny_bind (wpAny_seqItems eT dT ?_)
      dsimp only
      have hpl : ((ps.map fun (p : Nat) => Value.int p 0).toArray)[Int.toNat (ord.length : Int)]? = none := by
        rw [Int.toNat_natCast, List.getElem?_toArray, List.getElem?_map, hpi]; rfl
      rw [hpl]
      show wpAny _ _ (setField (.ref I) 0 (rawInt 0) >>= _) _ _ s
      refine wpAny_bind (wpAny_setField_rec h1 (by simp) fun ha ha1 ha2 => ?_)
      refine wpAny_bind (wpAny_setField_rec ha1 (by simp) fun hb hb1 hb2 => ?_)
      refine wpAny_mono (stop hb fun b o hb' e => by rw [hb2.2 b hb', ha2.2 b hb']; exact e) (fun _ _ z => z.elim) fun x s' z => ?_
      exact z
  self := fun i s Q E st hQ => by
    obtain ⟨first, o, h1, h2, h3, h4, h5⟩ := st
    have ty : s.TypeIs (.ref I) "set_iterator" := ⟨_, h1, rfl⟩
    refine wpAny_pyIter_slot ty SF.slot_self (wpAny_call_entry SF.slot_self ty SF.entry_self ?_ (SF.args_self _))
    show wpAny _ _ (ret (.ref I)) _ _ s
    exact wpAny_pure ⟨_, rfl, "set_iterator", _, ty, SF.slot_next.lookup, hQ⟩
theorem wk {E : Value → Shared → Prop} {s : Shared} {S : Addr} {ss : List Str} {Q : Value → Shared → Prop} (hS : SSet P w s.heap S ss)
    (h : ∀ (h' : Heap) (d' : Drawn) (I : Addr) (fp : List Addr) (ord : List Value) (St : Nat → Heap → Prop), (∀ b o, s.heap.get? b = some o → h'.get? b = some o) → s.heap.objs.size ≤ I → I ∈ fp → (∀ b ∈ fp, b < h'.objs.size ∧ (b = S ∨ s.heap.objs.size ≤ b)) →
      (∀ A' : Around, A'.handled = none → Walks P w A' I fp [I] ord.length (fun i v => ord[i]? = some v) St) → St 0 h' → (∃ ys, StrsAre ord ys ∧ ys.Perm ss) → Q (.ref I) { s with heap := h', drawn := d' }) :
    wpAny (model P w) A (pyIter (.ref S)) Q E s := by
  obtain ⟨o, es, ep, t, ho, hex, hd, hel, hss, hnd, hb, hf, hled, hpl⟩ := hS
  have ty : s.TypeIs (.ref S) "set" := ⟨o, ho, hex.1⟩
  have hlt : S < s.heap.objs.size := Heap.lt_size ho
  have hstr : ∀ l : List (Int × Value), (∀ e ∈ l, e ∈ es.toList) → StrsAre (l.map (·.2)) (l.map fun e => ft e.2) := by
    intro l
    induction l with
    | nil => intro _; exact .nil
    | cons e r ih =>
      intro hm
      obtain ⟨u, hu⟩ := qu hel (hm e (by simp))
      have := StrsAre.cons (ft e.2) u (ih fun x hx => hm x (List.mem_cons_of_mem _ hx))
      rw [← hu] at this
      exact this
  refine wpAny_pyIter_slot ty PySem.F.slot_set_iter (wpAny_call_entry PySem.F.slot_set_iter ty SF.entry_set_iter ?_ (PySem.F.args_set_iter_1 _))
  show wpAny _ _ (Builtin.Frozenset.sizeOf S >>= _) _ _ s
  unfold Builtin.Frozenset.sizeOf
  refine wpAny_bind (wpAny_bind (wpAny_setEntries_of ho hd hf (wpAny_pure ?_)))
  unfold setDrawn
  refine wpAny_bind (wpAny_bind (wpAny_setState_of ho hd hf ?_))
  dsimp only
  refine wpAny_bind (m8 (wpAny_pure ?_))
  have make : ∀ (first : Value) (T0 : Addr) (ord : List Value) (h1 : Heap) (d1 : Drawn), (∀ b ob, s.heap.get? b = some ob → h1.get? b = some ob) → s.heap.objs.size ≤ h1.objs.size → (∀ T, first = .ref T → T = T0) → T0 < h1.objs.size → (T0 = S ∨ s.heap.objs.size ≤ T0) → Ord w S es ep t h1 first 0 ord → (∃ ys, StrsAre ord ys ∧ ys.Perm ss) →
      Q (.ref h1.objs.size) { s with heap := h1.push (sw first 0 S es.size ep), drawn := d1 } := by
    intro first T0 ord h1 d1 hk hsz hT hT1 hT2 od hord
    have hne : S ≠ h1.objs.size := Nat.ne_of_lt (Nat.lt_of_lt_of_le hlt hsz)
    have szp : (h1.push (sw first 0 S es.size ep)).objs.size = h1.objs.size + 1 := Heap.size_push ..
    refine h _ d1 h1.objs.size [h1.objs.size, S, T0] ord (a3n P w S h1.objs.size T0 es ep t ord) (fun b ob e => Heap.get?_push_of_some _ (hk b ob e)) hsz (by simp) (fun b hb => ?_) (fun A' hA => ?_) ⟨first, o, Heap.get?_push_size _ rfl, Heap.get?_push_of_some _ (hk S o ho), hd, od.keep (fun T ob _ e => Heap.get?_push_of_some _ e), hT⟩ hord
    · rw [szp]
      have hb' : b = h1.objs.size ∨ b = S ∨ b = T0 := by simpa using hb
      rcases hb' with rfl | rfl | rfl
      · exact ⟨Nat.lt_succ_self _, .inr hsz⟩
      · exact ⟨Nat.lt_succ_of_lt (Nat.lt_of_lt_of_le hlt hsz), .inl rfl⟩
      · exact ⟨Nat.lt_succ_of_lt hT1, hT2⟩
    · exact zv hA _ (by simp) (by simp) hne hf hled (by simp) (Nat.ne_of_lt hT1)
  have plain0 : ∀ (ord : List Value), Ord w S es ep t s.heap (.int 0 0) 0 ord → (∃ ys, StrsAre ord ys ∧ ys.Perm ss) → Q (.ref s.heap.objs.size) { s with heap := s.heap.push (sw (.int 0 0) 0 S es.size ep) } := fun ord od hord =>
    make (.int 0 0) S ord s.heap s.drawn (fun _ _ e => e) (Nat.le_refl _) (fun T e => by cases e) hlt (.inl rfl) od hord
  cases hbt : w.params.followText "set-order" with
  | true =>
    simp only [Bool.not_true, Bool.false_and, Bool.false_eq_true, if_false]
    refine wpAny_bind (wpAny_pure (wpAny_bind (wpAny_setEpoch_of ho hd hf ?_)))
    refine wpAny_bind (wpAny_newObj_type (wpAny_pure ⟨_, rfl, "set_iterator", _, ⟨_, Heap.get?_push_size _ rfl, rfl⟩, SF.slot_next.lookup, ?_⟩))
    refine plain0 _ (.text 0 hbt) ⟨_, hstr _ (fun e he => (re _ es).mem_iff.mp he), ?_⟩
    rw [← hss]; exact (re _ es).map _
  | false =>
    show wpAny _ _ (if (!false && (!t.plain && decide (es.size > 1))) = true then _ else _) _ _ s
    by_cases h2 : es.size > 1
    · have hp0 : t.plain = false := hpl (by lia)
      rw [if_pos (by simp [hp0, h2])]
      refine wpAny_bind (jl es.size (List.range es.size) s _ (by simp) fun ps d hps => ?_)
      have hpsl : ps.length = es.size := by rw [hps.length_eq, List.length_range]
      refine wpAny_bind (wpAny_newObj_type ?_ ?_)
      · refine (wpAny_bind (wpAny_setEpoch_of (s := { s with heap := s.heap.push _, drawn := d }) (Heap.get?_push_of_some _ ho) hd hf ?_))
        refine wpAny_bind (wpAny_newObj_type (wpAny_pure ⟨_, rfl, "set_iterator", _, ⟨_, Heap.get?_push_size _ rfl, rfl⟩, SF.slot_next.lookup, ?_⟩))
        have hlp : ∀ p ∈ ps, p < es.size := fun p hp => List.mem_range.mp (hps.mem_iff.mp hp)
        refine make (.ref s.heap.objs.size) s.heap.objs.size (ps.filterMap fun p => (es[p]?).map (·.2)) (s.heap.push _) d (fun b ob e => Heap.get?_push_of_some _ e) (by rw [Heap.size_push]; exact Nat.le_succ _) (fun T e => by cases e; rfl) (by rw [Heap.size_push]; exact Nat.lt_succ_self _) (.inr (Nat.le_refl _))
          (.drawn 0 _ ps hbt ⟨_, Heap.get?_push_size _ rfl, rfl, _, rfl⟩ hlp) ?_
        have e1 : (ps.filterMap fun p => (es[p]?).map (·.2)) = (ps.filterMap fun p => es[p]?).map (·.2) := by rw [List.map_filterMap]
        have hpm : (ps.filterMap fun p => es[p]?).Perm es.toList := by
          have := hps.filterMap (fun p => es[p]?)
          have e2 := qz es.toList
          simp only [Array.getElem?_toList, Array.length_toList] at e2
          rw [e2] at this
          exact this
        refine ⟨_, by rw [e1]; exact hstr _ (fun e he => hpm.mem_iff.mp he), ?_⟩
        rw [← hss]; exact hpm.map _
      · have hz : ps.length ≤ sizeLine := by rw [hpsl]; exact fits_of_scanBound hb
        show (ps.map _).toArray.size ≤ sizeLine
        rw [List.size_toArray, List.length_map]; exact hz
    · rw [if_neg (by simp [h2])]
      refine wpAny_bind (wpAny_pure (wpAny_bind (wpAny_setEpoch_of ho hd hf ?_)))
      refine wpAny_bind (wpAny_newObj_type (wpAny_pure ⟨_, rfl, "set_iterator", _, ⟨_, Heap.get?_push_size _ rfl, rfl⟩, SF.slot_next.lookup, ?_⟩))
      by_cases h1 : es.size = 0
      · refine plain0 [] (.none 0 0 hbt h1) ⟨[], .nil, ?_⟩
        rw [← hss, Array.eq_empty_of_size_eq_zero h1]
        exact List.Perm.refl _
      · obtain ⟨e, he⟩ : ∃ e, es = #[e] := by
          obtain ⟨l⟩ := es
          have hl : l.length = 1 := by
            have a1 : ¬ l.length > 1 := h2
            have a2 : ¬ l.length = 0 := h1
            lia
          obtain ⟨e, rfl⟩ := List.length_eq_one_iff.mp hl
          exact ⟨e, rfl⟩
        refine plain0 [e.2] (.one0 e hbt he) ⟨[ft e.2], hstr [e] (fun x hx => by rw [he]; exact hx), ?_⟩
        rw [← hss, he]
        exact List.Perm.refl _
theorem uq {E : Value → Shared → Prop} {s : Shared} {S : Addr} {ss : List Str} {Q : List Value → Shared → Prop} (hh : A.handled = none) (hS : SSet P w s.heap S ss) (hl : ss.length ≤ sizeLine)
    (h : ∀ (h' : Heap) (d' : Drawn) (tk : Nat) (ord : List Value) (ys : List Str), (∀ b o, s.heap.get? b = some o → h'.get? b = some o) → s.heap.objs.size ≤ h'.objs.size → StrsAre ord ys → ys.Perm ss → Q ord { s with heap := h', drawn := d', toks := tk }) :
    wpAny (model P w) A (collect (.ref S)) Q E s := by
  obtain ⟨o, es, ep, t, ho, hex, hd, hrest⟩ := id hS
  have hlt : S < s.heap.objs.size := Heap.lt_size ho
  unfold collect
  refine wpAny_bind (wpAny_runValue (codeAny_builtin entry_proto_collect' ?_))
  rw [Around.under_plainId PySem.F.plain_proto_collect _]
  show wpAny _ A.in1 (newList [] >>= fun l => again (.builtin "list.__iadd__" ⟨[l, .ref S], []⟩)) _ _ s
  refine wpAny_bind (wpAny_newObj_type ?_)
  refine wpAny_pure ⟨plainId_quiet PySem.F.plain_list_iadd _, codeAny_builtin entry_list_iadd' ?_⟩
  rw [Around.under_plainId PySem.F.plain_list_iadd _]
  generalize hH : s.heap.push { cls := .type "list", data := .seq ([] : List Value).toArray } = H
  have hHs : H.objs.size = s.heap.objs.size + 1 := by rw [← hH, Heap.size_push]
  have old : ∀ b ob, s.heap.get? b = some ob → H.get? b = some ob := fun b ob e => by rw [← hH]; exact Heap.get?_push_of_some _ e
  have hS1 : SSet P w H S ss := hS.at fun o e => old S o e
  have hD : H.get? s.heap.objs.size = some { cls := .type "list", data := .seq #[] } := by rw [← hH]; exact Heap.get?_push_size _ rfl
  show wpAny _ A.in1 (Builtin.List.listExtendWith (.ref s.heap.objs.size) (.ref S) (.ref s.heap.objs.size)) _ _ { s with heap := H }
  unfold Builtin.List.listExtendWith
  refine wpAny_bind (wpAny_typeOf (T := "set") (v := .ref S) (show Shared.TypeIs { s with heap := H } (.ref S) "set" from ⟨o, old S o ho, hex.1⟩) ?_)
  have h1 : Builtin.List.listSameRef (.ref s.heap.objs.size) (.ref S) = false := by simp [Builtin.List.listSameRef, Nat.ne_of_gt hlt]
  have h2 : (Value.type "set" == Value.type "list") = false := by decide
  have h3 : (Value.type "set" == Value.type "tuple") = false := by decide
  simp only [h1, h2, h3, Bool.or_false, Bool.false_eq_true, if_false]
  refine wpAny_bind (wk (s := { s with heap := H }) hS1 fun h' d' I fp ord St hk hI hIf hfp W st zq => ?_)
  obtain ⟨ys, hys, hp⟩ := zq
  have ty' : Shared.TypeIs { s with heap := h', drawn := d' } (.ref S) "set" := ⟨o, hk S o (old S o ho), hex.1⟩
  refine wpAny_bind (wpAny_holding ?_)
  unfold Builtin.List.listLengthHint
  refine wpAny_bind (wpAny_specialOf (T := "set") (v := .ref S) ty' SF.set_len ?_)
  wp_delta
  refine wpAny_bind (wpAny_isInstance (T := "set") (v := .ref S) (b := true) ty' SF.sub_set ?_)
  show wpAny _ A.in1 (typeOf (Value.ref S) >>= _) _ _ _
  refine wpAny_bind (wpAny_typeOf (T := "set") (v := .ref S) ty' ?_)
  refine wpAny_pure ?_
  have hDI : s.heap.objs.size ≠ I := fun z => by
    have : H.objs.size ≤ I := hI
    rw [hHs] at this
    lia
  have hSf : s.heap.objs.size ∉ fp := fun hb => by
    rcases (hfp _ hb).2 with z | z
    · exact absurd z (Nat.ne_of_gt hlt)
    · have : H.objs.size ≤ s.heap.objs.size := z
      rw [hHs] at this
      lia
  have hlen : ord.length = ss.length := by
    have a1 : ord.length = ys.length := hys.length
    rw [a1, hp.length_eq]
  have key : ∀ (h1 : Heap) (c₁ : Nat), St 0 h1 → (∀ b ob, b ≠ s.heap.objs.size → h'.get? b = some ob → h1.get? b = some ob) → h1.get? s.heap.objs.size = some { cls := .type "list", data := .seq #[] c₁ } →
      codeAny (model P w) A (.builtin "list.extend.loop" ⟨[.ref s.heap.objs.size, .ref I, .ref s.heap.objs.size], []⟩)
        (fun r s' => r = .ok (.ret (.ref s.heap.objs.size)) ∧ ∃ acc' c', s'.heap.get? s.heap.objs.size = some { cls := .type "list", data := .seq acc' c' } ∧ Q acc'.toList s') { s with heap := h1, drawn := d' } := by
    intro h1 c₁ st1 hk1 hD1
    refine codeAny_extend_loopS (W A.in1 hh).toS (by rw [hlen]; exact hl) _ hSf _ ord.length 0 _ #[] c₁ rfl (Nat.zero_le _) st1 hD1 (ItemsOf.nil _) fun s' acc' c' hm hS' hacc => ?_
    refine ⟨rfl, acc', c', hS', ?_⟩
    have eacc : acc'.toList = ord := by
      refine List.ext_getElem? fun i => ?_
      rw [Array.getElem?_toList]
      by_cases hi : i < acc'.size
      · have e : acc'[i]? = some acc'[i] := by simp [hi]
        rw [e, hacc.2 i _ e]
      · have hi' : ord.length ≤ i := by have := hacc.1; lia
        rw [List.getElem?_eq_none hi']
        simp; lia
    have heq : s' = { s with heap := s'.heap, drawn := d', toks := s'.toks } := Moved.eq_with hm
    rw [eacc, heq]
    refine h s'.heap d' s'.toks ord ys (fun b ob e => ?_) (Nat.le_of_lt (Heap.lt_size hS')) hys hp
    have hb1 : b ≠ s.heap.objs.size := Nat.ne_of_lt (Heap.lt_size e)
    have hb2 : b ≠ I := fun z => by
      have hz : H.objs.size ≤ b := by rw [z]; exact hI
      rw [hHs] at hz
      exact Nat.lt_irrefl _ (Nat.lt_of_lt_of_le (Nat.lt_succ_of_lt (Heap.lt_size e)) hz)
    exact hm.heap b ob (by simp [hb1, hb2]) (hk1 b ob hb1 (hk b ob (old b ob e)))
  have hD' : h'.get? s.heap.objs.size = some { cls := .type "list", data := .seq #[] } := hk _ _ hD
  have fin : ∀ (h1 : Heap) (c₁ : Nat), St 0 h1 → (∀ b ob, b ≠ s.heap.objs.size → h'.get? b = some ob → h1.get? b = some ob) → h1.get? s.heap.objs.size = some { cls := .type "list", data := .seq #[] c₁ } → ∀ (R : Result → Shared → Prop),
      (∀ s' acc' c', s'.heap.get? s.heap.objs.size = some { cls := .type "list", data := .seq acc' c' } → Q acc'.toList s' → R (.ok (.ret (.ref s.heap.objs.size))) s') →
      codeAny (model P w) A (.builtin "list.extend.loop" ⟨[.ref s.heap.objs.size, .ref I, .ref s.heap.objs.size], []⟩) R { s with heap := h1, drawn := d' } := by
    intro h1 c₁ a1 a2 a3 R hR
    refine codeAny_mono (key h1 c₁ a1 a2 a3) fun r s' zq => ?_
    obtain ⟨e, acc', c', q1, q2⟩ := zq
    subst e
    exact hR s' acc' c' q1 q2
  have last : ∀ (R : Result → Shared → Prop), R = R → True := fun _ _ => trivial
  refine wpAny_ite_split (fun _ => ?_) (fun _ => wpAny_pure ⟨plainId_quiet PySem.F.plain_extend_loop _, fin h' 0 st (fun b ob _ e => e) hD' _ fun s' acc' c' q1 q2 => ?_⟩)
  · refine wpAny_bind (wpAny_rule ?_)
    refine wpAny_bind ?_
    show wpAny _ _ (updateSeq s.heap.objs.size (·.push .none) >>= fun _ => updateSeq s.heap.objs.size (·.pop)) _ _ _
    refine wpAny_bind (wpAny_updateSeq hD' rfl ?_)
    have hS₂ := Heap.get?_update_self (Obj.mapSeq (·.push Value.none)) hD' rfl
    refine wpAny_updateSeq (hz := by seq_fits) hS₂ rfl ?_
    have hS₃ := Heap.get?_update_self (Obj.mapSeq (·.pop)) hS₂ rfl
    refine wpAny_pure ⟨plainId_quiet PySem.F.plain_extend_loop _, fin _ _ ?_ (fun b ob hb e => ?_) hS₃ _ fun s' acc' c' q1 q2 => ?_⟩
    · refine (W A.in1 hh).frame 0 _ _ st fun b hb o e => ?_
      have hbS : b ≠ s.heap.objs.size := fun z => hSf (z ▸ hb)
      exact (Heap.get?_update_other _ _ (Ne.symm hbS)).trans ((Heap.get?_update_other _ _ (Ne.symm hbS)).trans e)
    · exact (Heap.get?_update_other _ _ (Ne.symm hb)).trans ((Heap.get?_update_other _ _ (Ne.symm hb)).trans e)
    · show wpAny _ A (load s.heap.objs.size >>= _) _ _ _
      exact wpAny_bind (wpAny_load q1 (wpAny_pure q2))
  · show wpAny _ A (load s.heap.objs.size >>= _) _ _ _
    exact wpAny_bind (wpAny_load q1 (wpAny_pure q2))
theorem w8 {E : Value → Shared → Prop} {s : Shared} {S : Addr} {ss : List Str} {Q : Value → Shared → Prop} (hh : A.handled = none) (hS : SSet P w s.heap S ss) (h64 : ss.length < 64)
    (h : ∀ (h' : Heap) (d' : Drawn) (tk : Nat) (l : Addr) (vs : List Value) (zs : List Str) (e : Nat), (∀ b o, s.heap.get? b = some o → h'.get? b = some o) → s.heap.objs.size ≤ l → h'.get? l = some { cls := .type "list", data := .seq vs.toArray e } → StrsAre vs zs → zs.Perm ss → sortedS zs = true →
      Q (.ref l) { s with heap := h', drawn := d', toks := tk }) :
    wpAny (model P w) A (call (.builtin "sorted") [.ref S]) Q E s := by
  refine Calls.call_function_entry kind_sorted plain_sorted entry_sorted (args_sorted1 _) ?_
  unfold Builtin.«sorted»
  refine wpAny_bind (m := checkCount "sorted" 1 1 _) (wpAny_pure ?_)
  refine wpAny_bind (uq (A := A.in1) (show A.in1.handled = none from hh) hS (by rw [sizeLine_eq]; lia) fun h1 d1 tk1 ord ys hk1 hsz1 hys hp1 => ?_)
  have hn : ord.length < 64 := by
    have : ord.length = ys.length := hys.length
    rw [this, hp1.length_eq]; exact h64
  refine wpAny_bind (wpAny_newList ?_ (by rw [sizeLine_eq]; lia))
  have hoL : (h1.push (seqObj "list" ord.toArray 0)).get? h1.objs.size = some (seqObj "list" ord.toArray 0) := Heap.get?_push_size _ rfl
  show wpAny _ _ _ _ _ { s with heap := h1.push (seqObj "list" ord.toArray 0), drawn := d1, toks := tk1 }
  refine wpAny_bind (wpAny_holding (wpAny_call_entry slot_list_sort ⟨_, hoL, rfl⟩ entry_list_sort (list_sort_treeK strKind_oneLt hoL hys.keysOf (fun v₁ v₂ rest e => keyKind_strs (by rw [← e]; exact hys)) hn fun st' a1 a2 => ⟨_, rfl, ?_⟩) (args_list_sort _)))
  obtain ⟨zs, q1, q2, q3⟩ := sorted_out_str hys a1 a2
  refine wpAny_pure ⟨_, rfl, ?_⟩
  obtain ⟨e, he⟩ := sortedHeap_at (out := (arrOf st').map (·.2)) hoL
  refine h _ d1 tk1 h1.objs.size ((arrOf st').map (·.2)).toList zs e (fun b o q => ?_) hsz1 he q1 (q2.trans hp1) q3
  have hb := Heap.lt_size (hk1 b o q)
  rw [sortedHeap_old (Nat.ne_of_lt hb) (by rw [Heap.size_push]; exact Nat.lt_succ_of_lt hb)]
  exact Heap.get?_push_of_some _ (hk1 b o q)
end
section
variable {X : Cx}
noncomputable def SetO (P : Program) (w : World) (a : Addr) (ss : List Str) : HO := .ext fun h => SSet P w h a ss
theorem rj : ∀ {xs : List Str} {us : List Value}, Vals (xs.map V.str) us → StrsAre us xs
  | [], _, h => by cases h; exact .nil
  | x :: r, _, h => by
    cases h with
    | cons h1 h2 => obtain ⟨t, rfl⟩ := h1; exact .cons x t (rj h2)
theorem rq : ∀ {us : List Value} {xs : List Str}, StrsAre us xs → Vals (xs.map V.str) us
  | _, _, .nil => .nil
  | _, _, .cons x t r => .cons ⟨t, rfl⟩ (rq r)
theorem a39 (hc : X.calm = true) : cw X (.type "set") (fun vs H Q => ∃ (a : Addr) (xs : List Str), vs = [.ref a] ∧ SqL X.K H a (xs.map V.str) ∧ xs.length + 1 < scanBound ∧
    ∀ p ss, H p = none → Dd xs ss → Q (.ref p) (upd H p (SetO X.prog X.w p ss))) := by
  intro pins s σ H vs us Q I r h
  obtain ⟨a, xs, rfl, hq, hz, q⟩ := h
  obtain ⟨u, rfl, ru⟩ := r.one
  cases ru
  obtain ⟨its, rv, p, _⟩ := I.list hq
  have hs := rj rv
  have hl : its.length = xs.length := hs.length
  refine sk (I.ok.hd hc) p.isList (by simpa using hs) (by rw [List.size_toArray, hl]; exact hz) fun h' tk ss hS hd hk => ?_
  have fr : H s.heap.objs.size = none := I.hok.fresh (Nat.le_refl _)
  refine ⟨.ref s.heap.objs.size, upd H s.heap.objs.size (SetO X.prog X.w s.heap.objs.size ss), I.laid (t' := tk) (fun b o e => hk b o (Heap.lt_size e) e) (Nat.le_refl _) ⟨hS, ?_, fun h1 h2 h3 k => ?_⟩, rfl, q _ ss fr hd⟩
  · obtain ⟨o, _, _, _, ho, _⟩ := hS; exact ⟨o, ho⟩
  · exact SSet.at h3 k
theorem pf (hc : X.calm = true) : cw X (.builtin "sorted") (fun vs H Q => ∃ (a : Addr) (ss : List Str), vs = [.ref a] ∧ H a = some (SetO X.prog X.w a ss) ∧ ss.length < 64 ∧
    ∀ p zs, H p = none → zs.Perm ss → sortedS zs = true → Q (.ref p) (upd H p (.lst (zs.map V.str)))) := by
  intro pins s σ H vs us Q I r h
  obtain ⟨a, ss, rfl, hq, hz, q⟩ := h
  obtain ⟨u, rfl, ru⟩ := r.one
  cases ru
  have hS : SSet X.prog X.w s.heap a ss := (I.hok a _ hq).1
  refine w8 (I.ok.hd hc) hS hz fun h' d' tk l ws zs e hk hl hget hs hp hso => ?_
  have fr : H l = none := I.hok.fresh hl
  have hzl : zs.length < 64 := by rw [hp.length_eq]; exact hz
  have ok' : HOk X.prog X.w (upd H l (.lst (zs.map V.str))) h' := I.hok.laid (a := l) (o := .lst (zs.map V.str)) hk hl ⟨by rw [List.length_map]; exact Nat.le_of_lt (fe (by lia)), ws, e, rq hs, hget⟩
  have un : Un (frs X.stack) [] H (upd H l (.lst (zs.map V.str))) s.heap h' := Un.laid hk hl fr
  exact ⟨.ref l, _, I.call (g' := s.gens) (d' := d') (t' := tk) (ch := []) un ok' I.bare (fun b z => absurd z (by simp)), rfl, q l zs fr hp hso⟩
end
end L2
namespace L2
open PySem PySem.Spec PyProof.Rows
noncomputable def CXE (P : Program) (w : World) (base : Heap) : CXT := fun outer H s E e s' =>
  ∃ (a : Addr) (cls a0 : Value) (H' : Hp) (B : Heap), e = .ref a ∧ s'.os = s.os ∧ AllBare s'.gens ∧ Un (frs outer) [] H H' s.heap s'.heap ∧ HOk P w H' s'.heap ∧ H' a = none ∧ s.heap.get? a = none ∧
    Heap.FlyingW B outer a cls a0 s'.heap ∧ (∀ b o, s.heap.get? b = some o → H b = none → b ∉ frs outer → B.get? b = some o) ∧ (∀ b u, H' b = some u → ∀ o, s'.heap.get? b = some o → B.get? b = some o) ∧
    (∀ b o, s.heap.get? b = some o → b ∉ frs outer → ∃ o', B.get? b = some o') ∧ E cls none H'
theorem ObjOk.there {P : Program} {w : World} {H : Hp} {h : Heap} {a : Addr} {o : HO} (x : ObjOk P w H h a o) : ∃ ob, h.get? a = some ob := by
  cases o with
  | lst xs => obtain ⟨_, _, _, _, e⟩ := x; exact ⟨_, e⟩
  | tup xs => obtain ⟨_, _, _, o, e, _⟩ := x; exact ⟨_, e⟩
  | dK kvs => obtain ⟨_, _, _, _, o, _, _, e, _⟩ := x; exact ⟨_, e⟩
  | dT kvs => obtain ⟨_, _, _, _, o, _, _, e, _⟩ := x; exact ⟨_, e⟩
  | set S n => obtain ⟨o, _, _, _, e, _⟩ := x; exact ⟨_, e⟩
  | ins C dx fs => obtain ⟨_, _, _, e, _⟩ := x; exact ⟨_, e⟩
  | own y => obtain ⟨_, e⟩ := x; exact ⟨_, e⟩
  | xd fs => obtain ⟨_, ⟨_, _, _, e, _⟩, _⟩ := x; exact ⟨_, e⟩
  | rng lo hi => obtain ⟨_, _, _, e⟩ := x; exact ⟨_, e⟩
  | frz ob u => obtain ⟨e, _⟩ := x; exact ⟨_, e⟩
  | tbl ps => exact ⟨_, (show h.get? a = some _ from x)⟩
  | met f y => exact ⟨_, (show h.get? a = some _ from x)⟩
  | ext φ => obtain ⟨_, e, _⟩ := x; exact e
section
variable {P : Program} {w : World} {K : PySem.W.Frag} {mg : Str → Option Value} {base : Heap} {N : List Str} {qual : Str} {scope : Scope} {f : Addr} {cd : Value} {A : Around} {outer : List Env} {s₀ : Shared} {H₀ : Hp} {E : XK}
theorem HOk.stays {H : Hp} {h h' B : Heap} (ok : HOk P w H h) (hB : ∀ b u, H b = some u → ∀ o, h.get? b = some o → B.get? b = some o) (st : B.StaysIn h') : HOk P w H h' := fun a o e =>
  (ok a o e).stay (fun b u hb q => by
    rcases hb with rfl | hb
    · exact st b u (hB b o e u q)
    · exact st b u (hB b _ hb u q)) (fun _ q => q) fun _ _ q => q
theorem xb (hk : scope.kind = .function) : jr (CXE P w base) (cxOf (CXE P w base) P w K mg base N qual scope f cd A outer s₀ H₀ E) E := by
  intro pins σ H s e s' I c
  obtain ⟨a, cls, a0, H', B, rfl, hos, hbare, un, hok, hna, hsz, fl, old, trk, thr, hE⟩ := c
  have hlt : s₀.heap.objs.size ≤ s.heap.objs.size := I.sz
  show wpAny (model P w) (A.deeper (envOfC qual scope s₀.heap.objs.size f cd)) (leaving (envOfC qual scope s₀.heap.objs.size f cd) (.ref a)) _ _ s'
  refine wpAny_leaves_onW (L := s₀.heap.objs.size) (I.ok.frames) rfl fl fun h' fl' sm => ?_
  have st : B.StaysIn h' := fl'.1
  have newA : s₀.heap.get? a = none := by
    cases q : s₀.heap.get? a with
    | none => rfl
    | some o =>
      obtain ⟨o', e'⟩ := I.base.there a o q (fun z => absurd (show a ∈ ([] : List Addr) from z) (by simp))
      rw [hsz] at e'; cases e'
  have nofr : ∀ b o, s₀.heap.get? b = some o → b ∉ frs outer → b ∉ frs (cxOf (CXE P w base) P w K mg base N qual scope f cd A outer s₀ H₀ E).stack := fun b o e hb z => by
    rcases List.mem_cons.mp (I.stkSub b z) with q | q
    · have : b = s₀.heap.objs.size := q
      exact absurd (Heap.lt_size e) (by rw [this]; exact Nat.lt_irrefl _)
    · exact hb q
  have nex : ∀ b, b ∉ (cxOf (CXE P w base) P w K mg base N qual scope f cd A outer s₀ H₀ E).ex := fun b z => absurd (show b ∈ ([] : List Addr) from z) (by simp)
  have inB : ∀ b o, s₀.heap.get? b = some o → H₀ b = none → b ∉ frs outer → B.get? b = some o := fun b o e n hb => old b o (I.base.keep b o e n hb (nex b)) (I.base.free b o e n (nex b)) (nofr b o e hb)
  have slots : ∀ b o, s₀.heap.get? b = some o → H₀ b = none → b ∈ frs outer → ∃ sl, h'.get? b = some { o with slots := sl } := fun b o e n hb => by
    obtain ⟨sl, e1⟩ := I.base.slot b o e n hb (nex b)
    have hin : b ∈ frs (cxOf (CXE P w base) P w K mg base N qual scope f cd A outer s₀ H₀ E).stack := by
      show b ∈ List.filterMap (·.frame) (envOfC qual scope s₀.heap.objs.size f cd :: outer)
      exact List.mem_filterMap.mpr (by
        obtain ⟨x, hx, hf⟩ := List.mem_filterMap.mp hb
        exact ⟨x, List.mem_cons_of_mem _ hx, hf⟩)
    obtain ⟨sl2, e2⟩ := un.slot b _ e1 (I.base.free b o e n (nex b)) hin (by simp)
    have hnf : ∀ vs, o.data ≠ .fields vs := by
      obtain ⟨_, o', ho', hd'⟩ := I.ok.funs.mem hb
      have ho'' : s₀.heap.get? b = some o' := ho'
      rw [e] at ho''; cases ho''
      exact hd'
    obtain ⟨sl3, e3⟩ := sm b _ e2 (by intro vs z; exact hnf vs z)
    exact ⟨sl3, e3⟩
  refine ⟨a, cls, a0, H', B, rfl, hos.trans I.os, hbare, ⟨fun b o e n hb _ => st b o (inB b o e n hb), fun b o e n hb _ => ?_, fun b o e n _ => un.free b _ (Classical.choose_spec (I.base.there b o e (nex b))) (I.base.free b o e n (nex b)) (by simp), fun b o e _ => ?_, fun b xs e => un.tups b xs (I.base.tups b xs e), fun b o xs e => un.frzs b o xs (I.base.frzs b o xs e), fun b ps e => ?_⟩,
    HOk.stays hok trk st, hna, newA, fl', inB, fun b u e o ho => ?_, fun b o e hb => ?_, hE⟩
  · exact slots b o e n hb
  · obtain ⟨o1, e1⟩ := I.base.there b o e (nex b)
    by_cases hb : b ∈ frs outer
    · obtain ⟨sl, e2⟩ := slots b o e (I.ok.frf b hb) hb
      exact ⟨_, e2⟩
    · obtain ⟨o2, e2⟩ := thr b o1 e1 (nofr b o e hb)
      exact ⟨o2, st b o2 e2⟩
  · obtain ⟨m1, e1⟩ := I.base.tbls b ps e
    obtain ⟨m2, e2⟩ := un.tbls b _ e1
    exact ⟨m1 ++ m2, by rw [e2, Array.append_assoc]⟩
  · have h1 := (hok b u e).lt
    obtain ⟨o1, ho1⟩ := (hok b u e).there
    have h3 := trk b u e o1 ho1
    have h4 := st b o1 h3
    have ho' : h'.get? b = some o := ho
    rw [h4] at ho'; cases ho'
    exact h3
  · obtain ⟨o1, e1⟩ := I.base.there b o e (nex b)
    exact thr b o1 e1 (nofr b o e hb)
end
noncomputable def vi (X : Cx) (E : XK) : Prop := ∀ (pins : List (Addr × Obj)) (σ : St) (H : Hp) (s : Shared) (h' : Heap) (e : Addr) (cls : Value) (vs : List Value), Inv X pins σ H s → Heap.MadeExcOf s.heap h' e cls vs → E cls none H → X.xe (.ref e) { s with heap := h' }
section
variable {P : Program} {w : World} {K : PySem.W.Frag} {mg : Str → Option Value} {base : Heap} {N : List Str} {qual : Str} {scope : Scope} {f : Addr} {cd : Value} {A : Around} {outer : List Env} {s₀ : Shared} {H₀ : Hp} {E : XK}
theorem a2k {h : Heap} {as : List Addr} {b : Addr} {o : Obj} (e : (PySem.W.hideAll h as).get? b = some o) : h.get? b = some o ∧ b ∉ as := by
  refine ⟨PySem.W.of_hideAll _ e, fun hm => ?_⟩
  rw [PySem.W.hideAll_none as hm] at e
  cases e
theorem zt : vi (cxOf (CXE P w base) P w K mg base N qual scope f cd A outer s₀ H₀ E) E := by
  intro pins σ H s h' e cls vs I mk hE
  have hnew : s.heap.get? e = none := mk.new
  have stack : (cxOf (CXE P w base) P w K mg base N qual scope f cd A outer s₀ H₀ E).stack = envOfC qual scope s₀.heap.objs.size f cd :: outer := rfl
  have hin : ∀ env ∈ (envOfC qual scope s₀.heap.objs.size f cd :: outer), ∀ b, env.frame = some b → b ∈ frs (envOfC qual scope s₀.heap.objs.size f cd :: outer) := fun env he b hb => List.mem_filterMap.mpr ⟨env, he, hb⟩
  have hfn : ∀ b ∈ frs (envOfC qual scope s₀.heap.objs.size f cd :: outer), H b = none := fun b hb => I.stkFree b hb
  have nex : ∀ b, b ∉ (cxOf (CXE P w base) P w K mg base N qual scope f cd A outer s₀ H₀ E).ex := fun b z => absurd (show b ∈ ([] : List Addr) from z) (by simp)
  have newE : s₀.heap.get? e = none := by
    cases q : s₀.heap.get? e with
    | none => rfl
    | some o =>
      obtain ⟨o', e'⟩ := I.base.there e o q (nex e)
      rw [hnew] at e'; cases e'
  have hHe : H e = none := by
    cases q : H e with
    | none => rfl
    | some u =>
      obtain ⟨o', e'⟩ := (I.hok e u q).there
      rw [hnew] at e'; cases e'
  show wpAny (model P w) (A.deeper (envOfC qual scope s₀.heap.objs.size f cd)) (leaving (envOfC qual scope s₀.heap.objs.size f cd) (.ref e)) _ _ { s with heap := h' }
  refine wpAny_leaves_madeW (s := { s with heap := h' }) (base := PySem.W.hideAll s.heap (frs (envOfC qual scope s₀.heap.objs.size f cd :: outer))) (h := s.heap) (L := s₀.heap.objs.size) I.ok.frames rfl (fun b o q => (a2k q).1)
    (PySem.W.funFrames_hide I.stack hin) mk fun h2 t fl tup tn sm => ?_
  have st : (PySem.W.hideAll s.heap (frs (envOfC qual scope s₀.heap.objs.size f cd :: outer))).StaysIn h2 := fl.1
  have nofr : ∀ b o, s₀.heap.get? b = some o → b ∉ frs outer → b ∉ frs (envOfC qual scope s₀.heap.objs.size f cd :: outer) := fun b o q hb z => by
    rcases List.mem_cons.mp (I.stkSub b z) with p | p
    · have : b = s₀.heap.objs.size := p
      exact absurd (Heap.lt_size q) (by rw [this]; exact Nat.lt_irrefl _)
    · exact hb p
  have trk : ∀ b u, H b = some u → ∀ o, s.heap.get? b = some o → (PySem.W.hideAll s.heap (frs (envOfC qual scope s₀.heap.objs.size f cd :: outer))).get? b = some o := fun b u q o ho => PySem.W.hideAll_get _ ho fun z => by
    rw [hfn b z] at q; cases q
  have inB : ∀ b o, s₀.heap.get? b = some o → H₀ b = none → b ∉ frs outer → (PySem.W.hideAll s.heap (frs (envOfC qual scope s₀.heap.objs.size f cd :: outer))).get? b = some o := fun b o q n hb =>
    PySem.W.hideAll_get _ (I.base.keep b o q n hb (nex b)) (nofr b o q hb)
  have slots : ∀ b o, s₀.heap.get? b = some o → H₀ b = none → b ∈ frs outer → ∃ sl, h2.get? b = some { o with slots := sl } := fun b o q n hb => by
    obtain ⟨sl, e1⟩ := I.base.slot b o q n hb (nex b)
    have hnf : ∀ vs, o.data ≠ .fields vs := by
      obtain ⟨_, o', ho', hd'⟩ := I.ok.funs.mem hb
      have ho'' : s₀.heap.get? b = some o' := ho'
      rw [q] at ho''; cases ho''
      exact hd'
    obtain ⟨sl3, e3⟩ := sm b _ (mk.keeps b _ e1) (by intro vs z; exact hnf vs z)
    exact ⟨sl3, e3⟩
  have thr : ∀ b o, s₀.heap.get? b = some o → b ∉ frs outer → ∃ o', (PySem.W.hideAll s.heap (frs (envOfC qual scope s₀.heap.objs.size f cd :: outer))).get? b = some o' := fun b o q hb => by
    obtain ⟨o1, e1⟩ := I.base.there b o q (nex b)
    exact ⟨o1, PySem.W.hideAll_get _ e1 (nofr b o q hb)⟩
  refine ⟨e, cls, .ref t, H, _, rfl, I.os, I.bare, ⟨fun b o q n hb _ => st b o (inB b o q n hb), fun b o q n hb _ => slots b o q n hb, fun b o q n _ => I.base.free b o q n (nex b), fun b o q _ => ?_, I.base.tups, I.base.frzs, I.base.tbls⟩,
    HOk.stays I.hok trk st, hHe, newE, fl, inB, fun b u q o ho => ?_, thr, hE⟩
  · by_cases hb : b ∈ frs outer
    · obtain ⟨sl, e2⟩ := slots b o q (I.ok.frf b hb) hb
      exact ⟨_, e2⟩
    · obtain ⟨o2, e2⟩ := thr b o q hb
      exact ⟨o2, st b o2 e2⟩
  · obtain ⟨o1, ho1⟩ := (I.hok b u q).there
    have h3 := trk b u q o1 ho1
    have h4 := st b o1 h3
    have ho' : h2.get? b = some o := ho
    rw [h4] at ho'; cases ho'
    exact h3
end
theorem a4s {K : PySem.W.Frag} {h : Heap} {C : Addr} {bmB : List Value} {newId : String} (X : K.In h) (q : PySem.W.excIn K C bmB newId = true) :
    ∃ bm N nm q bs hdct sn sub ab col dd k0 k1 k2 k3 k5 mN, h.get? C = some (excClassObj nm q C N bs bm hdct sn sub ab col dd k0 k1 k2 k3 k5 newId) ∧ h.Ns N mN ∧ mN "__init__" = none ∧ OwnTail h bmB bm := by
  unfold PySem.W.excIn at q
  split at q
  · rename_i dd cd sl ho
    split at q
    · rename_i C' bm k0 k1 k2 k3 n k5 hm hs
      simp only [Bool.and_eq_true, beq_iff_eq, Bool.not_eq_true'] at q
      obtain ⟨⟨⟨⟨⟨rfl, rfl⟩, hdel⟩, ht⟩, hok⟩, hni⟩ := q
      obtain ⟨nm, bs, mro, ns, qn, hd, sn, sub, ab, col, del⟩ := cd
      dsimp only at hm hdel hok hni
      subst hm hdel
      have hsl : sl = #[k0, k1, k2, k3, some (.builtin n), k5] := by
        obtain ⟨l⟩ := sl
        simp only at hs
        rw [hs]
      subst hsl
      exact ⟨bm, ns, nm, qn, bs, hd, sn, sub, ab, col, dd, k0, k1, k2, k3, k5, _, X _ _ ho, .of_isNs (PySem.W.isNs_of_in X hok), PySem.W.nsMap_none_of_in X hok hni, PySem.W.tail_of_in X ht⟩
    · cases q
  · cases q
noncomputable def zu (C : Addr) (E : XK) (t : TA) : TS := fun _ σ H => t σ H fun vs H1 => vs.length ≤ sizeLine ∧ E (.ref C) none H1
section
variable {X : Cx} {E : XK} {x : Str} {C : Addr} {B newId initId : String} {bmB : List Value} {np cpos pos : Pos} {e : Expr} {es : List Expr} {t : TA}
theorem a2i (hR : vi X E) (hc : X.calm = true) (FB : ExcBaseFacts B newId initId bmB) (hg : Gl X x) (hm : X.mg x = some (.ref C)) (hC : PySem.W.excIn X.K C bmB newId = true) (ha : PA X (e :: es) t)
    (hdb : (x == ("__debug__" : Str)) = false := by decide) (he : starEach (e :: es) X.env = (false, eval e X.env) :: starEach es X.env := by rfl) (hpl : (backTo cpos (starEach es X.env)).any (·.1) = false := by rfl) :
    PS X (.Raise (some (.Call (.Name x np) (e :: es) [] cpos)) none pos) (zu C E t) := by
  intro pins s σ H D I h
  obtain ⟨tl, N, nm, q, bs, hdct, sn, sub, ab, col, dd, k0, k1, k2, k3, k5, mN, hCo, hN, hni, T⟩ := a4s I.ok.mod.kin hC
  refine wpAny_Raise_call_subT (C := C) (nm := nm) (q := q) (N := N) (bs := bs) (bm := tl) (hdct := hdct) (sn := sn) (sub := sub) (ab := ab) (col := col) (dd := dd) (k0 := k0) (k1 := k1) (k2 := k2) (k3 := k3) (k5 := k5)
    FB (mN := mN) (T.hasType FB.hasBase) (I.ok.hd hc) (by rw [he]; show (false || (backTo cpos (starEach es X.env)).any (·.1)) = false; rw [hpl]; rfl) hni (qb I hg hm ⟨rfl, ?_⟩ hdb)
  have key := ha cpos pins s σ H _ I h
  rw [he] at key ⊢
  refine Calls.evalArgs_plain (wpAny_mono key (fun us s2 h2 => ?_) fun _ _ y => y)
  obtain ⟨vs, H1, I1, r, hz, hE⟩ := h2
  exact ⟨rfl, by rw [← r.length]; exact hz, I1.bk _ _ hCo, hN.keeps I1.bk, T.keeps I1.bk, fun h' ea mk => hR pins σ H1 s2 h' ea _ _ I1 mk hE⟩
end
end L2
namespace L2
open PySem PySem.Spec PyProof.Rows
section
variable {X : Cx} {pins₀ : List (Addr × Obj)} {E : XK}
end
section
variable {X : Cx} {E : XK} {c n : Str} {C : Addr} {i : Nat} {body suite : List Stmt} {b₀ : Stmt} {tb ts : TS} {np hpos pos : Pos}
end
end L2
namespace L2
open PySem PySem.Spec PyProof.Rows PySem.Builtin PySem.Builtin.ObjectAttr PySem.Builtin.Getset_descriptor
section
variable {prog : Program} {w : World} {A : Around} {E : Value → Shared → Prop} {h : Heap} {g : Array GenState} {d : Drawn} {t : Nat} {os : OsState} {K : PySem.W.Frag} {a C : Addr} {o : Obj}
end
section
variable {X : Cx}
end
end L2
namespace L2
open PySem PySem.Spec PyProof.Rows
mutual
inductive Dp (K : PySem.W.Frag) (H : Hp) : V → PyData → Prop
  | non : Dp K H .non .none
  | bl (b : Bool) : Dp K H (.bl b) (.bool b)
  | int (i : Int) : Dp K H (.int i) (.int i)
  | str (x : Str) : Dp K H (.str x) (.str x)
  | lst {a : Addr} {xs : List V} {ds : List PyData} : SqL K H a xs → DpAll K H xs ds → Dp K H (.ref a) (.list ds)
  | tup {a : Addr} {xs : List V} {ds : List PyData} : SqT K H a xs → DpAll K H xs ds → Dp K H (.ref a) (.tuple ds)
inductive DpAll (K : PySem.W.Frag) (H : Hp) : List V → List PyData → Prop
  | nil : DpAll K H [] []
  | cons {v : V} {vs : List V} {d : PyData} {ds : List PyData} : Dp K H v d → DpAll K H vs ds → DpAll K H (v :: vs) (d :: ds)
end
section
variable {X : Cx} {pins : List (Addr × Obj)} {σ : St} {H : Hp} {s : Shared}
mutual
theorem Dp.reads (I : Inv X pins σ H s) : ∀ {v : V} {d : PyData}, Dp X.K H v d → ∀ {u : Value}, RelV v u → ∃ as, Reads s.heap u d as
  | _, _, .non, _, r => by cases r; exact ⟨_, .none⟩
  | _, _, .bl b, _, r => by cases r; exact ⟨_, .bool b⟩
  | _, _, .int i, _, r => by obtain ⟨t, rfl⟩ := r; exact ⟨_, .int i t⟩
  | _, _, .str x, _, r => by obtain ⟨t, rfl⟩ := r; exact ⟨_, .str x t⟩
  | _, _, .lst hs ha, _, r => by
    cases r
    obtain ⟨its, rv, ⟨o, n, e, hc, _, hd⟩, _⟩ := I.list hs
    obtain ⟨as, ra⟩ := DpAll.reads I ha rv
    exact ⟨_, .list e hc hd (by simpa using ra)⟩
  | _, _, .tup hs ha, _, r => by
    cases r
    obtain ⟨its, rv, ⟨o, e, hc, n, hd⟩, _⟩ := I.tuple hs
    obtain ⟨as, ra⟩ := DpAll.reads I ha rv
    exact ⟨_, .tuple e hc hd (by simpa using ra)⟩
theorem DpAll.reads (I : Inv X pins σ H s) : ∀ {vs : List V} {ds : List PyData}, DpAll X.K H vs ds → ∀ {us : List Value}, Vals vs us → ∃ as, ReadsAll s.heap us ds as
  | _, _, .nil, _, r => by cases r; exact ⟨_, .nil⟩
  | _, _, .cons h1 h2, _, r => by
    cases r with
    | cons r1 r2 =>
      obtain ⟨as, q1⟩ := Dp.reads I h1 r1
      obtain ⟨bs, q2⟩ := DpAll.reads I h2 r2
      exact ⟨_, .cons q1 q2⟩
end
end
noncomputable def EqOk (d : PyData) : Prop := d.canLay0 = true ∧ d.depth ≤ 16
section
variable {X : Cx}
inductive rNeDS (K : PySem.W.Frag) (x y : V) (H : Hp) (Q : VK) : Prop
  | mk (dx dy : PyData) (h0 : Dp K H x dx) (h1 : Dp K H y dy) (h2 : EqOk dx) (h3 : EqOk dy) (h4 : Q (.bl (!PyData.eqv dx dy)) H) : rNeDS K x y H Q
noncomputable def rNeD (K : PySem.W.Frag) : R2 := fun x y H Q => rNeDS K x y H Q
theorem a5d (hu : X.A.units + 32 < cLine) : OpR X (compareOp .NotEq) (rNeD X.K) := by
  intro pins s σ H x y v u Q I rx ry h
  obtain ⟨dx, dy, h1, h2, o1, o2, q⟩ := h
  obtain ⟨as, ra⟩ := Dp.reads I h1 rx
  obtain ⟨bs, rb⟩ := Dp.reads I h2 ry
  exact SeqAt.compareNe_reads ra rb o1.1 o2.1 (by have := o1.2; have := Nat.min_le_left dx.depth dy.depth; lia) ⟨.bl _, H, I, rfl, q⟩
end
noncomputable def mz (r : List Str) : List PyData := r.map .str
noncomputable def dRow (r : List Str) : PyData := .tuple (mz r)
noncomputable def RowAt (K : PySem.W.Frag) (H : Hp) (a : Addr) (r : List Str) : Prop := SqT K H a (r.map V.str)
inductive RowsAtS (K : PySem.W.Frag) (H : Hp) (a : Addr) (rs : List (List Str)) : Prop
  | mk (as : List Addr) (h0 : H a = some (.lst (as.map V.ref))) (h1 : Paired (fun b r => RowAt K H b r) as rs) : RowsAtS K H a rs
noncomputable def RowsAt (K : PySem.W.Frag) (H : Hp) (a : Addr) (rs : List (List Str)) : Prop := RowsAtS K H a rs
inductive TellAtS (K : PySem.W.Frag) (H : Hp) (a : Addr) (rss : List (List (List Str))) : Prop
  | mk (as : List Addr) (h0 : SqT K H a (as.map V.ref)) (h1 : Paired (fun b rs => RowsAt K H b rs) as rss) : TellAtS K H a rss
noncomputable def TellAt (K : PySem.W.Frag) (H : Hp) (a : Addr) (rss : List (List (List Str))) : Prop := TellAtS K H a rss
theorem Same.seqT {K : PySem.W.Frag} {H H' : Hp} {a : Addr} {xs : List V} (e : Same H H') (h : SqT K H a xs) : SqT K H' a xs := by
  rcases h with (h | ⟨o, h⟩) | h
  · exact .inl (.inl (e _ _ h))
  · exact .inl (.inr ⟨o, e _ _ h⟩)
  · exact .inr h
theorem RowAt.same {K : PySem.W.Frag} {H H' : Hp} {a : Addr} {r : List Str} (h : RowAt K H a r) (e : Same H H') : RowAt K H' a r := e.seqT h
theorem RowsAt.same {K : PySem.W.Frag} {H H' : Hp} {a : Addr} {rs : List (List Str)} (h : RowsAt K H a rs) (e : Same H H') : RowsAt K H' a rs := by
  obtain ⟨as, h1, h2⟩ := h
  exact ⟨as, e _ _ h1, Paired.mapP h2 fun b r z => z.same e⟩
theorem TellAt.same {K : PySem.W.Frag} {H H' : Hp} {a : Addr} {rss : List (List (List Str))} (h : TellAt K H a rss) (e : Same H H') : TellAt K H' a rss := by
  obtain ⟨as, h1, h2⟩ := h
  exact ⟨as, e.seqT h1, Paired.mapP h2 fun b r z => z.same e⟩
theorem wu {K : PySem.W.Frag} {H : Hp} : ∀ r : List Str, DpAll K H (r.map V.str) (mz r)
  | [] => .nil
  | x :: r => .cons (.str x) (wu r)
theorem RowAt.dp {K : PySem.W.Frag} {H : Hp} {a : Addr} {r : List Str} (h : RowAt K H a r) : Dp K H (.ref a) (dRow r) := .tup h (wu r)
theorem qm {K : PySem.W.Frag} {H : Hp} : ∀ {as : List Addr} {rs : List (List Str)}, Paired (fun b r => RowAt K H b r) as rs → DpAll K H (as.map V.ref) (rs.map dRow)
  | _, _, .nil => .nil
  | _, _, .cons h1 h2 => .cons h1.dp (qm h2)
theorem RowsAt.dp {K : PySem.W.Frag} {H : Hp} {a : Addr} {rs : List (List Str)} (h : RowsAt K H a rs) : Dp K H (.ref a) (.list (rs.map dRow)) := by
  obtain ⟨as, h1, h2⟩ := h
  exact .lst (SqL.of h1) (qm h2)
theorem ad {H : Hp} {p : Addr} (h : H p = none) (o : HO) : Same H (upd H p o) := fun b u q => by rw [ah (aj q h)]; exact q
end L2
namespace L2
open PySem PySem.Spec PyProof.Rows
section
variable {X : Cx} {o e : Expr} {to : TE} {t : TA} {apos cpos : Pos}
end
end L2
namespace L2
open PySem PySem.Spec PyProof.Rows PySem.Builtin PySem.Builtin.Str
section
variable {X : Cx}
end
end L2
namespace L2
open PySem PySem.Spec PyProof.Rows
noncomputable def Glob (mg : Str → Option Value) (x : Str) (v : V) : Prop := ∃ u, mg x = some u ∧ RelV v u
theorem pe_g {X : Cx} {x : Str} {v : V} {pos : Pos} (h : Glob X.mg x v) (hg : Gl X x := by rfl) (hd : (x == ("__debug__" : Str)) = false := by decide) : PE X (.Name x pos) (tC v) := by
  obtain ⟨u, hm, r⟩ := h
  exact a48 hg hm r hd
theorem u9 {sc : Scope} {env : Env} (hfree : ∀ y ∈ sc.names, y.2 ≠ .free) (hcell : ∀ y ∈ sc.names, y.2 ≠ .cell) (y : Str) (h : (relabel sc env).names.lookup y = some .cell ∨ (relabel sc env).names.lookup y = some .free) : False := by
  have key : ∀ k, (relabel sc env).names.lookup y = some k → ∃ z ∈ sc.names, z.2 = k ∨ z.2 = .free := fun k e => by
    have hm := PySem.mem_of_lookup e
    obtain ⟨z, hz, ez⟩ := List.mem_map.mp hm
    refine ⟨z, hz, ?_⟩
    obtain ⟨n, kk⟩ := z
    dsimp only at ez
    split at ez
    · rename_i hc
      simp only [Bool.and_eq_true, beq_iff_eq] at hc
      exact .inr hc.1.1
    · exact .inl (congrArg Prod.snd ez)
  rcases h with h | h
  · obtain ⟨z, hz, q | q⟩ := key _ h
    · exact hcell z hz q
    · exact hfree z hz q
  · obtain ⟨z, hz, q | q⟩ := key _ h
    · exact hfree z hz q
    · exact hfree z hz q
theorem vz {X : Cx} {elt iter : Expr} {x : Str} {px pos : Pos} {ifs : List Expr} {sc : Scope} {wi : TI} {tc : TT} {te : TE} (hi : PI X (.Name x px) iter wi) (hif : ∀ s H C ex, PTs (blk X [x] s H sc [] C ex) ifs tc) (he : ∀ s H C ex, PE (blk X [x] s H sc [] C ex) elt te)
    (hc : X.calm = true := by rfl) (hkind : sc.kind = .function := by rfl) (hx : sc.names.lookup x = some .local := by decide +kernel) (hfree : ∀ y ∈ sc.names, y.2 ≠ .free := by decide +kernel) (hcell : ∀ y ∈ sc.names, y.2 ≠ .cell := by decide +kernel)
    (hnames : ∀ y ∈ sc.names, y.2 = .local → sc.names.lookup y.1 = some .local := by decide +kernel) (hs : ∀ x, foldedSetIterable iter X.env x = pure x := by intro _; rfl) :
    PE X (.ListComp elt [⟨.Name x px, iter, ifs, 0⟩] sc pos) (lb [] wi tc te) :=
  qg [x] hc hi hif he hkind rfl (by simp) hx (PySem.closureFor_none hfree) hcell hnames (fun y c e => by simp at e) (fun y h => (u9 hfree hcell y h).elim) (fun j hj => by simp at hj) hs
structure JSeq (J : It) (I0 : Hp → Prop) (xs : List V) : Prop where
  go : ∀ i H, I0 H → i < xs.length → J.go i H
  stop : ∀ i H, I0 H → xs.length ≤ i → J.stop i H
  yld : ∀ i H x H', i < xs.length → I0 H → J.yld i H x H' → H' = H ∧ xs[i]? = some x
  stay : ∀ H H', I0 H → Same H H' → I0 H'
theorem a1r {K : PySem.W.Frag} {a : Addr} {xs : List V} : JSeq (Itt K a) (fun H => SqT K H a xs) xs where
  go := fun i H h hi => ⟨xs, xs[i], h, by simp [hi]⟩
  stop := fun i H h hi => ⟨xs, h, hi⟩
  yld := fun i H x H' _ h y => ⟨y.1, y.2 xs h⟩
  stay := fun H H' h e => e.seqT h
theorem gx {K : PySem.W.Frag} {a : Addr} {xs : List V} : JSeq (Itl K a) (fun H => SqL K H a xs) xs where
  go := fun i H h hi => ⟨xs, xs[i], h, by simp [hi]⟩
  stop := fun i H h hi => ⟨xs, h, hi⟩
  yld := fun i H x H' _ h y => ⟨y.1, y.2 xs h⟩
  stay := fun H H' h e => e.seq h
noncomputable def signs (z : Str) : List V := z.cps.toList.map fun c => V.str ⟨#[c]⟩
noncomputable def nums (lo : Int) (n : Nat) : List V := (List.range n).map fun i => V.int (lo + (i : Nat))
theorem om {lo : Int} {n : Nat} : JSeq (Itr lo n) (fun _ => True) (nums lo n) where
  go := fun i H _ hi => by simpa [nums, Itr] using hi
  stop := fun i H _ hi => by simpa [nums, Itr] using hi
  yld := fun i H x H' hi _ y => by
    refine ⟨y.1, ?_⟩
    have hi' : i < n := by simpa [nums] using hi
    have e : x = .int (lo + i) := y.2
    unfold nums
    rw [List.getElem?_map, List.getElem?_range hi', e]; rfl
  stay := fun _ _ _ _ => trivial
theorem Paired.snocP {α β : Type} {F : α → β → Prop} {x : α} {y : β} : ∀ {l₁ : List α} {l₂ : List β}, Paired F l₁ l₂ → F x y → Paired F (l₁ ++ [x]) (l₂ ++ [y])
  | _, _, .nil, h => .cons h .nil
  | _, _, .cons h₁ t, h => .cons h₁ (Paired.snocP t h)
noncomputable def oz (D : Addr) (H H' : Hp) : Prop := ∀ b u, H b = some u → b ≠ D → H' b = some u
theorem Same.x {H H' : Hp} (e : Same H H') (D : Addr) : oz D H H' := fun b u q _ => e b u q
theorem a2p {J : It} {H1 : Hp} {σ : St} {ix : List Nat} {tc : TT} {te : TE} {Q : VK} {I0 : Hp → Prop} (xs : List V) (p : V → Bool) (R : Addr → V → V → Hp → Prop) (hJ : JSeq J I0 xs) (h0 : I0 H1) (hz : xs.length ≤ sizeLine) (hR : ∀ D x y H H', R D x y H → oz D H H' → R D x y H')
    (hc : ∀ x ∈ xs, ∀ H2, Same H1 H2 → ∀ Q' : Bool → Hp → Prop, (∀ H3, Same H2 H3 → Q' (p x) H3) → tc (some x :: cy σ ix) H2 Q')
    (he : ∀ D, ∀ x ∈ xs, p x = true → ∀ H2, Same H1 H2 → H2 D ≠ none → ∀ Q' : VK, (∀ y H3, Same H2 H3 → R D x y H3 → Q' y H3) → te (some x :: cy σ ix) H2 Q')
    (hQ : ∀ D H' ys, H1 D = none → Same H1 H' → H' D = some (.lst ys) → Paired (fun x y => R D x y H') (xs.filter p) ys → Q (.ref D) H') :
    lz J H1 σ ix tc te Q := by
  intro D hD
  have put : ∀ H ys, Same H1 H → Same H1 (upd H D (.lst ys)) := fun H ys e b u q => by rw [ah (aj q hD)]; exact e b u q
  refine ⟨fun i m H => i ≤ xs.length ∧ m = xs.length - i ∧ Same H1 H ∧ ∃ ys, H D = some (.lst ys) ∧ Paired (fun x y => R D x y H) ((xs.take i).filter p) ys, ⟨xs.length, Nat.zero_le _, rfl, put _ _ (Same.refl _), [], aa, by simpa using Paired.nil⟩, ?_⟩
  rintro i m H ⟨hi, rfl, e, ys, hy, hp⟩
  have hI := hJ.stay _ _ h0 e
  by_cases hlt : i < xs.length
  · refine .inr ⟨hJ.go i H hI hlt, fun x H' hy' => ?_⟩
    obtain ⟨rfl, hx⟩ := hJ.yld i H x H' hlt hI hy'
    have hm : x ∈ xs := List.mem_of_getElem? hx
    have ht : xs.take (i + 1) = xs.take i ++ [x] := by rw [List.take_add_one, hx]; rfl
    have hlen : ys.length ≤ i := by
      have h1 := Paired.length hp
      have h2 := List.length_filter_le p (xs.take i)
      rw [List.length_take] at h2
      lia
    refine hc x hm _ e _ fun H3 e3 => ?_
    cases hpx : p x with
    | false =>
      rw [if_neg Bool.false_ne_true]
      refine ⟨xs.length - (i + 1), by lia, hlt, rfl, e.trans e3, ys, e3 _ _ hy, ?_⟩
      rw [ht, List.filter_append]
      simp only [List.filter_cons, hpx, List.filter_nil, List.append_nil, Bool.false_eq_true, if_false]
      exact Paired.mapP hp fun x y z => hR _ _ _ _ _ z (e3.x D)
    | true =>
      rw [if_pos rfl]
      refine he D x hm hpx _ (e.trans e3) (by rw [e3 _ _ hy]; simp) _ fun y H4 e4 hr => ?_
      have e5 : oz D H4 (upd H4 D (.lst (ys ++ [y]))) := fun b u q hb => by rw [ah hb]; exact q
      refine ⟨ys, e4 _ _ (e3 _ _ hy), by lia, xs.length - (i + 1), by lia, hlt, rfl, put _ _ (e.trans (e3.trans e4)), ys ++ [y], aa, ?_⟩
      rw [ht, List.filter_append]
      simp only [List.filter_cons, hpx, List.filter_nil, if_true]
      exact Paired.snocP (Paired.mapP hp fun x y z => hR _ _ _ _ _ (hR _ _ _ _ _ z ((e3.trans e4).x D)) e5) (hR _ _ _ _ _ hr e5)
  · have hi' : i = xs.length := by lia
    subst hi'
    refine .inl ⟨hJ.stop _ H hI (Nat.le_refl _), ?_⟩
    rw [List.take_length] at hp
    exact hQ D H ys hD e hy hp
theorem pb {α β : Type} {f : α → β} : ∀ {l : List α} {l' : List β}, Paired (fun x y => y = f x) l l' → l' = l.map f
  | _, _, .nil => rfl
  | _, _, .cons h t => by rw [h, pb t]; rfl
theorem a2x {J : It} {H1 : Hp} {σ : St} {ix : List Nat} {tc : TT} {te : TE} {Q : VK} {I0 : Hp → Prop} (xs : List V) (p : V → Bool) (f : V → V) (hJ : JSeq J I0 xs) (h0 : I0 H1) (hz : xs.length ≤ sizeLine)
    (hc : ∀ x ∈ xs, ∀ H2, Same H1 H2 → ∀ Q' : Bool → Hp → Prop, (∀ H3, Same H2 H3 → Q' (p x) H3) → tc (some x :: cy σ ix) H2 Q')
    (he : ∀ x ∈ xs, p x = true → ∀ H2, Same H1 H2 → ∀ Q' : VK, (∀ H3, Same H2 H3 → Q' (f x) H3) → te (some x :: cy σ ix) H2 Q')
    (hQ : ∀ D H', H1 D = none → Same H1 H' → H' D = some (.lst ((xs.filter p).map f)) → Q (.ref D) H') :
    lz J H1 σ ix tc te Q :=
  a2p xs p (fun _ x y _ => y = f x) hJ h0 hz (fun _ _ _ _ _ h _ => h) hc (fun _ x hx hp H2 e _ Q' q => he x hx hp H2 e Q' fun H3 e3 => q _ H3 e3 rfl) fun D H' ys hD e hy hp => hQ D H' hD e (by rw [hy, pb hp])
theorem j8 {J : It} {H1 : Hp} {σ : St} {ix : List Nat} {te : TE} {Q : VK} {I0 : Hp → Prop} (xs : List V) (ws : List V) (hJ : JSeq J I0 xs) (h0 : I0 H1) (hz : xs.length ≤ sizeLine) (hl : ws.length = xs.length)
    (he : ∀ (i : Nat) (x y : V), xs[i]? = some x → ws[i]? = some y → ∀ H2, Same H1 H2 → ∀ Q' : VK, (∀ H3, Same H2 H3 → Q' y H3) → te (some x :: cy σ ix) H2 Q')
    (hQ : ∀ D H', H1 D = none → Same H1 H' → H' D = some (.lst ws) → Q (.ref D) H') : lz J H1 σ ix tYes te Q := by
  intro D hD
  have put : ∀ H ys, Same H1 H → Same H1 (upd H D (.lst ys)) := fun H ys e b u q => by rw [ah (aj q hD)]; exact e b u q
  refine ⟨fun i m H => i ≤ xs.length ∧ m = xs.length - i ∧ Same H1 H ∧ H D = some (.lst (ws.take i)), ⟨xs.length, Nat.zero_le _, rfl, put _ _ (Same.refl _), by rw [aa, List.take_zero]⟩, ?_⟩
  rintro i m H ⟨hi, rfl, e, hy⟩
  have hI := hJ.stay _ _ h0 e
  by_cases hlt : i < xs.length
  · refine .inr ⟨hJ.go i H hI hlt, fun x H' hy' => ?_⟩
    obtain ⟨rfl, hx⟩ := hJ.yld i H x H' hlt hI hy'
    have hw : ws[i]? = some ws[i] := List.getElem?_eq_getElem (by lia)
    unfold tYes
    dsimp only
    rw [if_pos rfl]
    refine he i x ws[i] hx hw _ e _ fun H3 e3 => ?_
    refine ⟨ws.take i, e3 _ _ hy, by rw [List.length_take]; lia, xs.length - (i + 1), by lia, hlt, rfl, put _ _ (e.trans e3), ?_⟩
    rw [aa, List.take_add_one, hw]; rfl
  · have hi' : i = xs.length := by lia
    subst hi'
    refine .inl ⟨hJ.stop _ H hI (Nat.le_refl _), hQ D H hD e ?_⟩
    rw [hy, List.take_of_length_le (by lia)]
end L2
namespace L2
open PySem PySem.Spec PyProof.Rows
section
variable {X : Cx}
end
end L2
namespace L2
open PySem PySem.Spec PyProof.Rows
section
variable {X : Cx} {es es1 : List Expr} {t t1 : TA} {te : TE} {x : Str} {j : Nat} {pos pos2 : Pos}
theorem a5o {j} (hr : PA X es t) : PA X (.Constant (.str x) j pos :: es) (dj (tC (.str x)) t) := dm a0h hr rfl
theorem a5v {i : Int} {j} (hr : PA X es t) : PA X (.Constant (.int i) j pos :: es) (dj (tC (.int i)) t) := dm jb hr rfl
theorem a6v (h : PE X (.Name x pos) te) (hr : PA X es t) : PA X (.Name x pos :: es) (dj te t) := dm h hr rfl
theorem a6q {x1} (h : PA X es1 t1) (hr : PA X es t) : PA X (.Tuple es1 x1 pos :: es) (dj (tTup t1) t) := dm (a0t h) hr rfl
theorem a6u (h : PA X es1 t1) (hr : PA X es t) : PA X (.List es1 pos :: es) (dj (tLst t1) t) := dm (um h) hr rfl
theorem a6a {a b : Expr} (h : PE X (.Subscript a b pos) te) (hr : PA X es t) : PA X (.Subscript a b pos :: es) (dj te t) := dm h hr rfl
theorem a4x {f : Expr} {as : List Expr} {ks : List Keyword} (h : PE X (.Call f as ks pos) te) (hr : PA X es t) : PA X (.Call f as ks pos :: es) (dj te t) := dm h hr rfl
theorem a5n {a b : Expr} {op : Operator} (h : PE X (.BinOp a op b pos) te) (hr : PA X es t) : PA X (.BinOp a op b pos :: es) (dj te t) := dm h hr rfl
end
end L2
namespace L2
open PySem PySem.Spec PyProof.Rows
structure QE (X : Cx) (e : Expr) (t : TE) : Prop where
  run : PE X e t
structure QT (X : Cx) (e : Expr) (t : TT) : Prop where
  run : PT X e t
structure QW (X : Cx) (e : Expr) (t : TT) : Prop where
  run : PW X e t
structure QA (X : Cx) (es : List Expr) (t : TA) : Prop where
  run : PA X es t
structure QS (X : Cx) (st : Stmt) (t : TS) : Prop where
  run : PS X st t
structure QB (X : Cx) (st : List Stmt) (t : TS) : Prop where
  run : PSs X st t
structure QI (X : Cx) (tg iter : Expr) (wi : TI) : Prop where
  run : PI X tg iter wi
structure QG (X : Cx) (target : Expr) (t : TG) : Prop where
  run : PG X target t
structure QO (X : Cx) (e : Option Expr) (t : TO) : Prop where
  run : PO X e t
structure QTs (X : Cx) (ifs : List Expr) (t : TT) : Prop where
  run : PTs X ifs t
theorem QW.qt {X : Cx} {e : Expr} {t : TT} (h : QW X e t) : QT X e t := ⟨PW.pt h.run⟩
section
variable {st : Stmt} {id : String} {lo hi : Option Expr}
set_option autoImplicit true
set_option relaxedAutoImplicit true
theorem b9  : QB X [] yt := ⟨a4h ⟩
theorem ae {rest : List Stmt} (h1 : QS X st t) (h2 : QB X rest u) : QB X (st :: rest) (tSeq t u) := ⟨oa h1.run h2.run⟩
theorem am (h1 : QS X st t) : QB X [st] t := ⟨qj h1.run⟩
theorem bd {c : Expr} {a b : List Stmt} {tc : TT} (hc : QT X c tc) (ha : QB X a t) (hb : QB X b u) : QS X (.If c a b pos) (tIfS tc t u) := ⟨a6t hc.run ha.run hb.run⟩
theorem al {i : Nat} {x : Str} {e : Expr} {te : TE} {pos' : Pos} (hN : X.N.Nodup) (hi : X.N[i]? = some x) (hx : Loc X.env.scope x) (he : QE X e te) (hs : swapsWith e (some (.Name x pos')) pos.line X.env = pure false := by rfl) (hf : X.fn x = true ∨ X.env.scope.names.lookup x = some .local := by first | exact .inl rfl | exact .inr rfl | assumption) :     QS X (.Assign [.Name x pos'] e pos) (tAsg te (du i)) := ⟨a0l hN hi hx he.run hs hf⟩
theorem az (he : QE X e te) : QS X (.Return (some e) pos) (tRet te) := ⟨a0d he.run⟩
theorem bi (he : QE X e te) (hs : swapsWith e none pos.line X.env = pure false := by rfl) : QS X (.Expr e pos) (a3x te) := ⟨xc he.run hs⟩
theorem cr {iter : Expr} {body : List Stmt} {wi : TI} {g : TG} {tb : TS} {pos : Pos} (hp : PassesOwn (model X.prog X.w) X.A X.env X.xe) (hc : X.calm = true) (hi : QI X tg iter wi) (hg : QG X tg g) (hb : QB X body tb) (hs : ∀ x, foldedSetIterable iter X.env x = pure x := by intro _; rfl) : QS X (.For tg iter body [] pos) (tFor wi g tb) := ⟨zn hp hc hi.run hg.run hb.run hs⟩
theorem fh {tg e : Expr} {te : TE} {g : TG} (he : QE X e te) (hg : QG X tg g) (hs : swapsWithSole [tg] e pos.line X.env = pure false := by rfl) (hw : swappedStores [tg] e X.env = pure none := by rfl) (h1 : (assignEach [tg] X.env).map (·.2) = [assign tg X.env] := by rfl) : QS X (.Assign [tg] e pos) (tAsg te g) := ⟨a65 he.run hg.run hs hw h1⟩
theorem a1x (hR : vi X E) (hc : X.calm = true) (FB : ExcBaseFacts B newId initId bmB) (hg : Gl X x) (hm : X.mg x = some (.ref C)) (hC : PySem.W.excIn X.K C bmB newId = true) (ha : QA X (e :: es) t) (hdb : (x == ("__debug__" : Str)) = false := by decide) (he : starEach (e :: es) X.env = (false, eval e X.env) :: starEach es X.env := by rfl) (hpl : (backTo cpos (starEach es X.env)).any (·.1) = false := by rfl) :     QS X (.Raise (some (.Call (.Name x np) (e :: es) [] cpos)) none pos) (zu C E t) := ⟨a2i hR hc FB hg hm hC ha.run hdb he hpl⟩
theorem oj {c : Expr} {body : List Stmt} {tc : TT} {tb : TS} (hp : PassesOwn (model X.prog X.w) X.A X.env X.xe) (hc : QT X c tc) (hb : QB X body tb) : QS X (.While c body [] pos) (pj tc tb) := ⟨a2z hp hc.run hb.run⟩
theorem ag {i j pos} : QE X (.Constant (.int i) j pos) (tC (.int i)) := ⟨jb ⟩
theorem kt {b j pos} : QE X (.Constant (.bool b) j pos) (tC (.bl b)) := ⟨a6l ⟩
theorem d9 {j pos} : QE X (.Constant .none j pos) (tC .non) := ⟨a5t ⟩
theorem cb {x j pos} : QE X (.Constant (.str x) j pos) (tC (.str x)) := ⟨a0h ⟩
theorem qv (i : Nat) {x : Str} {pos : Pos} (hN : X.N[i]? = some x := by rfl) (hv : Vis X.env.scope x := by first | exact Or.inl rfl | exact Or.inr (Or.inl rfl) | exact Or.inr (Or.inr rfl)) (hd : (x == ("__debug__" : Str)) = false := by decide) (hcd : (x == ("__classdict__" : Str)) = false := by decide) : QE X (.Name x pos) (tVar i) := ⟨pv i hN hv hd hcd⟩
theorem ai {op : Operator} {r : R2} (ho : OpR X (binaryOp op) r) (ha : QE X a ta) (hb : QE X b tb) : QE X (.BinOp a op b pos) (tOp r ta tb) := ⟨a3f ho ha.run hb.run⟩
theorem de {op : CmpOp} {r : R2} (ho : OpR X (compareOp op) r) (ha : QE X a ta) (hb : QE X b tb) (hm : behindInMarks op b = false) : QE X (.Compare a [op] [b] pos) (tOp r ta tb) := ⟨a4p ho ha.run hb.run hm⟩
theorem av {op : CmpOp} {r : R2} (ho : OpR X (compareOp op) r) (ha : QE X a ta) (hb : QE X b tb) (hm : behindInMarks op b = false) : QT X (.Compare a [op] [b] pos) (sv (tOp r ta tb)) := ⟨xh ho ha.run hb.run hm⟩
theorem jz {e : Expr} {t : TE} (h : QE X e t) (he : ∀ whole, isTrue e X.env whole = (do let v ← whole; standAt e.pos; holding [v] (truthy v)) := by intro _; rfl) : QT X e (tB t) := ⟨a5e h.run he⟩
theorem md (ha : QT X a tA) : QT X (.UnaryOp .Not a pos) (tNot tA) := ⟨a5x ha.run⟩
theorem gb (ha : QT X a tA) : QW X (.BoolOp .And [a] pos) tA := ⟨a4u ha.run⟩
theorem jo (ha : QT X a tA) : QW X (.BoolOp .Or [a] pos) tA := ⟨a69 ha.run⟩
theorem gw {rest : List Expr} (ha : QT X a tA) (hb : QW X (.BoolOp .And (b :: rest) pos) tB') : QW X (.BoolOp .And (a :: b :: rest) pos) (tAnd tA tB') := ⟨a5y ha.run hb.run⟩
theorem my {rest : List Expr} (ha : QT X a tA) (hb : QW X (.BoolOp .Or (b :: rest) pos) tB') : QW X (.BoolOp .Or (a :: b :: rest) pos) (tOr tA tB') := ⟨a6g ha.run hb.run⟩
theorem a04 {op} {t : TE} (h : QE X a t) : QE X (.BoolOp op [a] pos) t := ⟨a5l h.run⟩
theorem a5a {rest : List Expr} (ha : QE X a ta) (hb : QE X (.BoolOp .And (b :: rest) pos) tb) : QE X (.BoolOp .And (a :: b :: rest) pos) (a3w ta tb) := ⟨a5k ha.run hb.run⟩
theorem a6s {rest : List Expr} (ha : QE X a ta) (hb : QE X (.BoolOp .Or (b :: rest) pos) tb) : QE X (.BoolOp .Or (a :: b :: rest) pos) (tOrV ta tb) := ⟨a6n ha.run hb.run⟩
theorem tp {c : Expr} (hc : QT X c tA) (ha : QE X a ta) (hb : QE X b tb) : QE X (.IfExp c a b pos) (tIf tA ta tb) := ⟨a1v hc.run ha.run hb.run⟩
theorem aq {r : R2} (hr : IxR X r) (ha : QE X a ta) (hb : QE X b tb) (hs : xt b) : QE X (.Subscript a b pos) (tOp r ta tb) := ⟨yr hr ha.run hb.run hs⟩
theorem cn {r : V → Option Int → Option Int → Hp → VK → Prop} (hr : SlR X r) (he : QE X e te) (hl : QO X lo tl) (hu : QO X hi th) : QE X (.Subscript e (.Slice lo hi none p2) pos) (tSl r te tl th) := ⟨t8 hr he.run hl.run hu.run⟩
theorem dz  : QO X none xp := ⟨xr ⟩
theorem cg (h : QE X e te) : QO X (some e) (a3t te) := ⟨xj h.run⟩
theorem d0 {x1} (h : QA X es t) : QE X (.Tuple es x1 pos) (tTup t) := ⟨a0t h.run⟩
theorem ay (h : QA X es t) : QE X (.List es pos) (tLst t) := ⟨um h.run⟩
theorem ao (F : FnOk X.prog X.w X.K X.mg X.base CX k f fd ps sp) (hr : Room k X.A) (hg : Gl X x) (hm : X.mg x = some (.ref f)) (hk : PySem.W.keepIn X.K (.ref f) = true) (hb : Binds X.K fd ps ds) (hd : Vals dvs ds) (hx : jr CX X E) (ha : QA X (e :: es) t) (hdb : (x == ("__debug__" : Str)) = false := by decide) (he : starEach (e :: es) X.env = (false, eval e X.env) :: starEach es X.env := by rfl) (hpl : (backTo pos (starEach es X.env)).any (·.1) = false := by rfl) :     QE X (.Call (.Name x p) (e :: es) [] pos) (a3d sp dvs E t) := ⟨a4n F hr hg hm hk hb hd hx ha.run hdb he hpl⟩
theorem b7 (hc : cw X (.builtin id) r) (hg : Gl X x) (hm : X.mg x = none) (hv : bootBuiltins x = some (.builtin id)) (ha : QA X (e :: es) t) (hn : x ≠ "__name__" := by decide) (hdb : (x == ("__debug__" : Str)) = false := by decide) (he : starEach (e :: es) X.env = (false, eval e X.env) :: starEach es X.env := by rfl) (hpl : (backTo pos (starEach es X.env)).any (·.1) = false := by rfl) : QE X (.Call (.Name x p) (e :: es) [] pos) (tCB r t) := ⟨ux hc hg hm hv ha.run hn hdb he hpl⟩
theorem bt (hc : cw X (.type T) r) (hg : Gl X x) (hm : X.mg x = none) (hv : bootBuiltins x = some (.type T)) (ha : QA X (e :: es) t) (hn : x ≠ "__name__" := by decide) (hdb : (x == ("__debug__" : Str)) = false := by decide) (he : starEach (e :: es) X.env = (false, eval e X.env) :: starEach es X.env := by rfl) (hpl : (backTo pos (starEach es X.env)).any (·.1) = false := by rfl) : QE X (.Call (.Name x p) (e :: es) [] pos) (tCB r t) := ⟨rf hc hg hm hv ha.run hn hdb he hpl⟩
theorem a67 (pa : PlainAttrs T) (slot : Slot T name id) (hty : typeOf (.builtin id) = pure (.type "method_descriptor")) (hm : MtR X id r) (ho : QE X o to) (hbase : attributeBase o name X.env (eval o X.env) = eval o X.env := by rfl) (hline : (apos.endLine == cpos.line) = true := by rfl) : QE X (.Call (.Attribute o name apos) [] [] cpos) (tBM0 X.K T r to) := ⟨a6b pa slot hty hm ho.run hbase hline⟩
theorem vm {X : Cx} {elt iter : Expr} {x : Str} {px pos : Pos} {ifs : List Expr} {sc : Scope} {wi : TI} {tc : TT} {te : TE} (hi : QI X (.Name x px) iter wi) (hif : ∀ s H C ex, QTs (blk X [x] s H sc [] C ex) ifs tc) (he : ∀ s H C ex, QE (blk X [x] s H sc [] C ex) elt te) (hc : X.calm = true := by rfl) (hkind : sc.kind = .function := by rfl) (hx : sc.names.lookup x = some .local := by decide +kernel) (hfree : ∀ y ∈ sc.names, y.2 ≠ .free := by decide +kernel) (hcell : ∀ y ∈ sc.names, y.2 ≠ .cell := by decide +kernel) (hnames : ∀ y ∈ sc.names, y.2 = .local → sc.names.lookup y.1 = some .local := by decide +kernel) (hs : ∀ x, foldedSetIterable iter X.env x = pure x := by intro _; rfl) :     QE X (.ListComp elt [⟨.Name x px, iter, ifs, 0⟩] sc pos) (lb [] wi tc te) := ⟨vz hi.run (fun z0 z1 z2 z3 => (hif z0 z1 z2 z3).run) (fun z0 z1 z2 z3 => (he z0 z1 z2 z3).run) hc hkind hx hfree hcell hnames hs⟩
theorem a4i {l : Expr} {tl : TE} (hl : QE X l tl) : QI X tg l (yy X.K tl) := ⟨ya hl.run⟩
theorem bw {a : Expr} {ta : TA} {p pos : Pos} (hg : Gl X "range") (hm : X.mg "range" = none) (ha : QA X [a] ta) (hs : starEach [a] X.env = [(false, eval a X.env)] := by rfl) : QI X tg (.Call (.Name "range" p) [a] [] pos) (a3c ta) := ⟨a0b hg hm ha.run hs⟩
theorem a1a {a b : Expr} {ta : TA} {p pos : Pos} (hg : Gl X "range") (hm : X.mg "range" = none) (ha : QA X [a, b] ta) (hs : starEach [a, b] X.env = [(false, eval a X.env), (false, eval b X.env)] := by rfl) (hs2 : starEach [b] X.env = [(false, eval b X.env)] := by rfl) :     QI X tg (.Call (.Name "range" p) [a, b] [] pos) (a3p ta) := ⟨a1k hg hm ha.run hs hs2⟩
theorem ba {i : Nat} {x : Str} (hN : X.N.Nodup) (hi : X.N[i]? = some x) (hx : Loc X.env.scope x) (hf : X.fn x = true ∨ X.env.scope.names.lookup x = some .local := by first | exact .inl rfl | exact .inr rfl | assumption) : QG X (.Name x pos) (du i) := ⟨xf hN hi hx hf⟩
theorem ac  : QA X [] tNil := ⟨m9 ⟩
theorem fv (ha : QE X e te) (hr : QA X es t) (hs : starEach (e :: es) X.env = (false, eval e X.env) :: starEach es X.env := by rfl) : QA X (e :: es) (dj te t) := ⟨dm ha.run hr.run hs⟩
theorem bj {j} (hr : QA X es t) : QA X (.Constant (.str x) j pos :: es) (dj (tC (.str x)) t) := ⟨a5o hr.run⟩
theorem b8 {i : Int} {j} (hr : QA X es t) : QA X (.Constant (.int i) j pos :: es) (dj (tC (.int i)) t) := ⟨a5v hr.run⟩
theorem af (h : QE X (.Name x pos) te) (hr : QA X es t) : QA X (.Name x pos :: es) (dj te t) := ⟨a6v h.run hr.run⟩
theorem fu {x1} (h : QA X es1 t1) (hr : QA X es t) : QA X (.Tuple es1 x1 pos :: es) (dj (tTup t1) t) := ⟨a6q h.run hr.run⟩
theorem ku (h : QA X es1 t1) (hr : QA X es t) : QA X (.List es1 pos :: es) (dj (tLst t1) t) := ⟨a6u h.run hr.run⟩
theorem ax {a b : Expr} (h : QE X (.Subscript a b pos) te) (hr : QA X es t) : QA X (.Subscript a b pos :: es) (dj te t) := ⟨a6a h.run hr.run⟩
theorem bh {f : Expr} {as : List Expr} {ks : List Keyword} (h : QE X (.Call f as ks pos) te) (hr : QA X es t) : QA X (.Call f as ks pos :: es) (dj te t) := ⟨a4x h.run hr.run⟩
theorem cz {a b : Expr} {op : Operator} (h : QE X (.BinOp a op b pos) te) (hr : QA X es t) : QA X (.BinOp a op b pos :: es) (dj te t) := ⟨a5n h.run hr.run⟩
theorem ga {X : Cx} : QTs X [] tYes := ⟨a4z ⟩
end
theorem mh {X : Cx} {o i : Expr} {to ti : TE} {t : TSet} {pos : Pos} (ho : QE X o to) (hi : QE X i ti) (hs : PSet X t)
    (ha : ∀ v, assign (.Subscript o i pos) X.env v = (do
      let ov ← holding [v] (eval o X.env)
      let iv ← holding [v, ov] (eval i X.env)
      standAt pos
      holding [v, ov, iv] (setItem ov iv v)
      release [v, ov, iv] []) := by intro _; rfl) : QG X (.Subscript o i pos) (gSub to ti t) := ⟨a5p ho.run hi.run hs ha⟩
theorem Fun.okQ {P : Program} {w : World} {K : PySem.W.Frag} {mg : Str → Option Value} {base : Heap} {x qual : Str} {st : Stmt} {f : Addr} {fd : FuncData} {N ps : List Str} {k : Nat} {sp : Sp} (F : Fun K x qual st f fd) (S : FnScope N ps (ak st)) (len : ∀ vs H Q E, sp vs H Q E → vs.length = ps.length)
    (hbody : ∀ (cdv : Value) (A : Around) (outer : List Env) (s : Shared) (H : Hp) (vs : List V) (Q : VK) (E : XK), Room k (A.deeper (envOfC qual (ak st) s.heap.objs.size f cdv)) → sp vs H Q E →
      ∃ t, QB (cxOf CX0 P w K mg base N qual (ak st) f cdv A outer s H E).nox (b6 st) t ∧ t { nx := fun _ H' => Q .non H', rt := Q } (start N vs) H) : FnOk P w K mg base CX0 (k + 1) f fd ps sp :=
  F.ok S len fun cdv A outer s H vs Q E hr h => by
    obtain ⟨t, h1, h2⟩ := hbody cdv A outer s H vs Q E hr h
    exact ⟨t, h1.run, h2⟩
end L2
namespace L2
open PySem PySem.Spec PyProof.Rows
section
variable {X : Cx} {st : Stmt} {t : TS} {e : Expr} {te : TE}
theorem PS.nox (h : PS X.nox st t) : PS X st t := fun pins s σ H D I hw =>
  wpAny_mono (h pins s σ H D (I.wish _) hw) (fun _ _ q => q.unwish) fun _ _ z => False.elim z
theorem a6d (h : QS X.nox st t) : QS X st t := ⟨PS.nox h.run⟩
noncomputable def a6c (K : PySem.W.Frag) (ta : TE) : TT := fun σ H Q => ta σ H fun x H' => ∃ k, TruV K x H' k ∧ Q k H'
theorem a1q {K : PySem.W.Frag} (ha : QE X e te) (hK : X.K = K := by rfl) (he : ∀ whole, isTrue e X.env whole = (do let v ← whole; standAt e.pos; holding [v] (truthy v)) := by intro _; rfl) : QT X e (a6c K te) := by
  subst hK
  exact ⟨a1m ha.run he⟩
end
theorem Fun.okEQ {P : Program} {w : World} {K : PySem.W.Frag} {mg : Str → Option Value} {base : Heap} {x qual : Str} {st : Stmt} {f : Addr} {fd : FuncData} {N ps : List Str} {k : Nat} {sp : Sp} (F : Fun K x qual st f fd) (S : FnScope N ps (ak st)) (len : ∀ vs H Q E, sp vs H Q E → vs.length = ps.length)
    (hbody : ∀ (cdv : Value) (A : Around) (outer : List Env) (s : Shared) (H : Hp) (vs : List V) (Q : VK) (E : XK), Room k (A.deeper (envOfC qual (ak st) s.heap.objs.size f cdv)) → sp vs H Q E →
      ∃ t, QB (cxOf (CXE P w base) P w K mg base N qual (ak st) f cdv A outer s H E) (b6 st) t ∧ t { nx := fun _ H' => Q .non H', rt := Q } (start N vs) H) : FnOk P w K mg base (CXE P w base) (k + 1) f fd ps sp := by
  obtain ⟨oc, od, kV, doc, pm, an, cdv, ct, osl, rfl, lk, hcd⟩ := F.ex
  exact a3u lk hcd S len fun A outer s H vs Q E hr hsp => by
    obtain ⟨t, h1, h2⟩ := hbody cdv A outer s H vs Q E hr hsp
    exact ⟨t, h1.run, h2⟩
section
variable {id : String}
set_option autoImplicit true
set_option relaxedAutoImplicit true
theorem ce {K : PySem.W.Frag} (hK : X.K = K) (pa : PlainAttrs T) (slot : Slot T name id) (hty : typeOf (.builtin id) = pure (.type "method_descriptor")) (hm : MtR X id r) (ho : QE X o to) (ha : QA X (e :: es) t) (hbase : attributeBase o name X.env (eval o X.env) = eval o X.env := by rfl) (hfew : ((backTo cpos (starEach (e :: es) X.env)).all (fun x => !x.1) && (backToKw cpos (keywordEach [] X.env)).all (fun x => x.1.isSome)       && decide ((e :: es).length + ([] : List Keyword).length + (if ([] : List Keyword).isEmpty then 0 else 1) < 30)) = true := by rfl) (hline : (apos.endLine == cpos.line) = true := by rfl) (hs : starEach (e :: es) X.env = (false, eval e X.env) :: starEach es X.env := by rfl) (hplain : (backTo cpos (starEach es X.env)).any (·.1) = false := by rfl) : QE X (.Call (.Attribute o name apos) (e :: es) [] cpos) (tBM K T r to t) := by
  subst hK
  exact ⟨a3j pa slot hty hm ho.run ha.run hbase hfew hline hs hplain⟩
end
end L2
namespace L2
open PySem PySem.Spec PyProof.Rows
end L2
namespace L2
open PySem PySem.Spec PyProof.Rows
section
variable {X : Cx} {K : PySem.W.Frag} {tg l : Expr} {tl : TE}
theorem ixKk (h : X.K = K) : IxR X (rIxL K) := by subst h; exact a47
theorem ixTk (h : X.K = K) : IxR X (rIxT K) := by subst h; exact vg
theorem dk (h : X.K = K) : cw X (.builtin "len") (fun xs H Q => ∃ p ys, xs = [.ref p] ∧ (SqL K H p ys ∨ SqT K H p ys) ∧ Q (.int ys.length) H) := by subst h; exact mj
theorem slLk (h : X.K = K) : SlR X (rSlL K) := by subst h; exact a45
theorem slTk (h : X.K = K) : SlR X (rSlT K) := by subst h; exact a0r
theorem neDk (h : X.K = K) (hu : X.A.units + 32 < cLine) : OpR X (compareOp .NotEq) (rNeD K) := by subst h; exact a5d hu
theorem dn (h : X.K = K) (hl : QE X l tl) : QI X tg l (yy K tl) := by subst h; exact a4i hl
end
end L2
namespace L2
open PySem PySem.Spec PyProof.Rows
section
variable {κ : Type} [DecidableEq κ]
noncomputable def valV (kvs : List (κ × V)) (k : κ) : Option V := (kvs.find? fun kv => decide (kv.1 = k)).map (·.2)
noncomputable def putK (kvs : List (κ × V)) (k : κ) (v : V) : List (κ × V) :=
  if (kvs.any fun kv => decide (kv.1 = k)) = true then kvs.map (fun kv => if kv.1 = k then (kv.1, v) else kv) else kvs ++ [(k, v)]
noncomputable def i8 (kvs : List (κ × V)) (k : κ) : List (κ × V) := kvs.filter fun kv => decide (kv.1 ≠ k)
theorem gk {p : κ × V} {r : List (κ × V)} {k : κ} (e : p.1 = k) : valV (p :: r) k = some p.2 := by simp [valV, List.find?_cons, e]
theorem gm {p : κ × V} {r : List (κ × V)} {k : κ} (e : ¬ p.1 = k) : valV (p :: r) k = valV r k := by simp [valV, List.find?_cons, e]
theorem kw (k : κ) : ∀ kvs : List (κ × V), (kvs.any fun kv => decide (kv.1 = k)) = (valV kvs k).isSome
  | [] => rfl
  | p :: r => by
    rw [List.any_cons]
    by_cases e : p.1 = k
    · simp only [gk e, decide_eq_true e, Bool.true_or, Option.isSome_some]
    · rw [gm e, decide_eq_false e, Bool.false_or]; exact kw k r
theorem j4 (kvs : List (κ × V)) (k : κ) (v : V) : (putK kvs k v).length ≤ kvs.length + 1 := by
  unfold putK
  split
  · rw [List.length_map]; lia
  · rw [List.length_append, List.length_cons, List.length_nil]; lia
theorem a38 {kvs : List (κ × V)} {k : κ} (v : V) (h : valV kvs k = none) : putK kvs k v = kvs ++ [(k, v)] := by
  unfold putK
  rw [kw, h]
  exact if_neg (by decide)
theorem RelO.isSome_eq {o : Option V} {u : Option Value} (r : RelO o u) : o.isSome = u.isSome := by
  cases o with
  | none => cases u with
    | none => rfl
    | some _ => exact (show False from r).elim
  | some _ => cases u with
    | none => exact (show False from r).elim
    | some _ => rfl
theorem KV.val {kvs : List (κ × V)} {vs : List (κ × Value)} (r : KV kvs vs) (k : κ) : RelO (valV kvs k) (valueAt vs k) := by
  unfold KV at r
  induction r with
  | nil => exact True.intro
  | @cons p q ps qs h t ih =>
    obtain ⟨h1, h2⟩ := h
    by_cases e : p.1 = k
    · have e' : q.1 = k := h1.symm.trans e
      have b : valueAt (q :: qs) k = some q.2 := by simp [valueAt, List.find?_cons, e']
      rw [gk e, b]; exact h2
    · have e' : ¬ q.1 = k := fun z => e (h1.trans z)
      have b : valueAt (q :: qs) k = valueAt qs k := by simp [valueAt, List.find?_cons, e']
      rw [gm e, b]; exact ih
theorem KV.any {kvs : List (κ × V)} {vs : List (κ × Value)} (r : KV kvs vs) (k : κ) : (kvs.any fun kv => decide (kv.1 = k)) = vs.any fun kv => decide (kv.1 = k) := by
  unfold KV at r
  induction r with
  | nil => rfl
  | cons h t ih => rw [List.any_cons, List.any_cons, ih, h.1]
theorem KV.repl {kvs : List (κ × V)} {vs : List (κ × Value)} (r : KV kvs vs) (k : κ) {y : V} {u : Value} (ry : RelV y u) :
    KV (kvs.map fun kv => if kv.1 = k then (kv.1, y) else kv) (vs.map fun kv => if kv.1 = k then (kv.1, u) else kv) := by
  unfold KV at r ⊢
  induction r with
  | nil => exact .nil
  | @cons p q ps qs h t ih =>
    rw [List.map_cons, List.map_cons]
    refine .cons ?_ ih
    obtain ⟨h1, h2⟩ := h
    by_cases e : p.1 = k
    · rw [if_pos e, if_pos (h1.symm.trans e)]; exact ⟨h1, ry⟩
    · rw [if_neg e, if_neg (fun z => e (h1.trans z))]; exact ⟨h1, h2⟩
theorem KV.put {kvs : List (κ × V)} {vs : List (κ × Value)} (r : KV kvs vs) (k : κ) {y : V} {u : Value} (ry : RelV y u) : KV (putK kvs k y) (stored vs k u) := by
  unfold putK stored
  rw [r.any k]
  by_cases e : (vs.any fun kv => decide (kv.1 = k)) = true
  · rw [if_pos e, if_pos e]; exact r.repl k ry
  · rw [if_neg e, if_neg e]; exact Paired.snoc r ⟨rfl, ry⟩
theorem KV.drop {kvs : List (κ × V)} {vs : List (κ × Value)} (r : KV kvs vs) (k : κ) : KV (i8 kvs k) (without vs k) := by
  unfold KV at r ⊢
  unfold i8 without
  induction r with
  | nil => exact .nil
  | @cons p q ps qs h t ih =>
    obtain ⟨h1, h2⟩ := h
    rw [List.filter_cons, List.filter_cons]
    by_cases e : p.1 = k
    · have a : ¬ decide (p.1 ≠ k) = true := by simp [e]
      have b : ¬ decide (q.1 ≠ k) = true := by simp [h1.symm.trans e]
      rw [if_neg a, if_neg b]; exact ih
    · have e' : ¬ q.1 = k := fun z => e (h1.trans z)
      have a : decide (p.1 ≠ k) = true := by simp [e]
      have b : decide (q.1 ≠ k) = true := by simp [e']
      rw [if_pos a, if_pos b]; exact .cons ⟨h1, h2⟩ ih
theorem KV.keys {kvs : List (κ × V)} {vs : List (κ × Value)} (r : KV kvs vs) : kvs.map (·.1) = vs.map (·.1) := by
  unfold KV at r
  induction r with
  | nil => rfl
  | cons h t ih => rw [List.map_cons, List.map_cons, ih, h.1]
theorem KV.length {kvs : List (κ × V)} {vs : List (κ × Value)} (r : KV kvs vs) : kvs.length = vs.length := Paired.length r
theorem a2r (kvs : List (κ × V)) (k : κ) : (i8 kvs k).length ≤ kvs.length := List.length_filter_le _ _
end
theorem ld {P : Program} {w : World} {k : Key} {u : Value} (r : RelV (kV k) u) : (bz P w).is k u = true := by
  cases k with
  | inl i => obtain ⟨t, e⟩ := (show ∃ t, u = Value.int i t from r); subst e; exact wn P w i t
  | inr x => obtain ⟨t, e⟩ := (show ∃ t, u = Value.str x t from r); subst e; exact w9 P w x t
theorem rg {P : Program} {w : World} : ∀ {ks : List Key} {us : List Value}, Vals (ks.map kV) us → ItemsAre (bz P w) ks us
  | [], _, r => by rw [List.map_nil] at r; cases r; exact .nil
  | k :: ks, _, r => by
    rw [List.map_cons] at r
    cases r with
    | cons h t => exact .cons (ld h) (rg t)
abbrev KT (H : Hp) : List (List Key × V) → List (List Key × Addr × Value) → Prop := Paired fun p q => p.1 = q.1 ∧ H q.2.1 = some (.tup (p.1.map kV)) ∧ RelV p.2 q.2.2
theorem KT.val {H : Hp} {kvs : List (List Key × V)} {xs : List (List Key × Addr × Value)} (r : KT H kvs xs) (k : List Key) : RelO (valV kvs k) ((atKey xs k).map (·.2)) := by
  induction r with
  | nil => exact True.intro
  | @cons p q ps qs h t ih =>
    obtain ⟨h1, _, h2⟩ := h
    by_cases e : p.1 = k
    · have e' : q.1 = k := h1.symm.trans e
      have b : atKey (q :: qs) k = some q.2 := by simp [atKey, List.find?_cons, e']
      rw [gk e, b]; exact h2
    · have e' : ¬ q.1 = k := fun z => e (h1.trans z)
      have b : atKey (q :: qs) k = atKey qs k := by simp [atKey, List.find?_cons, e']
      rw [gm e, b]; exact ih
theorem KT.repl {H : Hp} {kvs : List (List Key × V)} {xs : List (List Key × Addr × Value)} (r : KT H kvs xs) (k : List Key) {y : V} {u : Value} (ry : RelV y u) :
    KT H (kvs.map fun kv => if kv.1 = k then (kv.1, y) else kv) (xs.map (putAt k u)) := by
  induction r with
  | nil => exact .nil
  | @cons p q ps qs h t ih =>
    rw [List.map_cons, List.map_cons]
    refine .cons ?_ ih
    obtain ⟨h1, h2, h3⟩ := h
    unfold putAt
    by_cases e : p.1 = k
    · rw [if_pos e, if_pos (h1.symm.trans e)]; exact ⟨h1, h2, ry⟩
    · rw [if_neg e, if_neg (fun z => e (h1.trans z))]; exact ⟨h1, h2, h3⟩
theorem KT.put {H : Hp} {kvs : List (List Key × V)} {xs : List (List Key × Addr × Value)} (r : KT H kvs xs) (k : List Key) {b : Addr} {y : V} {u : Value} (hb : H b = some (.tup (k.map kV))) (ry : RelV y u) :
    KT H (putK kvs k y) (storedH xs k b u) := by
  have e : (kvs.any fun kv => decide (kv.1 = k)) = (atKey xs k).isSome := by
    rw [kw, (r.val k).isSome_eq, Option.isSome_map]
  unfold putK storedH
  rw [e]
  by_cases q : (atKey xs k).isSome = true
  · rw [if_pos q, if_pos q]; exact r.repl k ry
  · rw [if_neg q, if_neg q]; exact Paired.snoc r ⟨rfl, hb, ry⟩
theorem KT.keeps {H H' : Hp} {kvs : List (List Key × V)} {xs : List (List Key × Addr × Value)} (r : KT H kvs xs) (ht : ∀ b ys, H b = some (.tup ys) → H' b = some (.tup ys)) : KT H' kvs xs :=
  Paired.mapP r fun _ _ z => ⟨z.1, ht _ _ z.2.1, z.2.2⟩
section
variable {P : Program} {w : World} {H : Hp} {h : Heap} {a : Addr}
theorem a3k {u : HO} (ok : HOk P w H h) (e : Rd H a u) : ObjOk P w H h a u := e.ok ok
theorem fb {kvs : List (Key × V)} (ok : HOk P w H h) (e : Rd H a (.dK kvs)) : kvs.length ≤ sizeLine ∧ (a == sysModules) = false ∧ ∃ vs, KV kvs vs ∧ h.DictOf (bz P w) a vs :=
  show ObjOk P w H h a (.dK kvs) from a3k ok e
theorem yn {kvs : List (Key × V)} (ok : HOk P w H h) (e : H a = some (.dK kvs)) : kvs.length ≤ sizeLine ∧ (a == sysModules) = false ∧ ∃ vs, KV kvs vs ∧ h.DictOf (bz P w) a vs := fb ok (.inl e)
theorem ml {ks : List Key} (ok : HOk P w H h) (e : H a = some (.tup (ks.map kV))) : (tupleKind (bz P w)).is h ks a := by
  obtain ⟨_, its, r, o, h1, h2, n, h3⟩ := (show ObjOk P w H h a (.tup (ks.map kV)) from ok a _ e)
  exact ⟨o, its.toArray, n, h1, h2, h3, by simpa using rg r⟩
theorem nj {kvs : List (List Key × V)} (ok : HOk P w H h) (e : Rd H a (.dT kvs)) : kvs.length ≤ sizeLine ∧ (a == sysModules) = false ∧
    ∃ xs, KT H kvs xs ∧ h.DictOfH (tupleKind (bz P w)) a xs := by
  obtain ⟨z, y, xs, r, o, es, ep, h1, h2, h3, h4, h5⟩ := (show ObjOk P w H h a (.dT kvs) from a3k ok e)
  refine ⟨z, y, xs, r, o, es, ep, h1, h2, h3, h4, fun x hx => ?_, h5⟩
  have all : ∀ {l : List (List Key × V)} {m : List (List Key × Addr × Value)}, KT H l m → ∀ x ∈ m, (tupleKind (bz P w)).is h x.1 x.2.1 := by
    intro l m q
    induction q with
    | nil => intro x hx; exact nomatch hx
    | @cons p q ps qs hq t ih =>
      intro x hx
      rcases List.mem_cons.mp hx with e | hx
      · subst e
        exact ml ok (by rw [← hq.1]; exact hq.2.1)
      · exact ih x hx
  exact all r x hx
theorem a6x {kvs : List (List Key × V)} (ok : HOk P w H h) (e : H a = some (.dT kvs)) : kvs.length ≤ sizeLine ∧ (a == sysModules) = false ∧
    ∃ xs, KT H kvs xs ∧ h.DictOfH (tupleKind (bz P w)) a xs := nj ok (.inl e)
end
noncomputable def DGet (H : Hp) (a : Addr) (y : V) (r : Option V) : Prop :=
  (∃ kvs k, Rd H a (.dK kvs) ∧ y = kV k ∧ r = valV kvs k) ∨ ∃ kvs k b, Rd H a (.dT kvs) ∧ y = .ref b ∧ H b = some (.tup (k.map kV)) ∧ r = valV kvs k
noncomputable def DPut (H : Hp) (a : Addr) (y v : V) (H' : Hp) : Prop :=
  (∃ kvs k, H a = some (.dK kvs) ∧ y = kV k ∧ kvs.length < sizeLine ∧ H' = upd H a (.dK (putK kvs k v))) ∨
  ∃ kvs k b, H a = some (.dT kvs) ∧ y = .ref b ∧ H b = some (.tup (k.map kV)) ∧ kvs.length < sizeLine ∧ H' = upd H a (.dT (putK kvs k v))
theorem DGet.k {H : Hp} {a : Addr} {kvs : List (Key × V)} {k : Key} (e : H a = some (.dK kvs)) : DGet H a (kV k) (valV kvs k) := .inl ⟨kvs, k, .inl e, rfl, rfl⟩
theorem DPut.k {H : Hp} {a : Addr} {kvs : List (Key × V)} {k : Key} {v : V} (e : H a = some (.dK kvs)) (hl : kvs.length < sizeLine) : DPut H a (kV k) v (upd H a (.dK (putK kvs k v))) := .inl ⟨kvs, k, e, rfl, hl, rfl⟩
section
variable {X : Cx} {pins : List (Addr × Obj)} {σ : St} {H : Hp} {s : Shared} {a : Addr} {y v : V} {u r : Value} {o : Option V} {A : Around} {E : Value → Shared → Prop}
theorem Inv.big (I : Inv X pins σ H s) : sysModules < s.heap.objs.size := by
  have h : mainGlobals < s.heap.objs.size := (I.mod.glob.keeps I.bk).lt
  exact Nat.lt_trans (by decide) h
theorem a0v {Q : Value → Shared → Prop} (hu : A.units + 1 < cLine) (I : Inv X pins σ H s) (g : DGet H a y (some v)) (ry : RelV y u) (h : ∀ w' s', Inv X pins σ H s' → RelV v w' → Q w' s') :
    wpAny (model X.prog X.w) A (getItem (.ref a) u) Q E s := by
  rcases g with ⟨kvs, k, e, ey, l⟩ | ⟨kvs, k, b, e, ey, eb, l⟩
  · subst ey
    obtain ⟨z, hd, vs, rel, dd⟩ := fb I.hok e
    obtain ⟨w', hw, rw'⟩ := RelO.some_of (v := v) (o := valueAt vs k) (by rw [l]; exact rel.val k)
    exact wpAny_getItem_of (ld ry) dd.mapOf hw (h w' _ (I.tok _) rw')
  · subst ey
    cases (show u = Value.ref b from ry)
    obtain ⟨z, hd, xs, rel, dd⟩ := nj I.hok e
    obtain ⟨w', hw, rw'⟩ := RelO.some_of (v := v) (o := (atKey xs k).map (·.2)) (by rw [l]; exact rel.val k)
    obtain ⟨p, hp, hp2⟩ := Option.map_eq_some_iff.mp hw
    refine wpAny_getItem_heap (tupleKind_room_in1 hu) (ml I.hok eb) dd hp ?_
    rw [hp2]
    exact h w' _ (I.tok _) rw'
theorem d_in {Q : Value → Shared → Prop} (hu : A.units + 1 < cLine) (I : Inv X pins σ H s) (g : DGet H a y o) (ry : RelV y u) (h : ∀ s', Inv X pins σ H s' → Q (.bool o.isSome) s') :
    wpAny (model X.prog X.w) A (compareOp .In u (.ref a)) Q E s := by
  rcases g with ⟨kvs, k, e, ey, l⟩ | ⟨kvs, k, b, e, ey, eb, l⟩
  · subst ey
    obtain ⟨z, hd, vs, rel, dd⟩ := fb I.hok e
    refine wpAny_in_of (ld ry) hd dd.mapOf ?_
    rw [← (rel.val k).isSome_eq, ← l]
    exact h _ (I.tok _)
  · subst ey
    cases (show u = Value.ref b from ry)
    obtain ⟨z, hd, xs, rel, dd⟩ := nj I.hok e
    refine wpAny_in_heap (tupleKind_room_in1 hu) (ml I.hok eb) hd dd ?_
    have q := (rel.val k).isSome_eq
    rw [Option.isSome_map] at q
    rw [← q, ← l]
    exact h _ (I.tok _)
theorem a4l {Q : Value → Shared → Prop} (hu : A.units + 1 < cLine) (I : Inv X pins σ H s) (g : DGet H a y o) (ry : RelV y u) (h : ∀ s', Inv X pins σ H s' → Q (.bool (!o.isSome)) s') :
    wpAny (model X.prog X.w) A (compareOp .NotIn u (.ref a)) Q E s := by
  rcases g with ⟨kvs, k, e, ey, l⟩ | ⟨kvs, k, b, e, ey, eb, l⟩
  · subst ey
    obtain ⟨z, hd, vs, rel, dd⟩ := fb I.hok e
    refine wpAny_notIn_of (ld ry) hd dd.mapOf ?_
    rw [← (rel.val k).isSome_eq, ← l]
    exact h _ (I.tok _)
  · subst ey
    cases (show u = Value.ref b from ry)
    obtain ⟨z, hd, xs, rel, dd⟩ := nj I.hok e
    refine wpAny_notIn_heap (tupleKind_room_in1 hu) (ml I.hok eb) hd dd ?_
    have q := (rel.val k).isSome_eq
    rw [Option.isSome_map] at q
    rw [← q, ← l]
    exact h _ (I.tok _)
theorem nq {h' : Heap} {t' : Nat} {ob : HO} (I : Inv X pins σ H s) (mu : Mut (H a)) (hs : Heap.SameBut a s.heap h') (he : ∃ q, h'.get? a = some q) (new : ObjOk X.prog X.w (upd H a ob) h' a ob) :
    Inv X pins σ (upd H a ob) { s with heap := h', toks := t' } :=
  I.write (x := a) (e := a) mu (.inl rfl) (fun b q hb z => (hs.2 b hb).trans z) he new
theorem pc {P : Program} {w : World} {H' : Hp} {h' : Heap} {kvs : List (Key × V)} {vs : List (Key × Value)} (z : kvs.length ≤ sizeLine) (hd : (a == sysModules) = false) (rel : KV kvs vs) (dd : h'.DictOf (bz P w) a vs) :
    ObjOk P w H' h' a (.dK kvs) := ⟨z, hd, vs, rel, dd⟩
theorem a0f {H' : Hp} {Q : Unit → Shared → Prop} (hu : A.units + 1 < cLine) (I : Inv X pins σ H s) (g : DPut H a y v H') (ry : RelV y u) (rv : RelV v r) (h : ∀ s', Inv X pins σ H' s' → Q () s') :
    wpAny (model X.prog X.w) A (setItem (.ref a) u r) Q E s := by
  rcases g with ⟨kvs, k, e, ey, l, eH⟩ | ⟨kvs, k, b, e, ey, eb, l, eH⟩
  · subst ey eH
    obtain ⟨z, hd, vs, rel, dd⟩ := yn I.hok e
    have hz : vs.length ≤ sizeLine := by rw [← rel.length]; exact z
    have hl : (putK kvs k v).length ≤ sizeLine := by have := j4 kvs k v; lia
    refine wpAny_setItem_pairs (hsz := hz) (ld ry) dd fun h' dd' hs => h _ ?_
    have he : ∃ q, h'.get? a = some q := let ⟨q, _, _, hq, _⟩ := dd'; ⟨q, hq⟩
    exact nq I (by rw [e]; exact True.intro) hs he (pc hl hd (rel.put k rv) dd')
  · subst ey eH
    cases (show u = Value.ref b from ry)
    obtain ⟨z, hd, xs, rel, dd⟩ := a6x I.hok e
    have hz : xs.length ≤ sizeLine := by rw [← Paired.length rel]; exact z
    have hl : (putK kvs k v).length ≤ sizeLine := by have := j4 kvs k v; lia
    refine wpAny_setItem_heap (hsz := hz) (tupleKind_room_in1 hu) (ml I.hok eb) dd fun h' dd' hs => h _ ?_
    obtain ⟨q, es, ep, hq, h2, h3, h4, _, h5⟩ := dd'
    refine nq I (by rw [e]; exact True.intro) hs ⟨q, hq⟩ ⟨hl, hd, _, (rel.put k eb rv).keeps fun c ys ec => ?_, q, es, ep, hq, h2, h3, h4, h5⟩
    rw [ah (a6k ec e (fun z => nomatch z))]
    exact ec
end
section
variable {X : Cx} {pins : List (Addr × Obj)} {σ : St} {H : Hp} {s : Shared} {a : Addr} {kvs : List (Key × V)} {k : Key} {u : Value} {A : Around} {E : Value → Shared → Prop}
theorem a6j {v : V} {more : List Value} {Q : Value → Shared → Prop} (I : Inv X pins σ H s) (e : H a = some (.dK kvs)) (ry : RelV (kV k) u) (l : valV kvs k = some v) (hm : more = [] ∨ ∃ x, more = [x])
    (h : ∀ w' s', Inv X pins σ (upd H a (.dK (i8 kvs k))) s' → RelV v w' → Q w' s') : wpAny (model X.prog X.w) A (call (.builtin "dict.pop") (.ref a :: u :: more)) Q E s := by
  obtain ⟨z, hd, vs, rel, dd⟩ := yn I.hok e
  obtain ⟨w', hw, rw'⟩ := RelO.some_of (v := v) (o := valueAt vs k) (by rw [← l]; exact rel.val k)
  have hp : (keyPart u).isSome = true := by
    cases k with
    | inl i => obtain ⟨t, q⟩ := (show ∃ t, u = Value.int i t from ry); subst q; rfl
    | inr x => obtain ⟨t, q⟩ := (show ∃ t, u = Value.str x t from ry); subst q; rfl
  have ha : argsOk "dict.pop" ⟨.ref a :: u :: more, []⟩ := by
    rcases hm with q | ⟨x, q⟩
    · subst q; exact PySem.F.args_dict_pop_2 _ _
    · subst q; exact PySem.F.args_dict_pop_3 _ _ _
  refine call_meetsIn PySem.F.slot_dict_pop dd.typeIs PySem.F.entry_dict_pop ha (meets_dict_pop_there (bz X.prog X.w) a (ld ry) more hm hp)
    ⟨vs, w', dd, by rw [← rel.length]; exact z, hw, fun h' dd' hs => h w' _ ?_ rw'⟩
  have he : ∃ q, h'.get? a = some q := let ⟨q, _, _, hq, _⟩ := dd'; ⟨q, hq⟩
  exact nq I (by rw [e]; exact True.intro) hs he (pc (Nat.le_trans (a2r kvs k) z) hd (rel.drop k) dd')
theorem a70 {Q : Value → Shared → Prop} (I : Inv X pins σ H s) (e : Rd H a (.dK kvs)) (h : ∀ t s', Inv X pins σ H s' → Q (.int kvs.length t) s') : wpAny (model X.prog X.w) A (call (.builtin "len") [.ref a]) Q E s := by
  obtain ⟨z, hd, vs, rel, dd⟩ := fb I.hok e
  refine call_len_dict hd dd (by rw [← rel.length]; rw [sizeLine_eq] at z; lia) ?_
  rw [← rel.length]
  exact h _ _ (I.tok _)
end
noncomputable def NoSl (i : Expr) : Prop := ∀ ov iv, subscripted i false ov iv = operate [ov, iv] (getItem ov iv)
theorem a4q {prog : Program} {w : World} {A : Around} {E : Value → Shared → Prop} {s : Shared} {env : Env} {value slice : Expr} {pos : Pos} {T id : String} {Q : Value → Shared → Prop}
    (hl : typeLookup (.type T) "__getitem__" = pure (some (.builtin id))) (hs : NoSl slice)
    (h : wpAny (model prog w) A (eval value env) (fun o s₁ => wpAny (model prog w) A (eval slice env) (fun i s₂ => s₂.TypeIs o T ∧ wpAny (model prog w) A (getItem o i) Q E s₂) E s₁) E s) :
    wpAny (model prog w) A (eval (.Subscript value slice pos) env) Q E s := by
  refine Subscript_ (wpAny_mono h (fun o s₁ h₁ => wpAny_mono h₁ (fun i s₂ h₂ => ?_) fun _ _ x => x) fun _ _ x => x)
  obtain ⟨hT, h₂⟩ := h₂
  unfold subscriptTail
  refine wpAny_bind ?_
  rw [getitemInPython_of_ne hT.not_modules]
  refine wpAny_bind (wpAny_specialOf hT hl ?_)
  have fin : wpAny (model prog w) A (subscripted slice false o i) (fun r s₃ => wpAny (model prog w) A (letTemporaryGo value o r >>= fun _ => pure r) Q E s₃) E s₂ := by
    rw [hs o i]
    exact wpAny_operating (wpAny_mono h₂ (fun r s₃ h₃ => wpAny_bind (wpAny_letTemporaryGo (wpAny_pure h₃))) fun _ _ x => x)
  first
    | exact wpAny_pure (wpAny_bind fin)
    | exact wpAny_bind (wpAny_pure (wpAny_bind fin))
    | exact wpAny_bind fin
theorem wg {X : Cx} {pins : List (Addr × Obj)} {σ : St} {H : Hp} {s : Shared} {a : Addr} {y : V} {o : Option V} (I : Inv X pins σ H s) (g : DGet H a y o) : s.TypeIs (.ref a) "dict" := by
  rcases g with ⟨kvs, k, e, _, _⟩ | ⟨kvs, k, b, e, _, _, _⟩
  · obtain ⟨_, _, vs, _, dd⟩ := fb I.hok e
    exact dd.typeIs
  · obtain ⟨_, _, xs, _, dd⟩ := nj I.hok e
    exact dd.typeIs
inductive tDGetS (x y : V) (H2 : Hp) (Q : VK) : Prop
  | mk (a : Addr) (v : V) (h0 : x = .ref a) (h1 : DGet H2 a y (some v)) (h2 : Q v H2) : tDGetS x y H2 Q
noncomputable def a3r (td ty : TE) : TE := fun σ H Q => td σ H fun x H1 => ty σ H1 fun y H2 => tDGetS x y H2 Q
inductive tDInS (x y : V) (H2 : Hp) (Q : VK) : Prop
  | mk (a : Addr) (o : Option V) (h0 : x = .ref a) (h1 : DGet H2 a y o) (h2 : Q (.bl o.isSome) H2) : tDInS x y H2 Q
noncomputable def tDIn (ty td : TE) : TE := fun σ H Q => ty σ H fun y H1 => td σ H1 fun x H2 => tDInS x y H2 Q
noncomputable def qp (ty td : TE) : TE := fun σ H Q => ty σ H fun y H1 => td σ H1 fun x H2 => ∃ a o, x = .ref a ∧ DGet H2 a y o ∧ Q (.bl (!o.isSome)) H2
inductive sDPutS (D : Ends) (σ : St) (v x y : V) (H3 : Hp) : Prop
  | mk (a : Addr) (H4 : Hp) (h0 : x = .ref a) (h1 : DPut H3 a y v H4) (h2 : D.nx σ H4) : sDPutS D σ v x y H3
noncomputable def a3l (td ty tv : TE) : TS := fun D σ H => tv σ H fun v H1 => td σ H1 fun x H2 => ty σ H2 fun y H3 => sDPutS D σ v x y H3
section
variable {X : Cx} {o i e value : Expr} {pos pos' tpos : Pos} {td ty tv : TE}
theorem a4y (hu : X.A.units + 1 < cLine) (ho : PE X o td) (hi : PE X i ty) (hs : NoSl i) : PE X (.Subscript o i pos) (a3r td ty) := by
  intro pins s σ H Q I h
  refine a4q PySem.F.slot_dict_getitem.lookup hs (thn (ho pins s σ H _ I h) fun u s1 ⟨x, H1, I1, rx, q1⟩ => thn (hi pins s1 σ H1 _ I1 q1) fun iv s2 zq => ?_)
  obtain ⟨y, H2, I2, ry, a, v, ex, g, q2⟩ := zq
  subst ex
  obtain rfl : u = Value.ref a := rx
  exact ⟨wg I2 g, a0v hu I2 g ry fun w' s3 I3 rw' => ⟨v, H2, I3, rw', q2⟩⟩
theorem a07 (hu : X.A.units + 1 < cLine) (hi : PE X i ty) (ho : PE X o td) : PC X .In i o (tDIn ty td) := by
  intro pins s σ H Q I h
  refine thn (hi pins s σ H _ I h) fun iv s1 ⟨y, H1, I1, ry, q1⟩ => thn (ho pins s1 σ H1 _ I1 q1) fun u s2 zq => ?_
  obtain ⟨x, H2, I2, rx, a, ov, ex, g, q2⟩ := zq
  subst ex
  obtain rfl : u = Value.ref a := rx
  exact d_in hu I2 g ry fun s3 I3 => ⟨.bl ov.isSome, H2, I3, rfl, q2⟩
theorem a06 (hu : X.A.units + 1 < cLine) (hi : PE X i ty) (ho : PE X o td) : PC X .NotIn i o (qp ty td) := by
  intro pins s σ H Q I h
  refine thn (hi pins s σ H _ I h) fun iv s1 ⟨y, H1, I1, ry, q1⟩ => thn (ho pins s1 σ H1 _ I1 q1) fun u s2 zq => ?_
  obtain ⟨x, H2, I2, rx, a, ov, ex, g, q2⟩ := zq
  subst ex
  obtain rfl : u = Value.ref a := rx
  exact a4l hu I2 g ry fun s3 I3 => ⟨.bl (!ov.isSome), H2, I3, rfl, q2⟩
theorem a51 (hu : X.A.units + 1 < cLine) (ho : PE X o td) (hi : PE X i ty) (hv : PE X value tv) (hs : swapsWith value (some (.Subscript o i pos')) pos.line X.env = pure false) :
    PS X (.Assign [.Subscript o i pos'] value pos) (a3l td ty tv) := by
  intro pins s σ H D I h
  refine wpAny_Assign_Subscript (thn (hv pins s σ H _ I h) fun r s1 ⟨v, H1, I1, rv, q1⟩ => thn (ho pins s1 σ H1 _ I1 q1) fun u s2 ⟨x, H2, I2, rx, q2⟩ => thn (hi pins s2 σ H2 _ I2 q2) fun iv s3 ⟨y, H3, I3, ry, a, H4, ex, g, q3⟩ => ?_) hs
  subst ex
  obtain rfl : u = Value.ref a := rx
  exact a0f hu I3 g ry rv fun s4 I4 => ⟨σ, H4, I4, q3⟩
end
theorem vy {P : Program} {w : World} {H : Hp} (h : Heap) (hb : sysModules < h.objs.size) : ObjOk P w H (h.push { cls := .type "dict", data := .dict #[] }) h.objs.size (.dK []) :=
  ⟨Nat.zero_le _, beq_eq_false_iff_ne.mpr (Ne.symm (Nat.ne_of_lt hb)), [], .nil, Heap.DictOf.new h⟩
noncomputable def zo : TE := fun _ H Q => ∀ p, H p = none → Q (.ref p) (upd H p (.dK []))
section
variable {X : Cx} {pos : Pos}
theorem a1w : PE X (.Dict [] [] pos) zo := fun pins s σ H Q I h =>
  wpAny_Dict_empty ⟨.ref s.heap.objs.size, _, I.laid (a := s.heap.objs.size) (o := .dK []) (t' := s.toks) (fun _ _ q => Heap.get?_push_of_some _ q) (Nat.le_refl _) (vy s.heap I.big), rfl, h _ (I.hok.fresh (Nat.le_refl _))⟩
end
noncomputable def vk : List (TE × TE) → St → Hp → (List (V × V) → Hp → Prop) → Prop
  | [], _, H, Q => Q [] H
  | (tk, tv) :: r, σ, H, Q => tk σ H fun x H1 => tv σ H1 fun y H2 => vk r σ H2 fun ps H3 => Q ((x, y) :: ps) H3
abbrev VV : List (V × V) → List (Value × Value) → Prop := Paired fun p q => RelV p.1 q.1 ∧ RelV p.2 q.2
noncomputable def PPs (X : Cx) (pos : Pos) (keys : List (Option Expr)) (values : List Expr) (trs : List (TE × TE)) : Prop :=
  ∀ (pins : List (Addr × Obj)) (s : Shared) (σ : St) (H : Hp) (Q : List (V × V) → Hp → Prop), Inv X pins σ H s → vk trs σ H Q →
    wpAny (model X.prog X.w) X.A (evalPairs (pairTrees keys values X.env pos)) (fun vs s' => ∃ ps H', Inv X pins σ H' s' ∧ VV ps vs ∧ Q ps H') X.xe s
theorem a46 {X : Cx} {pos : Pos} : PPs X pos [] [] [] := fun pins s σ H Q I h => pairTrees_nil_walk ⟨[], H, I, .nil, h⟩
theorem uk {X : Cx} {pos : Pos} {k v : Expr} {ks : List (Option Expr)} {vs : List Expr} {tk tv : TE} {trs : List (TE × TE)} (hk : PE X k tk) (hv : PE X v tv) (hr : PPs X pos ks vs trs) :
    PPs X pos (some k :: ks) (v :: vs) ((tk, tv) :: trs) := fun pins s σ H Q I h =>
  pairTrees_cons_walk (thn (hk pins s σ H _ I h) fun u s1 ⟨x, H1, I1, rx, q1⟩ => thn (hv pins s1 σ H1 _ I1 q1) fun w2 s2 ⟨y, H2, I2, ry, q2⟩ =>
    thn (hr pins s2 σ H2 _ I2 q2) fun ws s3 ⟨ps, H3, I3, rel, q3⟩ => ⟨(x, y) :: ps, H3, I3, .cons ⟨rx, ry⟩ rel, q3⟩)
noncomputable def mt (kvs more : List (Key × V)) : List (Key × V) := more.foldl (fun acc kv => putK acc kv.1 kv.2) kvs
theorem KV.merge : ∀ {more : List (Key × V)} {rs : List (Key × Value)} {kvs : List (Key × V)} {vs : List (Key × Value)}, KV more rs → KV kvs vs → KV (mt kvs more) (merged vs rs) := by
  intro more rs kvs vs r
  unfold KV at r
  induction r generalizing kvs vs with
  | nil => intro q; exact q
  | @cons p q ps qs h t ih =>
    intro r0
    have e : KV (putK kvs p.1 p.2) (stored vs q.1 q.2) := by
      have := r0.put p.1 h.2
      rw [← h.1]; exact this
    exact ih e
theorem li : ∀ (more kvs : List (Key × V)), (mt kvs more).length ≤ kvs.length + more.length
  | [], kvs => by show kvs.length ≤ kvs.length + 0; lia
  | p :: r, kvs => by
    have h1 := li r (putK kvs p.1 p.2)
    have h2 := j4 kvs p.1 p.2
    show (mt (putK kvs p.1 p.2) r).length ≤ _
    rw [List.length_cons]; lia
theorem ph {P : Program} {w : World} : ∀ {kvs : List (Key × V)} {ws : List (Value × Value)}, VV (kvs.map fun kv => (kV kv.1, kv.2)) ws → ∃ rs, Carries (bz P w) ws rs ∧ KV kvs rs
  | [], _, r => by rw [List.map_nil] at r; cases r; exact ⟨[], True.intro, .nil⟩
  | p :: kvs, _, r => by
    rw [List.map_cons] at r
    cases r with
    | @cons a b as bs h t =>
      obtain ⟨rs, c, q⟩ := ph (P := P) (w := w) t
      obtain ⟨b1, b2⟩ := b
      exact ⟨(p.1, b2) :: rs, ⟨ld h.1, rfl, c⟩, .cons ⟨rfl, h.2⟩ q⟩
noncomputable def a3h (trs : List (TE × TE)) : TE := fun σ H Q => ∀ p, H p = none → vk trs σ (upd H p (.dK [])) fun ps H2 => H2 p = some (.dK []) ∧ ∃ kvs : List (Key × V), ps = kvs.map (fun kv => (kV kv.1, kv.2)) ∧ kvs.length ≤ 15 ∧ Q (.ref p) (upd H2 p (.dK (mt [] kvs)))
theorem a4e {X : Cx} {pos : Pos} {keys : List (Option Expr)} {values : List Expr} {trs : List (TE × TE)} (h : PPs X pos keys values trs) (hall : keys.all (·.isSome) = true) (hl : keys.length = values.length) (h0 : keys ≠ [])
    (h15 : keys.length ≤ 15) : PE X (.Dict keys values pos) (a3h trs) := by
  intro pins s σ H Q I q
  have hn := I.hok.fresh (Nat.le_refl s.heap.objs.size)
  have I1 := I.laid (a := s.heap.objs.size) (o := .dK []) (h' := s.heap.push { cls := .type "dict", data := .dict #[] }) (t' := s.toks) (fun _ _ q => Heap.get?_push_of_some _ q) (Nat.le_refl _) (vy s.heap I.big)
  refine wpAny_Dict_walk (knd := bz X.prog X.w) hall hl h0 h15 (thn (h pins _ σ _ _ I1 (q _ hn)) fun ws s2 zq => ?_)
  obtain ⟨ps, H2, I2, rel, e, kvs, ep, lk, q2⟩ := zq
  subst ep
  obtain ⟨rs, c, rk⟩ := ph (P := X.prog) (w := X.w) rel
  obtain ⟨z, hd, vs0, r0, dd⟩ := yn I2.hok e
  cases r0
  refine ⟨rs, c, dd, fun h' dd' hs => ⟨.ref s.heap.objs.size, _, ?_, rfl, q2⟩⟩
  have hz : (mt [] kvs).length ≤ sizeLine := by
    have h1 := li kvs []
    rw [List.length_nil] at h1
    rw [sizeLine_eq]; lia
  have he : ∃ q, h'.get? s.heap.objs.size = some q := let ⟨q, _, _, hq, _⟩ := dd'; ⟨q, hq⟩
  exact nq I2 (by rw [e]; exact True.intro) hs he (pc hz hd (rk.merge .nil) dd')
structure M1 (X : Cx) (o : Expr) (m : Str) (apos : Pos) (e : Expr) (cpos : Pos) : Prop where
  base : attributeBase o m X.env (eval o X.env) = eval o X.env
  few : ((backTo cpos (starEach [e] X.env)).all (fun x => !x.1) && (backToKw cpos (keywordEach [] X.env)).all (fun x => x.1.isSome)
    && decide (([e] : List Expr).length + ([] : List Keyword).length + (if ([] : List Keyword).isEmpty then 0 else 1) < 30)) = true
  line : (apos.endLine == cpos.line) = true
  trees : backTo cpos (starEach [e] X.env) = [(false, eval e X.env)]
noncomputable def IsD (H : Hp) (a : Addr) : Prop := (∃ kvs, Rd H a (.dK kvs)) ∨ ∃ kvs, Rd H a (.dT kvs)
theorem a5g {X : Cx} {pins : List (Addr × Obj)} {σ : St} {H : Hp} {s : Shared} {a : Addr} (I : Inv X pins σ H s) (d : IsD H a) :
    s.TypeIs (.ref a) "dict" ∧ (∀ b, Value.ref a = .ref b → ∃ ob, s.heap.get? b = some ob ∧ ob.dict = none) ∧ (a == sysModules) = false := by
  rcases d with ⟨kvs, e⟩ | ⟨kvs, e⟩
  · obtain ⟨_, hd, vs, _, dd⟩ := fb I.hok e
    refine ⟨dd.typeIs, fun b q => ?_, hd⟩
    cases q
    obtain ⟨ob, _, _, h1, h2, _⟩ := dd
    exact ⟨ob, h1, h2.2.1⟩
  · obtain ⟨_, hd, xs, _, dd⟩ := nj I.hok e
    refine ⟨dd.typeIs, fun b q => ?_, hd⟩
    cases q
    obtain ⟨ob, _, _, h1, h2, _⟩ := dd
    exact ⟨ob, h1, h2.2.1⟩
section
variable {X : Cx} {pins : List (Addr × Obj)} {σ : St} {H : Hp} {s : Shared} {a : Addr} {y d : V} {u r : Value} {o : Option V} {A : Around} {E : Value → Shared → Prop}
end
noncomputable def zj (td ty : TE) : TE := fun σ H Q => td σ H fun x H1 => ∃ a, x = .ref a ∧ IsD H1 a ∧ ty σ H1 fun y H2 => ∃ kvs k v, H2 a = some (.dK kvs) ∧ y = kV k ∧ valV kvs k = some v ∧ Q v (upd H2 a (.dK (i8 kvs k)))
section
variable {X : Cx} {o e f : Expr} {apos cpos : Pos} {td ty tx : TE}
theorem a1p (ho : PE X o td) (he : PE X e ty) (m : M1 X o "pop" apos e cpos) : PE X (.Call (.Attribute o "pop" apos) [e] [] cpos) (zj td ty) := by
  intro pins s σ H Q I h
  refine wpAny_Call_method m.base m.few m.line PySem.F.plainAttrs_dict PySem.F.slot_dict_pop PySem.F.type_dict_pop (thn (ho pins s σ H _ I h) fun u s1 zq => ?_)
  obtain ⟨x, H1, I1, rx, a, ex, d, q1⟩ := zq
  subst ex
  obtain rfl : u = Value.ref a := rx
  obtain ⟨t1, t2, _⟩ := a5g I1 d
  refine ⟨t1, t2, ?_⟩
  rw [m.trees]
  refine Calls.callWith_builtin rfl (Calls.evalArgs_plain (Calls.spliced_cons (thn (he pins s1 σ H1 _ I1 q1) fun iv s2 ⟨y, H2, I2, ry, kvs, k, v, ea, ey, l, q2⟩ => Calls.spliced_nil ?_)))
  subst ey
  exact a6j I2 ea ry l (.inl rfl) fun w' s3 I3 rw' => ⟨v, _, I3, rw', q2⟩
end
section
variable {X : Cx} {pins : List (Addr × Obj)} {σ : St} {H : Hp} {s : Shared} {a : Addr} {kvs : List (Key × V)} {A : Around} {E : Value → Shared → Prop}
theorem a2y {Q : Value → Shared → Prop} (I : Inv X pins σ H s) (e : Rd H a (.dK kvs)) (h : ∀ p s', H p = none → Inv X pins σ (upd H p (.dK kvs)) s' → Q (.ref p) s') : wpAny (model X.prog X.w) A (call (.type "dict") [.ref a]) Q E s := by
  obtain ⟨z, hd, vs, rel, dd⟩ := fb I.hok e
  refine kt_call_dict hd dd (by rw [← rel.length]; exact z) fun h' dd' hs => ?_
  refine h _ _ (I.hok.fresh (Nat.le_refl _)) (I.laid (a := s.heap.objs.size) (o := .dK kvs) (t' := s.toks) (fun b q hq => ?_) (Nat.le_refl _) (pc z (beq_eq_false_iff_ne.mpr (Ne.symm (Nat.ne_of_lt I.big))) rel dd'))
  exact (hs.2 b (Nat.ne_of_lt (Heap.lt_size hq))).trans (Heap.get?_push_of_some _ hq)
end
section
variable {X : Cx} {pins : List (Addr × Obj)} {σ : St} {H : Hp} {s : Shared} {a : Addr} {y : V} {u : Value} {A : Around} {E : Value → Shared → Prop}
end
section
variable {X : Cx}
theorem mo : cw X (.builtin "len") (fun xs H Q => ∃ a kvs, xs = [V.ref a] ∧ H a = some (.dK kvs) ∧ Q (.int kvs.length) H) := by
  intro pins s σ H xs us Q I r h
  obtain ⟨a, kvs, rfl, ha, q⟩ := h
  obtain ⟨u, rfl, ru⟩ := nk r
  cases ru
  exact a70 I (.inl ha) fun t s' I' => ⟨.int kvs.length, H, I', ⟨t, rfl⟩, q⟩
end
section
variable {κ : Type} [DecidableEq κ]
theorem a2h {kvs : List (κ × V)} {k : κ} (h : valV kvs k = none) : ¬ k ∈ kvs.map (·.1) := by
  intro m
  obtain ⟨p, hp, e⟩ := List.mem_map.mp m
  have q : (kvs.any fun kv => decide (kv.1 = k)) = true := List.any_eq_true.mpr ⟨p, hp, decide_eq_true e⟩
  rw [kw, h] at q
  exact absurd q (by simp)
theorem g5 : ∀ {l : List κ} {k : κ}, l.Nodup → ¬ k ∈ l → (l ++ [k]).Nodup
  | [], k, _, _ => by simp
  | a :: r, k, h, hk => by
    obtain ⟨h1, h2⟩ := List.nodup_cons.mp h
    show (a :: (r ++ [k])).Nodup
    refine List.nodup_cons.mpr ⟨fun m => ?_, g5 h2 fun m => hk (List.mem_cons.mpr (Or.inr m))⟩
    rcases List.mem_append.mp m with q | q
    · exact h1 q
    · exact hk (List.mem_cons.mpr (Or.inl (List.mem_singleton.mp q).symm))
end
end L2
namespace L2
open PySem PySem.Spec PyProof.Rows
section
variable {X : Cx} {pins : List (Addr × Obj)} {σ : St} {H : Hp} {s : Shared} {h' : Heap}
end
section
variable {X : Cx}
end
end L2
namespace L2
open PySem PySem.Spec PyProof.Rows
section
variable {X : Cx}
theorem yp {elt iter : Expr} {x yv : Str} {px pos py pos2 : Pos} {iy : Nat} {ifs : List Expr} {sc : Scope} {cl : List (Str × Addr)} {ix : List Nat} {wi : TI} {tc : TT} {te : TE} (N : List Str) (hNd : X.N.Nodup) (hiy : X.N[iy]? = some yv) (hyv : Loc X.env.scope yv) (hsw : swapsWith (.ListComp elt [⟨.Name x px, iter, ifs, 0⟩] sc pos) (some (.Name yv py)) pos2.line X.env = pure true) (hfy : X.fn yv = true ∨ X.env.scope.names.lookup yv = some .local)
    (hc : X.calm = true) (hi : PI X (.Name x px) iter wi) (hif : ∀ s H C ex, PTs (blk X N s H sc cl C ex) ifs tc) (he : ∀ s H C ex, PE (blk X N s H sc cl C ex) elt te)
    (hkind : sc.kind = .function) (hN : N = x :: ix.map fun j => (X.N[j]?).getD "") (hnd : N.Nodup) (hx : sc.names.lookup x = some .local)
    (hcl : closureFor sc X.env = pure cl) (hcell : ∀ y ∈ sc.names, y.2 ≠ .cell) (hnames : ∀ y ∈ sc.names, y.2 = .local → sc.names.lookup y.1 = some .local)
    (hsub : ∀ y c, cl.lookup y = some c → X.env.cells.lookup y = some c) (hhas : ∀ y, ((relabel sc X.env).names.lookup y = some .cell ∨ (relabel sc X.env).names.lookup y = some .free) → ∃ c, cl.lookup y = some c)
    (hix : ∀ j ∈ ix, ∃ y, X.N[j]? = some y ∧ X.env.kindOf y = some .cell ∧ (relabel sc X.env).names.lookup y = some .cell)
    (hs : ∀ x, foldedSetIterable iter X.env x = pure x := by intro _; rfl) :
    PS X (.Assign [.Name yv py] (.ListComp elt [⟨.Name x px, iter, ifs, 0⟩] sc pos) pos2) (tAsg (lb ix wi tc te) (du iy)) := by
  intro pins s σ H D0 I h
  rw [exec_Assign_Name_used _ _ _ _ hsw]
  refine wpAny_bind (wpAny_standAt (wpAny_bind ?_))
  show wpAny _ _ (comprehension _ _ _ _ _ _ _ _ >>= _) _ _ _
  refine wpAny_bind (wpAny_mono (Q := fun _ s' => SP X pins D0 .next s') (wpAny_comprehension_free (use := some (assign (.Name yv py) X.env)) rfl hs hcl hkind hnames ?_) (fun _ s' q => wpAny_pure (wpAny_pure q)) fun _ _ y => y)
  refine thn (hi pins s σ H _ I h) fun v s1 h1 => thn h1 fun itv s2 h2 => ?_
  obtain ⟨it, fp, tn, J, H2, e, I2, T, st2, f2, q2⟩ := h2
  subst e
  have fr2 : H2 s2.heap.objs.size = none := I2.hok.fresh (Nat.le_refl _)
  obtain ⟨W, ⟨m0, w0⟩, turn⟩ := q2 s2.heap.objs.size fr2
  refine wpAny_newObj_type ?_
  have I3 : Inv X pins σ (upd H2 s2.heap.objs.size (.lst [])) { s2 with heap := s2.heap.push { cls := .type "list", dict := none, data := .seq ([] : List Value).toArray } } := by
    exact I2.lnew (its := []) (ys := []) (t' := s2.toks) .nil (Nat.zero_le _)
  have lt2 : ∀ b ∈ fp, b < s2.heap.objs.size := fun b hb => by
    obtain ⟨o, ho, _⟩ := T.obj _ _ st2 b hb
    exact Heap.lt_size ho
  have f3 : ∀ b ∈ fp, FpOk X pins (upd H2 s2.heap.objs.size (.lst [])) b := fun b hb => ⟨by rw [ah (Nat.ne_of_lt (lt2 b hb))]; exact (f2 b hb).1, (f2 b hb).2⟩
  generalize hs3 : ({ s2 with heap := s2.heap.push { cls := .type "list", dict := none, data := .seq ([] : List Value).toArray } } : Shared) = s3 at I3
  have hsz3 : s2.heap.objs.size ≤ s3.heap.objs.size := by rw [← hs3]; show _ ≤ (s2.heap.push _).objs.size; rw [Heap.size_push]; exact Nat.le_succ _
  have tn3 : tn 0 s3.heap := T.keep _ _ _ st2 fun b _ o e => by rw [← hs3]; exact Heap.get?_push_of_some _ e
  have lt3 : ∀ b ∈ fp, b < s3.heap.objs.size := fun b hb => Nat.lt_of_lt_of_le (lt2 b hb) hsz3
  refine wpAny_newFunctionEnv hcell (by intro y hy; simp at hy) (fun h4 hns4 hsb4 => ?_) hkind
  have old : ∀ b o, s3.heap.get? b = some o → h4.get? b = some o := fun b o e => hsb4.extBut b o (Nat.ne_of_lt (Heap.lt_size e)) (Heap.get?_push_of_some _ e)
  have I4 := yb (m := _) (tk := s3.toks + ([] : List (Str × Value)).length) (N := N) I3 hkind hN hsub hhas hix f3 lt3 hns4 old
  have tn4 : tn 0 h4 := T.keep _ _ _ tn3 fun b _ o e => old b o e
  have fpB : ∀ {H' : Hp}, (∀ b ∈ fp, H' b = none) → ∀ b ∈ fp, FpOk (blk X N s3 (upd H2 s2.heap.objs.size (.lst [])) sc cl s3.heap.objs.size fp) [] H' b := fun {H'} hn b hb =>
    ⟨hn b hb, Nat.ne_of_lt (lt3 b hb), I4.ok.exfs b hb, .inl hb, fun y c e => (I4.ok.exf b hb).2 y c e, fun p hp => absurd (show p ∈ ([] : List (Addr × Obj)) from hp) (by simp)⟩
  have loop : codeAny (model X.prog X.w) X.A (.compLoop (.ListComp elt [⟨.Name x px, iter, ifs, 0⟩] sc pos) 0 (.ref it) (.ref s2.heap.objs.size) (compEnvC sc cl s3.heap.objs.size X.env))
      (compPost (model X.prog X.w) X.A X.xe (some (assign (.Name yv py) X.env)) (fun _ s' => SP X pins D0 .next s') (.ref s2.heap.objs.size) s3.heap.objs.size) { s3 with heap := h4, toks := s3.toks + ([] : List (Str × Value)).length } := by
    refine o6 (fun n s' => ∃ i v0 H', Inv (blk X N s3 (upd H2 s2.heap.objs.size (.lst [])) sc cl s3.heap.objs.size fp) [] (v0 :: cy σ ix) H' s' ∧ tn i s'.heap ∧ (∀ b ∈ fp, H' b = none) ∧ W i n H') ?_ m0
      ⟨0, none, _, I4, tn4, fun b hb => (f3 b hb).1, w0⟩
    rintro n s5 ⟨i, v0, H5, I5, st5, fr5, w5⟩
    rcases turn i n H5 w5 with ⟨stop, qn⟩ | ⟨go, step⟩
    · refine thn (T.done (blk X N s3 (upd H2 s2.heap.objs.size (.lst [])) sc cl s3.heap.objs.size fp) rfl rfl rfl hc i [] s5 _ H5 _ I5 (fpB fr5) st5 stop) fun r s6 zq => ?_
      obtain ⟨hr, I6⟩ := zq
      subst hr
      obtain ⟨mm, hm, _⟩ := I6.loc
      have I7 : Inv X pins σ H5 s6 := by
        have hC : H5 s3.heap.objs.size = none := I6.free
        have hc3 : s3.heap.get? s3.heap.objs.size = none := Heap.get?_none_of_le (Nat.le_refl _)
        have up : ∀ b o, b ≠ s3.heap.objs.size → s6.heap.get? b = some o → s6.heap.get? b = some o := fun b o hb e => e
        have neC : ∀ b o, s3.heap.get? b = some o → b ≠ s3.heap.objs.size := fun b o e => Nat.ne_of_lt (Heap.lt_size e)
        have u := I6.base
        refine I3.call' (s' := s6) (ch := fp) I6.os ⟨fun b o e n hb hx => ?_, fun b o e n hb hx => ?_, fun b o e n hx => u.free b o e n hx, fun b o e hx => ?_, u.tups, u.frzs, u.tbls⟩ (fun b o e => ?_) I6.bare fun b hb => ⟨(f3 b hb).2.2.2.1, (f3 b hb).2.1, (f3 b hb).2.2.2.2.1, (f3 b hb).2.2.2.2.2⟩
        · exact up b o (neC b o e) (u.keep b o e n hb hx)
        · obtain ⟨sl, e1⟩ := u.slot b o e n hb hx
          exact ⟨sl, up b _ (neC b o e) e1⟩
        · obtain ⟨o', e1⟩ := u.there b o e hx
          exact ⟨o', up b _ (neC b o e) e1⟩
        · refine (I6.hok b o e).stay (fun c v hc' q => up c v ?_ q) (fun _ q => q) fun _ _ q => q
          rintro rfl
          rcases hc' with z | z
          · rw [← z, hC] at e; cases e
          · rw [hC] at z; cases z
      have hCn : H5 s3.heap.objs.size = none := I6.free
      have hCl : s3.heap.objs.size ≠ X.env.locals := Nat.ne_of_gt I3.lt
      have hCc : ∀ z c, X.env.cells.lookup z = some c → c ≠ s3.heap.objs.size := fun z c e e2 => by
        obtain ⟨v', q⟩ := I3.cell z c e
        exact absurd (e2 ▸ q.lt) (Nat.lt_irrefl _)
      refine wpAny_assign_Name (rz I7 hNd hiy hyv (show RelV (V.ref s2.heap.objs.size) (Value.ref s2.heap.objs.size) from rfl) (fun s8 I8 hsb => ?_) hfy)
      obtain ⟨a8, sb8, ha8⟩ := hsb
      have hna : s3.heap.objs.size ≠ a8 := by
        rcases ha8 with z | z
        · rw [z]; exact hCl
        · exact Ne.symm (hCc _ _ z)
      obtain ⟨oC, esC, epC, hoC, rC⟩ := hm
      refine ⟨mm, ⟨oC, esC, epC, sb8.extBut _ _ hna hoC, rC⟩, fun h9 sb9 => ?_⟩
      refine ⟨_, H5, I8.turned (t' := s8.toks) (it := s3.heap.objs.size) (fun b o hb e => sb9.extBut b o hb e) hCn hCl (.inr I3.sz) hCc (fun p hp e2 => ?_), qn⟩
      exact absurd (e2 ▸ Heap.lt_size (I3.pin p hp).1) (Nat.lt_irrefl _)
    · refine thn (T.item (blk X N s3 (upd H2 s2.heap.objs.size (.lst [])) sc cl s3.heap.objs.size fp) rfl rfl rfl hc i [] s5 _ H5 _ I5 (fpB fr5) st5 go) fun r s6 zq => ?_
      obtain ⟨u, hr, h6⟩ := zq
      subst hr
      refine thn h6 fun _ s7 zq => ?_
      obtain ⟨y, H7, I7, r7, y7, st7, fr7⟩ := zq
      have I7' := I7.pinned (fpB fr7) (T.obj _ _ st7)
      refine wpAny_assign_Name (kr (i := 0) I7' hnd (by show N[0]? = some x; rw [hN]; rfl) (.inl (lookup_relabel_local hx)) r7 (fun s8 I8 => ?_) (.inr (lookup_relabel_local hx)))
      have I8' : Inv (blk X N s3 (upd H2 s2.heap.objs.size (.lst [])) sc cl s3.heap.objs.size fp) ([] ++ gy fp s7.heap) (some y :: cy σ ix) H7 s8 := I8
      refine thn (hif _ _ _ _ _ s8 _ H7 _ I8' (step y H7 y7)) fun ok s9 zq => ?_
      obtain ⟨H9, I9, q9⟩ := zq
      have again : ∀ {H' : Hp} {s' : Shared} {m' : Nat}, Inv (blk X N s3 (upd H2 s2.heap.objs.size (.lst [])) sc cl s3.heap.objs.size fp) ([] ++ gy fp s7.heap) (some y :: cy σ ix) H' s' → m' < n → W (i + 1) m' H' →
          ∃ m, m < n ∧ ∃ i v0 H', Inv (blk X N s3 (upd H2 s2.heap.objs.size (.lst [])) sc cl s3.heap.objs.size fp) [] (v0 :: cy σ ix) H' s' ∧ tn i s'.heap ∧ (∀ b ∈ fp, H' b = none) ∧ W i m H' := fun {H' s' m'} Ia hm wa => by
        refine ⟨m', hm, i + 1, some y, H', Ia.unpinned, T.keep _ _ _ st7 fun b hb o e => (Ia.pin (b, o) (List.mem_append_right _ (List.mem_append_right _ (fi hb e)))).1, fun b hb => ?_, wa⟩
        obtain ⟨o, e, d⟩ := T.obj _ _ st7 b hb
        exact (Ia.pin (b, o) (List.mem_append_right _ (List.mem_append_right _ (fi hb e)))).2.1
      cases ok with
      | false =>
        rw [if_neg Bool.false_ne_true] at q9 ⊢
        obtain ⟨m', hm, wa⟩ := q9
        exact again I9 hm wa
      | true =>
        rw [if_pos rfl] at q9 ⊢
        refine thn (he _ _ _ _ _ s9 _ H9 _ I9 q9) fun v10 s10 zq => ?_
        obtain ⟨z, H10, I10, r10, ys, hD, hl, m', hm, wa⟩ := zq
        exact thn (bq _ s10 _ H10 (.ref s2.heap.objs.size) [z] (.ref s2.heap.objs.size) [v10] (fun _ H' => H' = upd H10 s2.heap.objs.size (.lst (ys ++ [z]))) I10 rfl (.cons r10 .nil) ⟨_, ys, z, rfl, rfl, hD, hl, rfl⟩)
          fun _ s11 ⟨_, H11, I11, _, e11⟩ => again I11 hm (by rw [e11]; exact wa)
  subst hs3
  exact codeAny_compStart_list loop (T.self _ 0 _ _ _ tn4 loop)
end
end L2
namespace L2
open PySem PySem.Spec PyProof.Rows
section
variable {X : Cx}
theorem ib {pos : Pos} : QE X (.Dict [] [] pos) zo := ⟨a1w⟩
theorem a2d {pos : Pos} {k v k' v' : Expr} {tk tv tk' tv' : TE} (hk : QE X k tk) (hv : QE X v tv) (hk' : QE X k' tk') (hv' : QE X v' tv') : QE X (.Dict [some k, some k'] [v, v'] pos) (a3h [(tk, tv), (tk', tv')]) := ⟨a4e (uk hk.run hv.run (uk hk'.run hv'.run a46)) rfl rfl (by simp) (by simp)⟩
theorem ck {o i : Expr} {pos : Pos} {td ty : TE} (hu : X.A.units + 1 < cLine) (ho : QE X o td) (hi : QE X i ty) (hs : NoSl i) : QE X (.Subscript o i pos) (a3r td ty) := ⟨a4y hu ho.run hi.run hs⟩
theorem a05 {o i : Expr} {pos : Pos} {td ty : TE} (hu : X.A.units + 1 < cLine) (hi : QE X i ty) (ho : QE X o td) (hm : behindInMarks .In o = false := by with_unfolding_all rfl) : QT X (.Compare i [.In] [o] pos) (tB (tDIn ty td)) := ⟨a0y (a07 hu hi.run ho.run) hm⟩
theorem ma {o i : Expr} {pos : Pos} {td ty : TE} (hu : X.A.units + 1 < cLine) (hi : QE X i ty) (ho : QE X o td) (hm : behindInMarks .NotIn o = false := by with_unfolding_all rfl) : QT X (.Compare i [.NotIn] [o] pos) (tB (qp ty td)) := ⟨a0y (a06 hu hi.run ho.run) hm⟩
theorem a55 {o i : Expr} {pos : Pos} {td ty : TE} (hu : X.A.units + 1 < cLine) (hi : QE X i ty) (ho : QE X o td) (hm : behindInMarks .In o = false := by with_unfolding_all rfl) : QE X (.Compare i [.In] [o] pos) (tDIn ty td) := ⟨a59 (a07 hu hi.run ho.run) hm⟩
theorem cj {o i value : Expr} {pos pos' : Pos} {td ty tv : TE} (hu : X.A.units + 1 < cLine) (ho : QE X o td) (hi : QE X i ty) (hv : QE X value tv) (hs : swapsWith value (some (.Subscript o i pos')) pos.line X.env = pure false := by rfl) :
    QS X (.Assign [.Subscript o i pos'] value pos) (a3l td ty tv) := ⟨a51 hu ho.run hi.run hv.run hs⟩
theorem iu : cw X (.type "dict") (fun xs H Q => ∃ a kvs, xs = [V.ref a] ∧ H a = some (.dK kvs) ∧ ∀ p, H p = none → Q (.ref p) (upd H p (.dK kvs))) := by
  intro pins s σ H xs us Q I r h
  obtain ⟨a, kvs, rfl, ha, q⟩ := h
  obtain ⟨u, rfl, ru⟩ := nk r
  cases ru
  exact a2y I (.inl ha) fun p s' hp I' => ⟨.ref p, _, I', rfl, q p hp⟩
theorem xw {P : Program} {w : World} {k : Key} {v : Value} (h : (bz P w).is k v = true) : RelV (kV k) v := by
  rcases cm h with ⟨i, t, rfl, rfl⟩ | ⟨x, t, rfl, rfl⟩
  · exact ⟨t, rfl⟩
  · exact ⟨t, rfl⟩
theorem ou : ∀ {ks : List V} {vs : List Value}, vs.length = ks.length → (∀ (j : Nat) (v : Value), vs[j]? = some v → ∃ y, ks[j]? = some y ∧ RelV y v) → Vals ks vs
  | [], [], _, _ => .nil
  | k :: ks, v :: vs, hl, h => by
    obtain ⟨y, e, r⟩ := h 0 v rfl
    cases e
    exact .cons r (ou (by simpa using hl) fun j u hu => h (j + 1) u (by simpa using hu))
theorem gs (hc : X.calm = true) : cw X (.type "list") (fun xs H Q => ∃ a kvs, xs = [V.ref a] ∧ H a = some (.dK kvs) ∧ ∀ p, H p = none → Q (.ref p) (upd H p (.lst (kvs.map fun kv => kV kv.1)))) := by
  intro pins s σ H xs us Q I r h
  obtain ⟨a, kvs, rfl, ha, q⟩ := h
  obtain ⟨u, rfl, ru⟩ := nk r
  cases ru
  obtain ⟨z, hd, vs, rel, dd⟩ := fb I.hok (.inl ha)
  have hl := rel.length
  obtain ⟨ep, da⟩ := dd.dictAt
  refine PySem.W.kdl_call (PySem.W.kdl_dict hd) (I.ok.hd hc) da (by rw [← hl]; exact z) fun h' tk acc c hk hD hacc => ?_
  refine ⟨.ref s.heap.objs.size, _, I.laid (t' := tk) hk (Nat.le_refl _) (show ObjOk X.prog X.w _ h' _ (.lst (kvs.map fun kv => kV kv.1)) from ⟨by rw [List.length_map]; exact z, acc.toList, c, ?_, by simpa using hD⟩), rfl, q _ (I.hok.fresh (Nat.le_refl _))⟩
  refine ou (by rw [Array.length_toList, List.length_map, hl]; exact hacc.1) fun j v hv => ?_
  obtain ⟨k, x, e, ke⟩ := hacc.2 j v (by rw [← Array.getElem?_toList]; exact hv)
  have ek := rel.keys
  have e2 : (vs.map (·.1))[j]? = some k := by rw [List.getElem?_map, e]; rfl
  rw [← ek, List.getElem?_map] at e2
  refine ⟨kV k, ?_, xw ke⟩
  rw [List.getElem?_map]
  cases hj : kvs[j]? with
  | none => rw [hj] at e2; cases e2
  | some p => rw [hj] at e2; rw [← Option.some.inj e2]; rfl
end
theorem o5 : ∀ {ks : List (Key × Value)} {k : Key} {v : Value}, (ks.map (·.1)).Nodup → (k, v) ∈ ks → valueAt ks k = some v
  | [], _, _, _, hm => by simp at hm
  | q :: r, k, v, hnd, hm => by
    rw [List.map_cons, List.nodup_cons] at hnd
    unfold valueAt
    by_cases hq : q.1 = k
    · rcases List.mem_cons.mp hm with rfl | hm'
      · simp
      · exact absurd (List.mem_map.mpr ⟨(k, v), hm', hq.symm⟩) hnd.1
    · rcases List.mem_cons.mp hm with rfl | hm'
      · exact absurd rfl hq
      · have := o5 hnd.2 hm'
        unfold valueAt at this
        simp only [List.find?_cons]
        simp [hq, this]
noncomputable def sx : V → Bool
  | .byt _ => false
  | .flt _ => false
  | _ => true
theorem vt {A : Around} {s : Shared} {v : V} {u u' : Value} (hv : sx v = true) (r : RelV v u) (r' : RelV v u') : SeqAt.EqAt A s u u' true := by
  cases v with
  | non => cases r; cases r'; exact SeqAt.EqAt.same _
  | bl b => cases r; cases r'; exact SeqAt.EqAt.same _
  | int i =>
    obtain ⟨t, rfl⟩ := r
    obtain ⟨t', rfl⟩ := r'
    have := SeqAt.EqAt.int_int (A := A) (s := s) i t i t'
    simpa using this
  | str x =>
    obtain ⟨t, rfl⟩ := r
    obtain ⟨t', rfl⟩ := r'
    have := SeqAt.EqAt.str_str (A := A) (s := s) x t x t'
    simpa using this
  | byt b => cases hv
  | flt b => cases hv
  | ref a => cases r; cases r'; exact SeqAt.EqAt.same _
  | ty n => cases r; cases r'; exact SeqAt.EqAt.same _
theorem ub {A : Around} {s : Shared} {kb : List (Key × Value)} : ∀ ls : List (Key × Value), (∀ p ∈ ls, ∃ y, valueAt kb p.1 = some y ∧ SeqAt.EqAt A s p.2 y true) → PySem.W.KeqHits A s kb ls true
  | [], _ => .nil
  | (k, v) :: ls, h => by
    obtain ⟨y, e1, e2⟩ := h (k, v) (List.mem_cons_self ..)
    have := PySem.W.KeqHits.hit (A := A) (s := s) (kb := kb) e1 e2 (ub ls fun p hp => h p (List.mem_cons_of_mem _ hp))
    simpa using this
section
variable {X : Cx}
theorem yw {P : Program} {w : World} {h : Heap} {a : Addr} {vs : List (Key × Value)} (d : h.DictOf (bz P w) a vs) : (vs.map (·.1)).Nodup := by
  obtain ⟨_, _, _, _, _, _, _, _, hn⟩ := d
  exact hn
theorem qx {s : Shared} {kvs : List (Key × V)} {ka kb : List (Key × Value)} {A : Around} (hs : ∀ p ∈ kvs, sx p.2 = true) (ra : KV kvs ka) (rb : KV kvs kb) (na : (ka.map (·.1)).Nodup) : PySem.W.KeqHits A s kb ka true := by
  refine ub ka fun p hp => ?_
  have e1 := o5 (k := p.1) (v := p.2) na hp
  have r1 := ra.val p.1
  have r2 := rb.val p.1
  rw [e1] at r1
  cases hv : valV kvs p.1 with
  | none => rw [hv] at r1; exact r1.elim
  | some v =>
    rw [hv] at r1 r2
    have hm : ∃ q ∈ kvs, q.2 = v := by
      unfold valV at hv
      cases hf : kvs.find? (fun kv => decide (kv.1 = p.1)) with
      | none => rw [hf] at hv; cases hv
      | some q => rw [hf] at hv; exact ⟨q, List.mem_of_find?_eq_some hf, Option.some.inj hv⟩
    obtain ⟨q, hq, rfl⟩ := hm
    cases hy : valueAt kb p.1 with
    | none => rw [hy] at r2; exact r2.elim
    | some y =>
      rw [hy] at r2
      exact ⟨y, rfl, vt (hs q hq) r1 r2⟩
end
theorem vp {L : List (Str × NameKind)} {cl : List (Str × Addr)} {ks : List Str} (hkm : cl.map (·.1) = ks) (hkB : (L.all fun y => (match y.2 with | .cell => false | .free => false | _ => true) || decide (y.1 ∈ ks)) = true) (z : Str) (h : L.lookup z = some .cell ∨ L.lookup z = some .free) : ∃ c, cl.lookup z = some c := by
  have hm : z ∈ cl.map (·.1) := by
    rw [hkm]
    rcases h with h | h
    · have := List.all_eq_true.mp hkB _ (PySem.mem_of_lookup h)
      simpa using this
    · have := List.all_eq_true.mp hkB _ (PySem.mem_of_lookup h)
      simpa using this
  clear hkm hkB
  induction cl with
  | nil => simp at hm
  | cons p r ih =>
    rw [List.lookup_cons]
    cases hb : z == p.1 with
    | true => exact ⟨_, rfl⟩
    | false =>
      rw [List.map_cons, List.mem_cons] at hm
      rcases hm with h1 | h1
      · rw [h1] at hb; simp at hb
      · exact ih h1
theorem a33 {X : Cx} {elt iter : Expr} {x : Str} {px pos : Pos} {ifs : List Expr} {sc : Scope} {cl : List (Str × Addr)} {wi : TI} {tc : TT} {te : TE} (N : List Str) (ix : List Nat) (hi : QI X (.Name x px) iter wi)
    (hif : ∀ s H C ex, QTs (blk X N s H sc cl C ex) ifs tc) (he : ∀ s H C ex, QE (blk X N s H sc cl C ex) elt te)
    (hcl : closureFor sc X.env = pure cl := by rfl) (hcs : X.env.cells = cl := by rfl) (hN : N = x :: ix.map (fun j => (X.N[j]?).getD "") := by rfl) (hnd : N.Nodup := by decide +kernel)
    (hkm : cl.map (·.1) = N.tail := by rfl) (hkB : ((relabel sc X.env).names.all fun y => (match y.2 with | .cell => false | .free => false | _ => true) || decide (y.1 ∈ N.tail)) = true := by with_unfolding_all rfl)
    (hix : ∀ j ∈ ix, ∃ y, X.N[j]? = some y ∧ X.env.kindOf y = some .cell ∧ (relabel sc X.env).names.lookup y = some .cell := by first | (intro j hj; simp only [List.mem_cons, List.not_mem_nil, or_false] at hj; subst hj; exact ⟨_, rfl, rfl, by with_unfolding_all rfl⟩) | (intro j hj; simp only [List.mem_cons, List.not_mem_nil, or_false] at hj; rcases hj with rfl | rfl <;> exact ⟨_, rfl, rfl, by with_unfolding_all rfl⟩))
    (hx : sc.names.lookup x = some .local := by decide +kernel) (hcell : ∀ z ∈ sc.names, z.2 ≠ .cell := by decide +kernel)
    (hnames : ∀ z ∈ sc.names, z.2 = .local → sc.names.lookup z.1 = some .local := by decide +kernel)
    (hc : X.calm = true := by rfl) (hkind : sc.kind = .function := by rfl) (hs : ∀ x, foldedSetIterable iter X.env x = pure x := by intro _; rfl) :
    QE X (.ListComp elt [⟨.Name x px, iter, ifs, 0⟩] sc pos) (lb ix wi tc te) :=
  ⟨qg N hc hi.run (fun s H C ex => (hif s H C ex).run) (fun s H C ex => (he s H C ex).run) hkind hN hnd hx hcl hcell hnames (fun z c' e => by rw [hcs]; exact e) (vp hkm hkB) hix hs⟩
end L2
namespace L2
open PySem PySem.Spec PyProof.Rows
section
variable {X : Cx}
noncomputable def metN (ns : List Int) : Nat := (firstMet (fun i => ns.getD i 0) ns.length).length
theorem lh (hc : X.calm = true) : cw X (.type "set") (fun vs H Q => ∃ (a : Addr) (ns : List Int), vs = [.ref a] ∧ SqL X.K H a (ns.map V.int) ∧ ns.length + 1 < scanBound ∧
    ∀ p S, H p = none → Q (.ref p) (upd H p (.set S (metN ns)))) := by
  intro pins s σ H vs us Q I r h
  obtain ⟨a, ns, rfl, hq, hz, q⟩ := h
  obtain ⟨u, rfl, ru⟩ := r.one
  cases ru
  obtain ⟨its, rv, p, _⟩ := I.list hq
  have hs := ko rv
  have hl : its.length = ns.length := hs.length
  refine PySem.call_set_list (items := its.toArray) (ns := ns) (I.ok.hd hc) p.isList (by simpa using hs) (by rw [List.size_toArray, hl]; exact hz) fun h' tk hS hk => ?_
  have hsz : its.toArray.size = ns.length := by rw [List.size_toArray]; exact hl
  rw [hsz] at hS
  have fr : H s.heap.objs.size = none := I.hok.fresh (Nat.le_refl _)
  exact ⟨.ref s.heap.objs.size, _, I.laid (t' := tk) (fun b o e => hk b o (Heap.lt_size e) e) (Nat.le_refl _) (show ObjOk X.prog X.w _ h' _ (.set _ (metN ns)) from hS), rfl, q _ _ fr⟩
theorem lg : cw X (.builtin "len") (fun vs H Q => ∃ a S n, vs = [.ref a] ∧ H a = some (.set S n) ∧ n < 100000 ∧ Q (.int (n : Nat)) H) := by
  intro pins s σ H vs us Q I r h
  obtain ⟨a, S, n, rfl, hq, hn, q⟩ := h
  obtain ⟨u, rfl, ru⟩ := r.one
  cases ru
  have hS : s.heap.SetOf (intKind X.prog X.w) a S n := I.hok a _ hq
  obtain ⟨o, es, ep, t, ho, hx, hd, _, _, _, hf, he⟩ := hS
  subst he
  exact PySem.call_len_set ho hx hd hf (by lia) ⟨.int (es.size : Nat), H, I.tok _, ⟨_, rfl⟩, q⟩
theorem lj (hc : X.calm = true) : cw X (.builtin "sum") (fun vs H Q => ∃ (a : Addr) (ns : List Int), vs = [.ref a] ∧ SqL X.K H a (ns.map V.int) ∧ (∀ n ∈ ns, 0 ≤ n ∧ n ≤ 10000) ∧ ns.length ≤ 1000 ∧ Q (.int ns.sum) H) := by
  intro pins s σ H vs us Q I r h
  obtain ⟨a, ns, rfl, hq, hb, hn, q⟩ := h
  obtain ⟨u, rfl, ru⟩ := r.one
  cases ru
  obtain ⟨its, rv, p, _⟩ := I.list hq
  have hs := ko rv
  have hall := hs.allInts
  have hnum := hs.numsOf
  obtain ⟨xs, hxs⟩ := hall.items
  have hpl : s.heap.IsList a (intItems xs) := by rw [← hxs]; exact p.isList
  have hnn : numsOf (intItems xs).toList = ns := by rw [← hxs]; simpa using hnum
  have hlen : xs.size = ns.length := by
    have := congrArg Array.size hxs
    have h1 : its.length = ns.length := hs.length
    simp [intItems] at this
    lia
  rw [nums_intItems] at hnn
  have bnd : ∀ (l : List Int), (∀ n ∈ l, 0 ≤ n ∧ n ≤ 10000) → 0 ≤ l.sum ∧ l.sum ≤ 10000 * (l.length : Int) := by
    intro l
    induction l with
    | nil => intro _; simp
    | cons x l ih =>
      intro h
      have h1 := ih fun n hn => h n (List.mem_cons_of_mem _ hn)
      have h2 := h x (List.mem_cons_self ..)
      rw [List.sum_cons, List.length_cons]
      constructor
      · lia
      · have : ((l.length + 1 : Nat) : Int) = (l.length : Int) + 1 := by lia
        rw [this]; lia
  have hfit : PySem.SumFits ns := fun j hj => by
    have hm : ns[j] ∈ ns := List.getElem_mem hj
    have h1 := hb _ hm
    have h2 := bnd (ns.take (j + 1)) fun n hn => hb n (List.mem_of_mem_take hn)
    have h3 : ((ns.take (j + 1)).length : Int) ≤ 1000 := by rw [List.length_take]; lia
    have e1 : ns.getD j 0 = ns[j] := by rw [List.getD_eq_getElem?_getD, List.getElem?_eq_getElem hj]; rfl
    unfold InLong
    constructor
    · rw [e1]; lia
    · lia
  refine sum_intList (I.ok.hd hc) hpl (fun j hj => ?_) fun h' tk t' hk => ?_
  · rw [numAt_eq, preSum_eq, hnn]; exact hfit j (by lia)
  · refine ⟨.int ns.sum, H, I.kept (t' := tk) hk, ⟨t', ?_⟩, q⟩
    rw [preSum_eq, hnn, List.take_of_length_le (by lia)]
theorem a5j (hu : X.A.units + 32 < cLine) : OpR X (compareOp .In) (fun x y H Q => ∃ p ys ds d, y = .ref p ∧ SqL X.K H p ys ∧ DpAll X.K H ys ds ∧ Dp X.K H x d ∧ EqOk (.list ds) ∧ EqOk d ∧ Q (.bl (ds.any fun e => PyData.eqv e d)) H) := by
  intro pins s σ H x y v u Q I rx ry h
  obtain ⟨p, ys, ds, d, rfl, hy, hds, hd, o1, o2, q⟩ := h
  obtain ⟨as, ra⟩ := Dp.reads I (.lst hy hds) ry
  obtain ⟨bs, rb⟩ := Dp.reads I hd rx
  have h1 := o1.1
  simp only [PyData.canLay0] at h1
  have h2 := o2.2
  exact PySem.SeqAt.in_list_reads ra rb h1 o2.1 (by have := Nat.min_le_right (PyData.depthAll ds) d.depth; lia) ⟨.bl _, H, I, rfl, q⟩
theorem wo : cw X (.builtin "isinstance") (fun xs H Q => ∃ b, xs = [.bl b, .ty "bool"] ∧ Q (.bl true) H) := by
  intro pins s σ H xs us Q I r h
  obtain ⟨z, rfl, q⟩ := h
  cases r with
  | cons r1 r =>
    cases r with
    | cons r2 r =>
      cases r
      cases r1
      cases r2
      exact IsiPair.bool_bool ⟨.bl true, H, I, rfl, q⟩
theorem a58 {j : Nat} {p3 p4 : Pos} : QE X (.UnaryOp .USub (.Constant (.int 1) j p3) p4) (fun _ H Q => Q (.int (-1)) H) := ⟨fun pins s σ H Q I q => a6z a5b jb pins s σ H Q I ⟨1, rfl, q⟩⟩
inductive tRevS (K : PySem.W.Frag) (x : V) (H1 : Hp) (Q : VK) : Prop
  | mk (a : Addr) (xs : List V) (h0 : x = .ref a) (h1 : SqL K H1 a xs) (h2 : ∀ p, H1 p = none → Q (.ref p) (upd H1 p (.lst xs.reverse))) : tRevS K x H1 Q
noncomputable def tRev (K : PySem.W.Frag) (te : TE) : TE := fun σ H Q => te σ H fun x H1 => tRevS K x H1 Q
theorem lq : ∀ {xs : List V} {us : List Value}, Vals xs us → Vals xs.reverse us.reverse
  | _, _, .nil => .nil
  | _, _, .cons r t => by
    rw [List.reverse_cons, List.reverse_cons]
    exact Vals.append (lq t) (.cons r .nil)
theorem ua {e : Expr} {te : TE} {p2 p3 p4 pos : Pos} {j : Nat} (he : QE X e te) : QE X (.Subscript e (.Slice none none (some (.UnaryOp .USub (.Constant (.int 1) j p3) p4)) p2) pos) (tRev X.K te) := by
  refine ⟨fun pins s σ H Q I h => ?_⟩
  refine Subscript_ (thn (he.run pins s σ H _ I h) fun v s1 zq => ?_)
  obtain ⟨x, H1, I1, r1, q1⟩ := zq
  obtain ⟨a, xs, rfl, hx, q⟩ := q1
  cases r1
  refine wpAny_Slice ?_
  rw [evalPart_none]
  refine wpAny_pure (wpAny_pure ?_)
  rw [evalPart_some]
  refine thn ((a58 (X := X) (j := j) (p3 := p3) (p4 := p4)).run pins s1 σ H1 (fun y H2 => y = .int (-1) ∧ H2 = H1) I1 ⟨rfl, rfl⟩) fun u s2 zq => ?_
  obtain ⟨y, H2, I2, r2, q2⟩ := zq
  obtain ⟨rfl, rfl⟩ := q2
  obtain ⟨t, rfl⟩ := r2
  obtain ⟨its, r, ht, hz⟩ := I2.list hx
  have hlen := r.length
  have I4 : Inv X pins σ H2 { s2 with heap := s2.heap.push { cls := .type "slice", data := .fields #[.none, .none, .int (-1) t] } } := I2.kept (t' := s2.toks) fun b ob q => Heap.get?_push_of_some _ q
  have hl4 : Heap.IsList (s2.heap.push { cls := .type "slice", data := .fields #[.none, .none, .int (-1) t] }) a its.toArray := ht.isList.push _
  have tl4 : Shared.TypeIs { s2 with heap := s2.heap.push { cls := .type "slice", data := .fields #[.none, .none, .int (-1) t] } } (.ref a) "list" := Heap.IsList.typeIs (s := { s2 with heap := s2.heap.push { cls := .type "slice", data := .fields #[.none, .none, .int (-1) t] } }) hl4
  show wpAny (model X.prog X.w) X.A (subscriptTail e (.Slice none none (some (.UnaryOp .USub (.Constant (.int 1) j p3) p4)) p2) (.ref a) (.ref s2.heap.objs.size)) (EP X pins σ Q) X.xe { s2 with heap := s2.heap.push { cls := .type "slice", data := .fields #[.none, .none, .int (-1) t] } }
  refine tail_any (ops := [.ref a, .ref s2.heap.objs.size]) tl4 slot_list_getitem.lookup ?_ (by with_unfolding_all rfl)
  refine wpAny_getItem_list_slice hl4 (Heap.IsSliceOf.new ..) .none .none (.int (-1) t) (by simp) ?_ (by rw [List.size_toArray] <;> lia)
  rw [PySem.W.krv_pick]
  refine ⟨.ref _, _, I4.laid (t' := s2.toks) (o := .lst xs.reverse) (fun b ob q => Heap.get?_push_of_some _ q) (Nat.le_refl _) ?_, rfl, q _ (I4.hok.fresh (Nat.le_refl _))⟩
  exact ⟨by rw [List.length_reverse]; exact hz, its.reverse, 0, lq r, Heap.get?_push_size _ rfl⟩
end
theorem a1f {cl cells : List (Str × Addr)} (h : ∀ p ∈ cl, cells.lookup p.1 = some p.2) (y : Str) (c : Addr) (e : cl.lookup y = some c) : cells.lookup y = some c := h (y, c) (PySem.mem_of_lookup e)
theorem a2n {X : Cx} {elt iter : Expr} {x : Str} {px pos : Pos} {ifs : List Expr} {sc : Scope} {cl : List (Str × Addr)} {wi : TI} {tc : TT} {te : TE} (N : List Str) (ix : List Nat) (hi : QI X (.Name x px) iter wi)
    (hif : ∀ s H C ex, QTs (blk X N s H sc cl C ex) ifs tc) (he : ∀ s H C ex, QE (blk X N s H sc cl C ex) elt te)
    (hcl : closureFor sc X.env = pure cl := by rfl) (hcs : ∀ p ∈ cl, X.env.cells.lookup p.1 = some p.2 := by intro p hp; simp only [List.mem_cons, List.not_mem_nil, or_false] at hp; first | (subst hp; with_unfolding_all rfl) | (rcases hp with rfl | rfl <;> with_unfolding_all rfl)) (hN : N = x :: ix.map (fun j => (X.N[j]?).getD "") := by rfl) (hnd : N.Nodup := by decide +kernel)
    (hkm : cl.map (·.1) = N.tail := by rfl) (hkB : ((relabel sc X.env).names.all fun y => (match y.2 with | .cell => false | .free => false | _ => true) || decide (y.1 ∈ N.tail)) = true := by with_unfolding_all rfl)
    (hix : ∀ j ∈ ix, ∃ y, X.N[j]? = some y ∧ X.env.kindOf y = some .cell ∧ (relabel sc X.env).names.lookup y = some .cell := by first | (intro j hj; simp only [List.mem_cons, List.not_mem_nil, or_false] at hj; subst hj; exact ⟨_, rfl, rfl, by with_unfolding_all rfl⟩) | (intro j hj; simp only [List.mem_cons, List.not_mem_nil, or_false] at hj; rcases hj with rfl | rfl <;> exact ⟨_, rfl, rfl, by with_unfolding_all rfl⟩))
    (hx : sc.names.lookup x = some .local := by decide +kernel) (hcell : ∀ z ∈ sc.names, z.2 ≠ .cell := by decide +kernel)
    (hnames : ∀ z ∈ sc.names, z.2 = .local → sc.names.lookup z.1 = some .local := by decide +kernel)
    (hc : X.calm = true := by rfl) (hkind : sc.kind = .function := by rfl) (hs : ∀ x, foldedSetIterable iter X.env x = pure x := by intro _; rfl) :
    QE X (.ListComp elt [⟨.Name x px, iter, ifs, 0⟩] sc pos) (lb ix wi tc te) :=
  ⟨qg N hc hi.run (fun s H C ex => (hif s H C ex).run) (fun s H C ex => (he s H C ex).run) hkind hN hnd hx hcl hcell hnames (a1f hcs) (vp hkm hkB) hix hs⟩
theorem kq {X : Cx} {elt iter : Expr} {x yv : Str} {px pos py pos2 : Pos} {i : Nat} {ifs : List Expr} {sc : Scope} {cl : List (Str × Addr)} {wi : TI} {tc : TT} {te : TE} (N : List Str) (ix : List Nat) (hNd : X.N.Nodup) (hiy : X.N[i]? = some yv) (hyv : Loc X.env.scope yv) (hi : QI X (.Name x px) iter wi)
    (hif : ∀ s H C ex, QTs (blk X N s H sc cl C ex) ifs tc) (he : ∀ s H C ex, QE (blk X N s H sc cl C ex) elt te)
    (hsw : swapsWith (.ListComp elt [⟨.Name x px, iter, ifs, 0⟩] sc pos) (some (.Name yv py)) pos2.line X.env = pure true := by rfl) (hfy : X.fn yv = true ∨ X.env.scope.names.lookup yv = some .local := by first | exact .inl rfl | exact .inr rfl | assumption)
    (hcl : closureFor sc X.env = pure cl := by rfl) (hcs : ∀ p ∈ cl, X.env.cells.lookup p.1 = some p.2 := by intro p hp; simp only [List.mem_cons, List.not_mem_nil, or_false] at hp; first | (subst hp; with_unfolding_all rfl) | (rcases hp with rfl | rfl <;> with_unfolding_all rfl)) (hN : N = x :: ix.map (fun j => (X.N[j]?).getD "") := by rfl) (hnd : N.Nodup := by decide +kernel)
    (hkm : cl.map (·.1) = N.tail := by rfl) (hkB : ((relabel sc X.env).names.all fun y => (match y.2 with | .cell => false | .free => false | _ => true) || decide (y.1 ∈ N.tail)) = true := by with_unfolding_all rfl)
    (hix : ∀ j ∈ ix, ∃ y, X.N[j]? = some y ∧ X.env.kindOf y = some .cell ∧ (relabel sc X.env).names.lookup y = some .cell := by first | (intro j hj; simp only [List.mem_cons, List.not_mem_nil, or_false] at hj; subst hj; exact ⟨_, rfl, rfl, by with_unfolding_all rfl⟩) | (intro j hj; simp only [List.mem_cons, List.not_mem_nil, or_false] at hj; rcases hj with rfl | rfl <;> exact ⟨_, rfl, rfl, by with_unfolding_all rfl⟩))
    (hx : sc.names.lookup x = some .local := by decide +kernel) (hcell : ∀ z ∈ sc.names, z.2 ≠ .cell := by decide +kernel)
    (hnames : ∀ z ∈ sc.names, z.2 = .local → sc.names.lookup z.1 = some .local := by decide +kernel)
    (hc : X.calm = true := by rfl) (hkind : sc.kind = .function := by rfl) (hs : ∀ x, foldedSetIterable iter X.env x = pure x := by intro _; rfl) :
    QS X (.Assign [.Name yv py] (.ListComp elt [⟨.Name x px, iter, ifs, 0⟩] sc pos) pos2) (tAsg (lb ix wi tc te) (du i)) :=
  ⟨yp N hNd hiy hyv hsw hfy hc hi.run (fun s H C ex => (hif s H C ex).run) (fun s H C ex => (he s H C ex).run) hkind hN hnd hx hcl hcell hnames (a1f hcs) (vp hkm hkB) hix hs⟩
theorem oq {α β : Type} {J : It} {H1 : Hp} {σ : St} {ix : List Nat} {te : TE} {Q : VK} {I0 : Hp → Prop} (xs : List V) (rs : List α) (R : Addr → Hp → V → β → Prop) (f : α → β) (hJ : JSeq J I0 xs) (h0 : I0 H1) (hz : xs.length ≤ 1000) (hl : rs.length = xs.length)
    (hR : ∀ D H H' y r, R D H y r → oz D H H' → R D H' y r)
    (he : ∀ (D : Addr) (i : Nat) (x : V) (r : α), xs[i]? = some x → rs[i]? = some r → ∀ H2, Same H1 H2 → H2 D ≠ none → ∀ Q' : VK, (∀ y H3, Same H2 H3 → R D H3 y (f r) → Q' y H3) → te (some x :: cy σ ix) H2 Q')
    (hQ : ∀ D H' ys, H1 D = none → Same H1 H' → H' D = some (.lst ys) → Paired (fun y r => R D H' y r) ys (rs.map f) → Q (.ref D) H') : lz J H1 σ ix tYes te Q := by
  intro D hD
  have put : ∀ H ys, Same H1 H → Same H1 (upd H D (.lst ys)) := fun H ys e b u q => by rw [ah (aj q hD)]; exact e b u q
  refine ⟨fun i m H => i ≤ xs.length ∧ m = xs.length - i ∧ Same H1 H ∧ ∃ ys : List V, H D = some (.lst ys) ∧ Paired (fun y r => R D H y r) ys ((rs.take i).map f), ⟨xs.length, Nat.zero_le _, rfl, put _ _ (Same.refl _), [], aa, by simpa using Paired.nil⟩, ?_⟩
  rintro i m H ⟨hi, rfl, e, ys, hy, hp⟩
  have hI := hJ.stay _ _ h0 e
  by_cases hlt : i < xs.length
  · refine .inr ⟨hJ.go i H hI hlt, fun x H' hy' => ?_⟩
    obtain ⟨rfl, hx⟩ := hJ.yld i H x H' hlt hI hy'
    have hri : i < rs.length := by lia
    have hr : rs[i]? = some rs[i] := List.getElem?_eq_getElem hri
    have ht : rs.take (i + 1) = rs.take i ++ [rs[i]] := by rw [List.take_add_one, hr]; rfl
    have hlen : ys.length = i := by
      have h1 := Paired.length hp
      rw [List.length_map, List.length_take] at h1
      lia
    dsimp only [tYes]
    rw [if_pos rfl]
    refine he D i x rs[i] hx hr _ e (by rw [hy]; simp) _ fun y H4 e4 hR4 => ?_
    have hput : oz D H4 (upd H4 D (.lst (ys ++ [y]))) := fun b u q hn => by rw [ah hn]; exact q
    refine ⟨ys, e4 _ _ hy, by rw [hlen]; exact Nat.lt_of_lt_of_le hlt (Nat.le_trans hz (by decide)), xs.length - (i + 1), by lia, hlt, rfl, put _ _ (e.trans e4), ys ++ [y], aa, ?_⟩
    rw [ht, List.map_append]
    exact Paired.snocP (Paired.mapP hp fun a r z => hR _ _ _ _ _ (hR _ _ _ _ _ z (e4.x D)) hput) (hR _ _ _ _ _ hR4 hput)
  · have hi' : i = xs.length := by lia
    subst hi'
    refine .inl ⟨hJ.stop _ H hI (Nat.le_refl _), ?_⟩
    rw [← hl, List.take_length] at hp
    exact hQ D H ys hD e hy hp
theorem kc (ns : List Int) : metN ns = ns.length ↔ ns.Nodup := by
  have key : ∀ (l acc : List Int), (l.foldl step_dedup acc).length ≤ acc.length + l.length ∧ (acc.Nodup → ((l.foldl step_dedup acc).length = acc.length + l.length ↔ (acc ++ l).Nodup)) := by
    intro l
    induction l with
    | nil => intro acc; simp
    | cons x l ih =>
      intro acc
      rw [List.foldl_cons]
      have h1 := (ih (step_dedup acc x)).1
      by_cases hm : acc.any (· == x) = true
      · have e : step_dedup acc x = acc := by unfold step_dedup; rw [if_pos hm]
        rw [e] at h1 ⊢
        have hx : x ∈ acc := by
          rw [List.any_eq_true] at hm
          obtain ⟨y, hy, hyx⟩ := hm
          have : y = x := by simpa using hyx
          exact this ▸ hy
        refine ⟨by rw [List.length_cons]; lia, fun hnd => ⟨fun h => ?_, fun h => ?_⟩⟩
        · rw [List.length_cons] at h; lia
        · exfalso
          rw [List.nodup_append] at h
          exact h.2.2 x hx x (List.mem_cons_self ..) rfl
      · have e : step_dedup acc x = acc ++ [x] := by unfold step_dedup; rw [if_neg hm]
        have hx : ¬ x ∈ acc := fun z => hm (List.any_eq_true.mpr ⟨x, z, by simp⟩)
        have h2 := (ih (acc ++ [x])).2
        have h3 := (ih (acc ++ [x])).1
        rw [e]
        rw [List.length_append, List.length_singleton] at h2 h3
        refine ⟨by rw [List.length_cons]; lia, fun hnd => ?_⟩
        have h4 := h2 (g5 hnd hx)
        rw [List.append_assoc, List.singleton_append] at h4
        rw [List.length_cons, ← h4]
        lia
  have h := (key ns []).2 List.nodup_nil
  have e : (List.range ns.length).map (fun i => ns.getD i 0) = ns := by
    apply List.ext_getElem
    · simp
    · intro i h1 h2
      simp [List.getElem?_eq_getElem h2]
  unfold metN firstMet
  rw [e]
  simpa using h
theorem y4 (ns : List Int) : metN ns ≤ ns.length := firstMet_length_le _ _
end L2
namespace Mir
open PySem L2
noncomputable def noNames : List Str := ["nil", "any", "is", "not", "cell", "stretch", "tree", "nothing", "then", "with"]
theorem xv (a b : Str) : eqV (.str a) (.str b) = decide (a = b) := by
  show (a == b) = decide (a = b)
  by_cases h : a = b
  · subst h; simp
  · rw [decide_eq_false h]; exact beq_eq_false_iff_ne.mpr h
theorem kh (x : Str) (l : List Str) : inV (.str x) (l.map V.str) = decide (x ∈ l) := by
  unfold inV
  rw [Bool.eq_iff_iff, List.any_eq_true, decide_eq_true_eq]
  constructor
  · rintro ⟨y, hy, e⟩
    obtain ⟨z, hz, rfl⟩ := List.mem_map.mp hy
    rw [xv, decide_eq_true_eq] at e
    exact e ▸ hz
  · intro h
    exact ⟨.str x, List.mem_map.mpr ⟨x, h, rfl⟩, by rw [xv]; simp⟩
theorem a0c (l : List Str) : (l.map V.str).all i7 = true := by
  rw [List.all_eq_true]
  intro v hv
  obtain ⟨z, _, rfl⟩ := List.mem_map.mp hv
  rfl
end Mir
namespace L2
open PySem PySem.Spec PyProof.Rows
end L2
namespace K13
open PySem PySem.Spec L2 Mir
noncomputable def top (i : Nat) : Stmt := PySem.Challenge.pw_apart_k13_parts_apart.main.body.getD i (.Pass ⟨0, 0, 0, 0⟩)
noncomputable abbrev gt : Stmt := top 5
structure Con (K : PySem.W.Frag) (mg : Str → Option Value) (w : World) : Prop where
  noNames : ∃ a, Glob mg "NO_NAMES" (.ref a) ∧ ∀ H, SqT K H a (noNames.map V.str)
  len : mg "len" = none
  all : mg "all" = none
  isi : mg "isinstance" = none
  list : mg "list" = none
  int : mg "int" = none
  bool : mg "bool" = none
  dict : mg "dict" = none
  sorted : mg "sorted" = none
  set : mg "set" = none
  sum : mg "sum" = none
  range : mg "range" = none
  tuple : mg "tuple" = none
  max : mg "max" = none
  zip : mg "zip" = none
theorem iteB {b : Bool} {A B : Prop} (h1 : b = true → A) (h2 : b = false → B) : if b = true then A else B := by
  cases b with
  | true => rw [if_pos rfl]; exact h1 rfl
  | false => rw [if_neg Bool.false_ne_true]; exact h2 rfl
noncomputable def sy (x : Str) : Prop := x.length ≤ 1000
theorem a40 {r : List Str} {k : Nat} : cutV (r.map V.str) (some (k : Int)) none = (r.drop k).map V.str := by
  unfold cutV
  rw [HT.sIx_nat, HT.sIx_none, List.length_map]
  rw [List.map_drop.symm]
  by_cases h : k ≤ r.length
  · rw [Nat.min_eq_left h, List.take_of_length_le (by simp)]
  · rw [Nat.min_eq_right (by lia), Nat.sub_self, List.take_zero, List.drop_eq_nil_of_le (by lia)]; rfl
noncomputable def ee (rs : List (List Str)) : Prop := rs.length ≤ 200 ∧ ∀ r ∈ rs, r.length ≤ 5 ∧ ∀ x ∈ r, sy x
theorem Paired.nth {α β : Type} {F : α → β → Prop} : ∀ {l₁ : List α} {l₂ : List β} {i : Nat} {a : α}, Paired F l₁ l₂ → l₁[i]? = some a → ∃ b, l₂[i]? = some b ∧ F a b
  | _, _, _, _, .nil, e => by simp at e
  | _, _, 0, _, .cons h _, e => by simp at e; subst e; exact ⟨_, rfl, h⟩
  | _, _, i + 1, _, .cons _ t, e => by
    obtain ⟨b, e1, e2⟩ := Paired.nth (i := i) t (by simpa using e)
    exact ⟨b, by simpa using e1, e2⟩
theorem gty {X : Cx} {x : Str} {n : String} {pos : Pos} (hm : X.mg x = none) (hv : bootBuiltins x = some (.type n)) (hg : Gl X x := by rfl) (hn : x ≠ "__name__" := by decide) (hdb : (x == ("__debug__" : Str)) = false := by decide) : PE X (.Name x pos) (tC (.ty n)) := a4t hg hm hv rfl hn hdb
structure Cal (K : PySem.W.Frag) (mg : Str → Option Value) (x : Str) (f : Addr) (fd : FuncData) (ps : List Str) : Prop where
  name : mg x = some (.ref f)
  keep : PySem.W.keepIn K (.ref f) = true
  bind : Binds K fd ps []
theorem gv {l : List Addr} {i : Nat} {x : V} (hx : (l.map V.ref)[i]? = some x) : ∃ a, l[i]? = some a ∧ x = .ref a := by
  rw [List.getElem?_map] at hx
  cases h : l[i]? with
  | none => rw [h] at hx; cases hx
  | some a => rw [h] at hx; exact ⟨a, rfl, (Option.some.inj hx).symm⟩
theorem Paired.at2 {α β : Type} {F : α → β → Prop} {l₁ : List α} {l₂ : List β} {i : Nat} {a : α} {b : β} (h : Paired F l₁ l₂) (h1 : l₁[i]? = some a) (h2 : l₂[i]? = some b) : F a b := by
  obtain ⟨b', e1, e2⟩ := Paired.nth h h1
  rw [h2] at e1
  cases e1
  exact e2
structure ErrC (K : PySem.W.Frag) (mg : Str → Option Value) (x : Str) (C : Addr) : Prop where
  name : mg x = some (.ref C)
  exc : PySem.W.excIn K C [.type "ValueError", .type "Exception", .type "BaseException", .type "object"] "ValueError.__new__" = true
noncomputable def dq (r : List Str) : List Str := (r.drop 1).filter fun x => !decide (x ∈ Mir.noNames)
noncomputable def cc (rs : List (List Str)) : List Str := (rs.map dq).flatten
theorem a0p (a b : List (List Str)) : cc (a ++ b) = cc a ++ cc b := by unfold cc; rw [List.map_append, List.flatten_append]
theorem yz (a : List (List Str)) (r : List Str) : cc (a ++ [r]) = cc a ++ dq r := by rw [a0p]; unfold cc; simp
theorem j1 : ∀ {rs : List (List Str)} {m : Nat}, (∀ r ∈ rs, r.length ≤ m) → (cc rs).length ≤ rs.length * m
  | [], m, _ => by simp [cc]
  | r :: rs, m, h => by
    have h1 := j1 (rs := rs) (m := m) (fun x hx => h x (List.mem_cons_of_mem _ hx))
    have h2 : (dq r).length ≤ m := by
      unfold dq
      have := List.length_filter_le (fun x => !decide (x ∈ Mir.noNames)) (r.drop 1)
      have := h r (List.mem_cons_self ..)
      have e := List.length_drop (i := 1) (l := r)
      lia
    have e : cc (r :: rs) = dq r ++ cc rs := by simp [cc]
    rw [e, List.length_append, List.length_cons, Nat.succ_mul]
    lia
theorem Paired.app {α β : Type} {F : α → β → Prop} : ∀ {l₁ : List α} {l₂ : List β} {m₁ : List α} {m₂ : List β}, Paired F l₁ l₂ → Paired F m₁ m₂ → Paired F (l₁ ++ m₁) (l₂ ++ m₂)
  | _, _, _, _, .nil, h => h
  | _, _, _, _, .cons h t, h2 => .cons h (Paired.app t h2)
inductive spNamesS (K : PySem.W.Frag) (vs : List V) (H : Hp) (Q : VK) : Prop
  | mk (a : Addr) (fs ps : List (List Str)) (h0 : vs = [.ref a]) (h1 : TellAt K H a [fs, ps]) (h2 : ee fs) (h3 : ee ps) (h4 : (∀ r ∈ fs ++ ps, r ≠ [])) (h5 : (∀ ss : List Str, ss.Nodup → (∀ y ∈ ss, y ∈ cc (fs ++ ps)) → ss.length < 64)) (h6 : ∀ (p : Addr) (zs : List Str) (H' : Hp), H p = none → Same H H' → H' p = some (.lst (zs.map V.str)) → zs.Nodup → (∀ y, y ∈ zs ↔ y ∈ cc (fs ++ ps)) → PyProof.Rows.sortedS zs = true → Q (.ref p) H') : spNamesS K vs H Q
noncomputable def y0 (K : PySem.W.Frag) : Sp := fun vs H Q _ => spNamesS K vs H Q
section
variable {P : Program} {w : World} {K : PySem.W.Frag} {mg : Str → Option Value} {base : Heap} {f g : Addr} {fd gd : FuncData}
theorem scNamesOf : FnScope ["telling", "names", "row"] ["telling"] (ak gt) := ⟨rfl, rfl, rfl, by decide +kernel, rfl, by decide +kernel, by decide +kernel⟩
theorem yf (C : Con K mg w) (F : Fun K "names_of" "names_of" gt f fd) : FnOk P w K mg base CX0 1 f fd ["telling"] (y0 K) := by
  refine F.ok scNamesOf (fun vs H Q E h => ?_) (fun cdv A outer s H vs Q E hr h => ?_)
  · obtain ⟨a, fs, ps, rfl, _⟩ := h; rfl
  obtain ⟨a, fs, ps, rfl, ht, hf, hp, hne, h64, q⟩ := h
  obtain ⟨aN, gN, tN⟩ := C.noNames
  obtain ⟨as, t1, t2⟩ := ht
  cases t2 with
  | @cons fa _ _ _ t3 t4 =>
  cases t4 with
  | @cons pa _ _ _ t5 t6 =>
  cases t6
  obtain ⟨fas, f1, f2⟩ := t3
  obtain ⟨pas, p1, p2⟩ := t5
  refine ⟨_, oa (a0l scNamesOf.nd (i := 1) rfl (Or.inl rfl) (um m9))
    (oa (zn PassesOwn.never rfl (ya (a3f cx (yr vg (pv 0) jb (fun _ _ => rfl)) (yr vg (pv 0) jb (fun _ _ => rfl)))) (xf (i := 2) scNamesOf.nd rfl (Or.inl rfl))
      (qj (xc (a3j PySem.F.plainAttrs_list PySem.F.slot_list_extend PySem.F.type_list_extend iw (pv 1)
        (dm (vz (a5w (t8 a0r (pv 2) (xj jb) xr)) (fun _ _ _ _ => a4j (xh (show OpR _ _ (rIn K true) from vj) (pv 0) (pe_g gN) (by with_unfolding_all rfl))) (fun _ _ _ _ => pv 0)) m9)))))
      (qj (a0d (ux (pf rfl) rfl C.sorted PyProof.Rows.boot_sorted (dm (rf (a39 rfl) rfl C.set PyProof.Rows.boot_set (dm (pv 1) m9)) m9))))), ?_⟩
  refine ⟨Nat.zero_le _, fun n hn => ?_⟩
  have s1 : Same H (upd H n (.lst [])) := ad hn _
  have fl : fas.length = fs.length := Paired.length f2
  have pl : pas.length = ps.length := Paired.length p2
  have b1 := hf.1
  have b2 := hp.1
  refine ⟨_, rfl, a, _, 0, .ref fa, rfl, rfl, s1.seqT t1, rfl, _, rfl, a, _, 1, .ref pa, rfl, rfl, s1.seqT t1, rfl, ?_⟩
  refine ⟨fa, pa, _, _, rfl, rfl, s1 _ _ f1, s1 _ _ p1, ?_, fun c hc => ?_⟩
  · rw [List.length_map, List.length_map]; exact Nat.le_of_lt (fe (by lia))
  have hcn : c ≠ n := fun e => by rw [e, aa] at hc; cases hc
  rw [← List.map_append]
  have s2 := ad hc (.lst ((fas ++ pas).map V.ref))
  refine ⟨c, rfl, ⟨_, SqL.of aa⟩, ?_⟩
  have pr : Paired (fun b r => RowAt K H b r) (fas ++ pas) (fs ++ ps) := Paired.app f2 p2
  have pl2 : (fas ++ pas).length = (fs ++ ps).length := Paired.length pr
  have hall : ∀ r ∈ fs ++ ps, r.length ≤ 5 := fun r hr => by
    rcases List.mem_append.mp hr with h | h
    · exact (hf.2 r h).1
    · exact (hp.2 r h).1
  refine gn (xs := (fas ++ pas).map V.ref) (fun i σ H' => Same H H' ∧ H' c = some (.lst ((fas ++ pas).map V.ref)) ∧ H' n = some (.lst ((cc ((fs ++ ps).take i)).map V.str)) ∧ ∃ z, σ = [some (.ref a), some (.ref n), z]) ⟨s1.trans s2, aa, ?_, _, rfl⟩ (fun i σ H' _ p => SqL.of p.2.1) ?_ ?_
  · rw [ah (Ne.symm hcn), aa]; rfl
  · rintro i v σ H' hi ⟨e, hc', hn', z, rfl⟩
    rw [List.getElem?_map] at hi
    cases hb : (fas ++ pas)[i]? with
    | none => rw [hb] at hi; cases hi
    | some b =>
      rw [hb] at hi
      have hv : v = .ref b := (Option.some.inj hi).symm
      subst hv
      obtain ⟨r, hr1, hr2⟩ := Paired.nth pr hb
      have hrm : r ∈ fs ++ ps := List.mem_of_getElem? hr1
      have hrow : RowAt K H' b r := hr2.same e
      have hr5 := hall r hrm
      have hr0 : r.length ≠ 0 := fun h => hne r hrm (List.length_eq_zero_iff.mp h)
      refine ⟨_, rfl, .inl ⟨rfl, _, SqL.of hn'⟩, _, rfl, _, rfl, b, _, rfl, hrow, ?_, fun t hT => ?_⟩
      · rw [List.length_map, show (some (1 : Int)) = some ((1 : Nat) : Int) from rfl, HT.sIx_nat]; lia
      have e1 : cutV (r.map V.str) (some 1) none = (r.drop 1).map V.str := a40 (k := 1)
      rw [e1]
      have s3 : Same H' (upd H' t (.tup ((r.drop 1).map V.str))) := ad hT _
      refine ⟨t, rfl, ⟨_, SqT.of aa⟩, ?_⟩
      refine a2x ((r.drop 1).map V.str) (fun v => !inV v (Mir.noNames.map V.str)) id a1r (SqT.of aa) ?_ ?_ ?_ ?_
      · rw [List.length_map, List.length_drop]; exact Nat.le_of_lt (fe (by lia))
      · intro v hv H2 e2 Q' q'
        obtain ⟨y, hy, rfl⟩ := List.mem_map.mp hv
        exact ⟨_, rfl, aN, _, rfl, .inr (tN _), rfl, a0c _, _, rfl, q' H2 (Same.refl _)⟩
      · intro v hv hpv H2 e2 Q' q'
        obtain ⟨y, hy, rfl⟩ := List.mem_map.mp hv
        exact ⟨_, rfl, q' H2 (Same.refl _)⟩
      · intro D H2 hD e' hd
        have hw : (((r.drop 1).map V.str).filter (fun v => !inV v (Mir.noNames.map V.str))).map id = (dq r).map V.str := by
          rw [List.map_id, List.filter_map]
          unfold dq
          congr 1
          apply List.filter_congr
          intro x _
          show (!inV (.str x) (Mir.noNames.map V.str)) = _
          rw [kh]
        rw [hw] at hd
        have s4 : Same H H2 := (e.trans s3).trans e'
        have ht1 : (fs ++ ps).take (i + 1) = (fs ++ ps).take i ++ [r] := by rw [List.take_add_one, hr1]; rfl
        have wl := j1 hall
        have wl2 : (cc ((fs ++ ps).take i)).length ≤ 200 * 5 + 200 * 5 := by
          have h1 := j1 (rs := (fs ++ ps).take i) (m := 5) (fun r hr => hall r (List.mem_of_mem_take hr))
          have h2 := List.length_take_le' i (fs ++ ps)
          rw [List.length_append] at h2
          lia
        have wl3 : (dq r).length ≤ 5 := by
          unfold dq
          have h1 := List.length_filter_le (fun x => !decide (x ∈ Mir.noNames)) (r.drop 1)
          have h2 := List.length_drop (i := 1) (l := r)
          lia
        refine ⟨n, D, _, _, rfl, rfl, e' _ _ (s3 _ _ hn'), hd, ?_, ?_⟩
        · rw [List.length_map, List.length_map]
          exact Nat.le_trans (by lia) (show (2005 : Nat) ≤ sizeLine by decide)
        refine ⟨fun b' u q' => ?_, ?_, ?_, _, rfl⟩
        · rw [ah (aj q' hn)]; exact s4 _ _ q'
        · rw [ah hcn]; exact e' _ _ (s3 _ _ hc')
        · rw [aa, ht1, yz, List.map_append]
  · rintro σ H' ⟨e, hc', hn', z, rfl⟩
    rw [List.length_map, pl2, List.take_length] at hn'
    refine ⟨_, rfl, n, _, rfl, SqL.of hn', ?_, fun S ss hS hd => ?_⟩
    · have wl := j1 hall
      rw [List.length_append] at wl
      show _ < 4096
      lia
    have s5 := ad hS (SetO P w S ss)
    refine ⟨S, ss, rfl, aa, h64 ss hd.nodup (fun y hy => (hd.mem y).mp hy), fun p zs hp' hzs hso => ?_⟩
    have s6 := ad hp' (.lst (zs.map V.str))
    refine q p zs _ ?_ (e.trans (s5.trans s6)) aa (hzs.nodup_iff.mpr hd.nodup) (fun y => (hzs.mem_iff).trans (hd.mem y)) hso
    cases hH : H p with
    | none => rfl
    | some u => exact nomatch (s5 _ _ (e _ _ hH)).symm.trans hp'
end
theorem br {H H' : Hp} {l : Addr} (hl : H l = none) (e : Same H H') (o : HO) : Same H (upd H' l o) := fun b u q => by rw [ah (aj q hl)]; exact e b u q
section
variable {K : PySem.W.Frag}
end
noncomputable def ap (ns : List Int) (k : Nat) : Int := (ns[k]?).getD 0
inductive spCellS (K : PySem.W.Frag) (vs : List V) (H : Hp) (Q : VK) : Prop
  | mk (a : Addr) (ns : List Int) (k : Nat) (h0 : vs = [.ref a, .int (k : Int)]) (h1 : SqL K H a (ns.map V.int)) (h2 : Q (.int (ap ns k)) H) : spCellS K vs H Q
noncomputable def jk (K : PySem.W.Frag) : Sp := fun vs H Q _ => spCellS K vs H Q
theorem pi {α : Type} {xs : List α} {m : Int} {i : Int} (hl : (xs.length : Int) = m) (hm : 0 < m) : ∃ v, atI xs (i % m) = some v ∧ v ∈ xs := by
  have h0 := Int.emod_nonneg i (Int.ne_of_gt hm)
  have h1 := Int.emod_lt_of_pos i hm
  generalize i % m = j at h0 h1
  obtain ⟨k, rfl⟩ := Int.eq_ofNat_of_zero_le h0
  have hk : k < xs.length := by lia
  exact ⟨xs[k], bu (List.getElem?_eq_getElem hk), List.getElem_mem hk⟩
theorem wy {X : Cx} {e : Expr} {t t' : TT} (h : QT X e t) (w : ∀ σ H Q, t' σ H Q → t σ H Q) : QT X e t' := ⟨fun pins s σ H Q I q => h.run pins s σ H Q I (w σ H Q q)⟩
noncomputable abbrev nt : Stmt := top 18
section
variable {P : Program} {w : World} {K : PySem.W.Frag} {mg : Str → Option Value} {base : Heap} {f g : Addr} {fd gd : FuncData}
theorem a53 : FnScope ["_law_script", "_law_k"] ["_law_script", "_law_k"] (ak nt) := ⟨rfl, rfl, rfl, by decide +kernel, rfl, by decide +kernel, by decide +kernel⟩
theorem a0i (C : Con K mg w) (F : Fun K "_law_cell_at" "_law_cell_at" nt f fd) : FnOk P w K mg base CX0 1 f fd ["_law_script", "_law_k"] (jk K) := by
  refine F.okQ a53 (fun vs H Q E h => ?_) (fun cdv A outer s H vs Q E hr h => ?_)
  · obtain ⟨a, ns, k, rfl, _⟩ := h; rfl
  obtain ⟨a, ns, k, rfl, hS, q⟩ := h
  refine ⟨_, ae (bd (av a3v (qv 1) (b7 (dk (K := K) rfl) rfl C.len PySem.boot_len (af (qv 0) ac)) (au _)) (am (az (aq (ixKk (K := K) rfl) (qv 0) (qv 1) (fun _ _ => rfl)))) b9)
    (am (az ag)), ?_⟩
  have hl : (ns.map V.int).length = ns.length := List.length_map _
  refine ⟨_, rfl, _, rfl, a, _, rfl, .inl hS, _, _, rfl, rfl, _, rfl, iteB (fun c => ?_) (fun c => ?_)⟩
  · have c' := of_decide_eq_true c
    rw [hl] at c'
    have hk : k < ns.length := by lia
    have e : ap ns k = ns[k] := by unfold ap; rw [List.getElem?_eq_getElem hk]; rfl
    rw [e] at q
    exact ⟨_, rfl, _, rfl, a, _, _, _, rfl, rfl, hS, bu (by rw [List.getElem?_map, List.getElem?_eq_getElem hk]; rfl), q⟩
  · have c' := of_decide_eq_false c
    rw [hl] at c'
    have hk : ns.length ≤ k := by lia
    have e : ap ns k = 0 := by unfold ap; rw [List.getElem?_eq_none hk]; rfl
    rw [e] at q
    exact q
end
theorem mem_words {rs : List (List Str)} {y : Str} : y ∈ cc rs ↔ ∃ r ∈ rs, y ∈ r.drop 1 ∧ ¬ y ∈ Mir.noNames := by
  unfold cc dq
  simp only [List.mem_flatten, List.mem_map]
  constructor
  · rintro ⟨l, ⟨r, hr, rfl⟩, hy⟩
    rw [List.mem_filter] at hy
    exact ⟨r, hr, hy.1, by simpa using hy.2⟩
  · rintro ⟨r, hr, hy, hn⟩
    exact ⟨_, ⟨r, hr, rfl⟩, List.mem_filter.mpr ⟨hy, by simpa using hn⟩⟩
noncomputable def su (K : PySem.W.Frag) : Sp := fun vs H Q _ => ∃ (a : Addr) (ns : List Int), vs = [.ref a] ∧ SqL K H a (ns.map V.int) ∧ ∀ H', Q (.bl true) H'
theorem o0 {X : Cx} {P : Program} {w : World} {base : Heap} : jr (CXE P w base) X E0 := fun pins σ H s e s' I c => by
  obtain ⟨_, _, _, _, _, _, _, _, _, _, _, _, _, _, _, _, hE⟩ := c
  exact hE.elim
theorem v4 (ns : List Int) (lo hi : Option Int) : ∃ ms : List Int, cutV (ns.map V.int) lo hi = ms.map V.int := by
  refine ⟨(ns.drop (HT.sIx ns.length 0 lo)).take (HT.sIx ns.length ns.length hi - HT.sIx ns.length 0 lo), ?_⟩
  unfold cutV
  rw [List.length_map, List.map_take, List.map_drop]
theorem cq {K : PySem.W.Frag} {H : Hp} {l b : Addr} {xs ys zs : List V} (hl : H l = some (.lst xs)) (h : SqT K H b zs) : SqT K (upd H l (.lst ys)) b zs := by
  rcases h with (h | ⟨o, h⟩) | h
  · have hne : b ≠ l := fun e => by rw [e, hl] at h; cases h
    exact .inl (.inl (by show upd H l _ b = _; rw [ah hne]; exact h))
  · have hne : b ≠ l := fun e => by rw [e, hl] at h; cases h
    exact .inl (.inr ⟨o, by show upd H l _ b = _; rw [ah hne]; exact h⟩)
  · exact .inr h
theorem ng {X : Cx} {i j : Nat} {x y : Str} {px py pos : Pos} {k : Nat} (h1 : QG X (.Name x px) (du i)) (h2 : QG X (.Name y py) (du j)) (hc : X.calm = true := by rfl)
    (a1 : (assignEach [.Name x px, .Name y py] X.env).map (·.2) = assign (.Name x px) X.env :: (assignEach [.Name y py] X.env).map (·.2) := by rfl) (a2 : (assignEach [.Name y py] X.env).map (·.2) = assign (.Name y py) X.env :: (assignEach [] X.env).map (·.2) := by rfl)
    (hn : (assignEach [.Name x px, .Name y py] X.env).length = 2 := by rfl) (hst : (assignEach [.Name x px, .Name y py] X.env).findIdx? (·.1) = none := by rfl) : QG X (.Tuple [.Name x px, .Name y py] k pos) (gTup X.K 2 (o3 (du i) (o3 (du j) gNil))) :=
  ⟨a0o hc (ij h1.run (ij h2.run wz a2) a1) hn hst⟩
theorem iteN {b : Bool} {A B : Prop} (h : b = true) (hB : B) : if (!b) = true then A else B := by rw [h]; exact hB
theorem cu {X : Cx} {st : Stmt} {t t' : TS} (h : QS X st t) (w : ∀ D σ H, t' D σ H → t D σ H) : QS X st t' := ⟨fun pins s σ H D I q => h.run pins s σ H D I (w D σ H q)⟩
theorem kz {α : Type} {l : List α} {i : Nat} {v : α} (h : l[i]? = some v) : l.set i v = l := by
  apply List.ext_getElem?
  intro j
  rw [List.getElem?_set]
  split
  · rename_i e
    subst e
    rw [h]
    split
    · rfl
    · rename_i hn
      exact absurd (List.getElem?_eq_some_iff.mp h).1 hn
  · rfl
theorem a3i (xs : List V) (n : Nat) : cutV xs none (some (n : Int)) = xs.take n := by
  unfold cutV
  rw [HT.sIx_nat, HT.sIx_none, List.drop_zero, Nat.sub_zero]
  by_cases h : n ≤ xs.length
  · rw [Nat.min_eq_left h]
  · rw [Nat.min_eq_right (by lia), List.take_length, List.take_of_length_le (by lia)]
end K13
namespace K13
open PySem PySem.Spec L2 Mir
noncomputable abbrev ia : Stmt := top 7
noncomputable abbrev sNum : Stmt := top 8
noncomputable abbrev je : Stmt := top 9
noncomputable abbrev sMay : Stmt := top 10
noncomputable def dv (m : List (Str × Int)) : List (Key × V) := m.map fun p => (Sum.inr p.1, V.int p.2)
noncomputable def lkI (m : List (Str × Int)) (x : Str) : Option Int := (m.find? fun p => decide (p.1 = x)).map (·.2)
theorem et : ∀ (m : List (Str × Int)) (x : Str), valV (dv m) (Sum.inr x) = (lkI m x).map V.int
  | [], x => rfl
  | p :: m, x => by
    have ih := et m x
    by_cases h : p.1 = x
    · have e1 : valV (dv (p :: m)) (Sum.inr x) = some (.int p.2) := gk (p := ((Sum.inr p.1, V.int p.2) : Key × V)) (show (Sum.inr p.1 : Key) = Sum.inr x by rw [h])
      have e2 : lkI (p :: m) x = some p.2 := by unfold lkI; simp [List.find?_cons, h]
      rw [e1, e2]; rfl
    · have e1 : valV (dv (p :: m)) (Sum.inr x) = valV (dv m) (Sum.inr x) := gm (p := ((Sum.inr p.1, V.int p.2) : Key × V)) (show ¬ (Sum.inr p.1 : Key) = Sum.inr x from fun z => h (Sum.inr.inj z))
      have e2 : lkI (p :: m) x = lkI m x := by unfold lkI; simp [List.find?_cons, h]
      rw [e1, e2, ih]
noncomputable def num (m : List (Str × Int)) (x : Str) : Int := if x = "nil" then 0 else (lkI m x).getD 0
noncomputable def Has (m : List (Str × Int)) (x : Str) : Prop := x = "nil" ∨ (lkI m x).isSome = true
noncomputable def bv (m : List (Str × Int)) (r : List Str) : Bool := decide (decide (num m (r.getD 1 "") = num m (r.getD 2 "")) = decide (r.getD 0 "" = "is"))
noncomputable def mayB (m : List (Str × Int)) (x : Str) (n : Int) : Bool := decide (x = "any") || decide (num m x = n)
inductive spCheckVS (K : PySem.W.Frag) (NV : Addr) (vs : List V) (H : Hp) (Q : VK) (E : XK) : Prop
  | mk (d a : Addr) (m : List (Str × Int)) (fs ps : List (List Str)) (h0 : vs = [.ref d, .ref a]) (h1 : H d = some (.dK (dv m))) (h2 : TellAt K H a [fs, ps]) (h3 : ee fs) (h4 : ee ps) (h5 : (∀ r ∈ fs ++ ps, r ≠ [])) (h6 : (∀ ss : List Str, ss.Nodup → (∀ y ∈ ss, y ∈ cc (fs ++ ps)) → ss.length < 64)) (h7 : ((∀ y ∈ cc (fs ++ ps), (lkI m y).isSome = true) → ∀ H', Same H H' → Q .non H')) (h8 : ((∃ y ∈ cc (fs ++ ps), lkI m y = none) → ∀ H', Same H H' → E (.ref NV) none H')) : spCheckVS K NV vs H Q E
noncomputable def tj (K : PySem.W.Frag) (NV : Addr) : Sp := fun vs H Q E => spCheckVS K NV vs H Q E
inductive spNumS (vs : List V) (H : Hp) (Q : VK) : Prop
  | mk (d : Addr) (m : List (Str × Int)) (x : Str) (h0 : vs = [.ref d, .str x]) (h1 : H d = some (.dK (dv m))) (h2 : Has m x) (h3 : Q (.int (num m x)) H) : spNumS vs H Q
noncomputable def pd : Sp := fun vs H Q _ => spNumS vs H Q
inductive spHoldsS (K : PySem.W.Frag) (vs : List V) (H : Hp) (Q : VK) : Prop
  | mk (d a : Addr) (m : List (Str × Int)) (k u v : Str) (h0 : vs = [.ref d, .ref a]) (h1 : H d = some (.dK (dv m))) (h2 : RowAt K H a [k, u, v]) (h3 : Has m u) (h4 : Has m v) (h5 : Q (.bl (bv m [k, u, v])) H) : spHoldsS K vs H Q
noncomputable def x9 (K : PySem.W.Frag) : Sp := fun vs H Q _ => spHoldsS K vs H Q
inductive spMayS (vs : List V) (H : Hp) (Q : VK) : Prop
  | mk (d : Addr) (m : List (Str × Int)) (x : Str) (n : Int) (h0 : vs = [.ref d, .str x, .int n]) (h1 : H d = some (.dK (dv m))) (h2 : (x = "any" ∨ Has m x)) (h3 : Q (.bl (mayB m x n)) H) : spMayS vs H Q
noncomputable def a3b : Sp := fun vs H Q _ => spMayS vs H Q
section
variable {P : Program} {w : World} {K : PySem.W.Frag} {mg : Str → Option Value} {base : Heap} {f g NV : Addr} {fd gd : FuncData}
theorem a1l : FnScope ["values", "telling"] ["values", "telling"] (ak ia) := ⟨rfl, rfl, rfl, by decide +kernel, rfl, by decide +kernel, by decide +kernel⟩
theorem zy (C : Con K mg w) (F : Fun K "check_values" "check_values" ia f fd) (G : FnOk P w K mg base CX0 1 g gd ["telling"] (y0 K)) (cG : Cal K mg "names_of" g gd ["telling"]) (NE : ErrC K mg "NoValue" NV) :
    FnOk P w K mg base (CXE P w base) 2 f fd ["values", "telling"] (tj K NV) := by
  refine F.okEQ a1l (fun vs H Q E h => ?_) (fun cdv A outer s H vs Q E hr h => ?_)
  · obtain ⟨d, a, m, fs, ps, rfl, _⟩ := h; rfl
  obtain ⟨d, a, m, fs, ps, rfl, hD, ht, hf, hp, hne, h64, qY, qN⟩ := h
  have hu := dw hr
  refine ⟨_, am (bd (md (jz (b7 (v6 rfl) rfl C.all PyProof.Rows.boot_all (fv (a33 ["name", "values"] [0] (dn (K := K) rfl (ao G hr rfl cG.name cG.keep cG.bind .nil aw (af (qv 1) ac))) (fun _ _ _ _ => ga) (fun _ _ _ _ => a55 hu (qv 0) (qv 1))) ac))))
    (am (a1x zt rfl PySem.F.excBase_ValueError rfl NE.name NE.exc (fv cb ac))) b9), ?_⟩
  refine ⟨_, rfl, a, fs, ps, rfl, ht, hf, hp, hne, h64, fun p zs H1 hp0 e1 hz hnd hzm _ => ?_⟩
  refine ⟨p, rfl, ⟨_, SqL.of hz⟩, ?_⟩
  have hz64 := h64 zs hnd fun y hy => (hzm y).mp hy
  refine j8 (zs.map V.str) (zs.map fun x => V.bl (lkI m x).isSome) gx (SqL.of hz) (by rw [List.length_map]; exact Nat.le_of_lt (fe (by lia))) (by rw [List.length_map, List.length_map]) (fun i x y hx hy H2 e2 Q' q' => ?_) fun D H2 hD2 e2 hd2 => ?_
  · rw [List.getElem?_map] at hx hy
    cases hzi : zs[i]? with
    | none => rw [hzi] at hx; cases hx
    | some z =>
      rw [hzi] at hx hy
      cases hx
      cases hy
      refine ⟨_, rfl, _, rfl, d, _, rfl, DGet.k (k := Sum.inr z) (e2 _ _ (e1 _ _ hD)), ?_⟩
      have this : Q' (.bl (lkI m z).isSome) H2 := q' H2 (Same.refl _)
      rw [et]
      cases hl : lkI m z with
      | none => rw [hl] at this; exact this
      | some v => rw [hl] at this; exact this
  refine ⟨D, zs.map fun x => (lkI m x).isSome, rfl, SqL.of (by rw [hd2, List.map_map]; rfl), _, rfl, iteB (fun c => ?_) (fun c => ?_)⟩
  · refine ⟨(show 1 ≤ sizeLine by decide), qN ?_ H2 (e1.trans e2)⟩
    have c' : (zs.map fun x => (lkI m x).isSome).all id = false := by simpa using c
    rw [List.all_eq_false] at c'
    obtain ⟨b, hb, hb2⟩ := c'
    obtain ⟨x, hx, rfl⟩ := List.mem_map.mp hb
    exact ⟨x, (hzm x).mp hx, by simpa using hb2⟩
  · refine qY (fun y hy => ?_) H2 (e1.trans e2)
    have c' : (zs.map fun x => (lkI m x).isSome).all id = true := by simpa using c
    rw [List.all_eq_true] at c'
    exact c' _ (List.mem_map.mpr ⟨y, (hzm y).mpr hy, rfl⟩)
theorem a6r : FnScope ["values", "word"] ["values", "word"] (ak sNum) := ⟨rfl, rfl, rfl, by decide +kernel, rfl, by decide +kernel, by decide +kernel⟩
theorem a56 (F : Fun K "number_of" "number_of" sNum f fd) : FnOk P w K mg base CX0 1 f fd ["values", "word"] pd := by
  refine F.okQ a6r (fun vs H Q E h => ?_) (fun cdv A outer s H vs Q E hr h => ?_)
  · obtain ⟨d, m, x, rfl, _⟩ := h; rfl
  obtain ⟨d, m, x, rfl, hD, hx, q⟩ := h
  have hu := dw hr
  refine ⟨_, am (az (tp (av bn (qv 1) cb (au _)) ag (ck hu (qv 0) (qv 1) (fun _ _ => rfl)))), ?_⟩
  refine ⟨_, rfl, rfl, _, rfl, iteB (fun c => ?_) (fun c => ?_)⟩
  · have c' : x = "nil" := by simpa using c
    have e : num m x = 0 := by unfold num; rw [if_pos c']
    rw [e] at q
    exact q
  · have c' : ¬ x = "nil" := by simpa using c
    have hs := hx.resolve_left c'
    cases hl : lkI m x with
    | none => rw [hl] at hs; cases hs
    | some n =>
      have e : num m x = n := by unfold num; rw [if_neg c', hl]; rfl
      rw [e] at q
      have g := DGet.k (k := Sum.inr x) hD
      rw [et, hl] at g
      exact ⟨_, rfl, _, rfl, d, .int n, rfl, g, q⟩
theorem scHolds : FnScope ["values", "fact", "alike"] ["values", "fact"] (ak je) := ⟨rfl, rfl, rfl, by decide +kernel, rfl, by decide +kernel, by decide +kernel⟩
theorem a2u (F : Fun K "holds" "holds" je f fd) (G : FnOk P w K mg base CX0 1 g gd ["values", "word"] pd) (cG : Cal K mg "number_of" g gd ["values", "word"]) : FnOk P w K mg base CX0 2 f fd ["values", "fact"] (x9 K) := by
  refine F.okQ scHolds (fun vs H Q E h => ?_) (fun cdv A outer s H vs Q E hr h => ?_)
  · obtain ⟨d, a, m, k, u, v, rfl, _⟩ := h; rfl
  obtain ⟨d, a, m, k, u, v, rfl, hD, hR, hu1, hv1, q⟩ := h
  have nd := scHolds.nd
  refine ⟨_, ae (al (i := 2) nd rfl (Or.inl rfl) (de bn (ao G hr rfl cG.name cG.keep cG.bind .nil aw (af (qv 0) (ax (aq (ixTk (K := K) rfl) (qv 1) ag (fun _ _ => rfl)) ac))) (ao G hr rfl cG.name cG.keep cG.bind .nil aw (af (qv 0) (ax (aq (ixTk (K := K) rfl) (qv 1) ag (fun _ _ => rfl)) ac))) (au _)))
    (am (az (de bn (qv 2) (de bn (aq (ixTk (K := K) rfl) (qv 1) ag (fun _ _ => rfl)) cb (au _)) (au _)))), ?_⟩
  refine ⟨_, rfl, _, rfl, a, _, 1, .str u, rfl, rfl, hR, rfl, d, m, u, rfl, hD, hu1, ?_⟩
  refine ⟨_, rfl, _, rfl, a, _, 2, .str v, rfl, rfl, hR, rfl, d, m, v, rfl, hD, hv1, rfl, ?_⟩
  refine ⟨_, rfl, _, rfl, a, _, 0, .str k, rfl, rfl, hR, rfl, rfl, rfl, ?_⟩
  have e : (decide (V.bl (decide (V.int (num m u) = V.int (num m v))) = V.bl (decide (V.str k = V.str "is")))) = bv m [k, u, v] := by
    unfold bv
    simp
  show Q (.bl (decide (V.bl (decide (V.int (num m u) = V.int (num m v))) = V.bl (decide (V.str k = V.str "is"))))) H
  rw [e]
  exact q
theorem a71 : FnScope ["values", "word", "number"] ["values", "word", "number"] (ak sMay) := ⟨rfl, rfl, rfl, by decide +kernel, rfl, by decide +kernel, by decide +kernel⟩
theorem a5r (F : Fun K "may_be" "may_be" sMay f fd) (G : FnOk P w K mg base CX0 1 g gd ["values", "word"] pd) (cG : Cal K mg "number_of" g gd ["values", "word"]) : FnOk P w K mg base CX0 2 f fd ["values", "word", "number"] a3b := by
  refine F.okQ a71 (fun vs H Q E h => ?_) (fun cdv A outer s H vs Q E hr h => ?_)
  · obtain ⟨d, m, x, n, rfl, _⟩ := h; rfl
  obtain ⟨d, m, x, n, rfl, hD, hx, q⟩ := h
  refine ⟨_, am (az (a6s (de bn (qv 1) cb (au _)) (a04 (de bn (ao G hr rfl cG.name cG.keep cG.bind .nil aw (af (qv 0) (af (qv 1) ac))) (qv 2) (au _))))), ?_⟩
  refine ⟨_, rfl, rfl, _, rfl, iteB (fun c => ?_) (fun c => ?_)⟩
  · have c' : x = "any" := by simpa using c
    have e : mayB m x n = true := by unfold mayB; rw [decide_eq_true c']; rfl
    rw [e] at q
    exact q
  · have c' : ¬ x = "any" := by simpa using c
    have e : mayB m x n = decide (num m x = n) := by unfold mayB; rw [decide_eq_false c']; rfl
    rw [e] at q
    refine ⟨_, rfl, _, rfl, d, m, x, rfl, hD, hx.resolve_left c', _, rfl, rfl, ?_⟩
    have e2 : decide (V.int (num m x) = V.int n) = decide (num m x = n) := by simp
    show Q (.bl (decide (V.int (num m x) = V.int n))) H
    rw [e2]; exact q
end
end K13
namespace K13
open PySem PySem.Spec L2 Mir
noncomputable abbrev j9 : Stmt := top 11
noncomputable abbrev fz : Stmt := top 12
noncomputable abbrev jq : Stmt := top 13
noncomputable abbrev jd : Stmt := top 14
abbrev ar := List (Int × Int × Int)
noncomputable def atc (cs : ar) (x : Int) : Option (Int × Int) := (cs.find? fun c => decide (c.1 = x)).map (·.2)
noncomputable def hv (hp : List (Int × Addr)) : List (Key × V) := hp.map fun p => (Sum.inl p.1, V.ref p.2)
noncomputable def CellsAt (K : PySem.W.Frag) (H : Hp) (hp : List (Int × Addr)) (cs : ar) : Prop := Paired (fun p c => p.1 = c.1 ∧ SqT K H p.2 [.int c.2.1, .int c.2.2]) hp cs
inductive HeapAtS (K : PySem.W.Frag) (H : Hp) (h : Addr) (cs : ar) : Prop
  | mk (hp : List (Int × Addr)) (h0 : H h = some (.dK (hv hp))) (h1 : CellsAt K H hp cs) : HeapAtS K H h cs
noncomputable def HeapAt (K : PySem.W.Frag) (H : Hp) (h : Addr) (cs : ar) : Prop := HeapAtS K H h cs
theorem CellsAt.same {K : PySem.W.Frag} {H H' : Hp} {hp : List (Int × Addr)} {cs : ar} (h : CellsAt K H hp cs) (e : Same H H') : CellsAt K H' hp cs := Paired.mapP h fun _ _ z => ⟨z.1, e.seqT z.2⟩
theorem HeapAt.same {K : PySem.W.Frag} {H H' : Hp} {h : Addr} {cs : ar} (x : HeapAt K H h cs) (e : Same H H') : HeapAt K H' h cs := by
  obtain ⟨hp, h1, h2⟩ := x
  exact ⟨hp, e _ _ h1, h2.same e⟩
theorem fc {K : PySem.W.Frag} {H : Hp} : ∀ {hp : List (Int × Addr)} {cs : ar}, CellsAt K H hp cs → ∀ x : Int, (atc cs x = none ∧ valV (hv hp) (Sum.inl x) = none) ∨ ∃ r f s, atc cs x = some (f, s) ∧ valV (hv hp) (Sum.inl x) = some (.ref r) ∧ SqT K H r [.int f, .int s]
  | _, _, .nil, x => .inl ⟨rfl, rfl⟩
  | p :: hp, c :: cs, .cons h t, x => by
    by_cases e : c.1 = x
    · refine .inr ⟨p.2, c.2.1, c.2.2, ?_, ?_, h.2⟩
      · unfold atc; simp [List.find?_cons, e]
      · exact gk (p := ((Sum.inl p.1, V.ref p.2) : Key × V)) (show (Sum.inl p.1 : Key) = Sum.inl x by rw [h.1, e])
    · have e1 : atc (c :: cs) x = atc cs x := by unfold atc; simp [List.find?_cons, e]
      have e2 : valV (hv (p :: hp)) (Sum.inl x) = valV (hv hp) (Sum.inl x) := gm (p := ((Sum.inl p.1, V.ref p.2) : Key × V)) (show ¬ (Sum.inl p.1 : Key) = Sum.inl x from fun z => e (by rw [← h.1]; exact Sum.inl.inj z))
      rw [e1, e2]
      exact fc t x
theorem qi {cs : ar} {x : Int} (h : (atc cs x).isSome = true) : x ∈ cs.map (·.1) := by
  unfold atc at h
  cases hf : cs.find? (fun c => decide (c.1 = x)) with
  | none => rw [hf] at h; cases h
  | some c =>
    have h1 : c.1 = x := by simpa using List.find?_some hf
    exact List.mem_map.mpr ⟨c, List.mem_of_find?_eq_some hf, h1⟩
noncomputable def Gives (H : Hp) (o : Option (List Int)) (Q : VK) : Prop := match o with
  | none => ∀ H', Same H H' → Q .non H'
  | some ns => ∀ l H', Same H H' → H l = none → H' l = some (.lst (ns.map V.int)) → Q (.ref l) H'
theorem Gives.none {H : Hp} {o : Option (List Int)} {Q : VK} (h : Gives H o Q) (e : o = Option.none) {H' : Hp} (s : Same H H') : Q .non H' := by subst e; exact h H' s
theorem Gives.some {H : Hp} {o : Option (List Int)} {Q : VK} {ns : List Int} (h : Gives H o Q) (e : o = Option.some ns) {l : Addr} {H' : Hp} (s : Same H H') (hn : H l = Option.none) (hl : H' l = Option.some (.lst (ns.map V.int))) : Q (.ref l) H' := by subst e; exact h l H' s hn hl
noncomputable def ei (m : List (Str × Int)) (cs : ar) (a f s : Str) : Option (List Int) := match atc cs (num m a) with
  | none => none
  | some c => if mayB m f c.1 = true ∧ mayB m s c.2 = true then some [num m a] else none
noncomputable def dl (cs : ar) (e : Int) : Nat → Int → List Int → Option (List Int)
  | 0, _, _ => none
  | n + 1, p, tk => if p = e then some tk else if p ∈ tk then none else match atc cs p with
    | none => none
    | some c => dl cs e n c.2 (tk ++ [p])
noncomputable def di (cs : ar) (p e : Int) : Option (List Int) := dl cs e (cs.length + 1) p []
noncomputable def bx (cs : ar) : Nat → List Int → List Int → Option (List Int)
  | 0, _, _ => none
  | _ + 1, [], tk => some tk
  | n + 1, p :: co, tk => if p = 0 then bx cs n co tk else if p ∈ tk then none else match atc cs p with
    | none => none
    | some c => bx cs n (c.1 :: c.2 :: co) (tk ++ [p])
noncomputable def gj (cs : ar) (t : Int) : Option (List Int) := bx cs (2 * cs.length + 2) [t] []
noncomputable def dti (tk : List Int) : List (Key × V) := tk.map fun k => (Sum.inl k, V.bl true)
theorem km : ∀ (tk : List Int) (x : Int), (valV (dti tk) (Sum.inl x)).isSome = decide (x ∈ tk)
  | [], x => rfl
  | k :: tk, x => by
    by_cases h : k = x
    · rw [show valV (dti (k :: tk)) (Sum.inl x) = some (.bl true) from gk (p := ((Sum.inl k, V.bl true) : Key × V)) (show (Sum.inl k : Key) = Sum.inl x by rw [h])]
      simp [h]
    · rw [show valV (dti (k :: tk)) (Sum.inl x) = valV (dti tk) (Sum.inl x) from gm (p := ((Sum.inl k, V.bl true) : Key × V)) (show ¬ (Sum.inl k : Key) = Sum.inl x from fun z => h (Sum.inl.inj z)), km tk x]
      have : ¬ x = k := fun z => h z.symm
      simp [this]
theorem vn {tk : List Int} {x : Int} (h : ¬ x ∈ tk) : putK (dti tk) (Sum.inl x) (.bl true) = dti (tk ++ [x]) := by
  rw [a38]
  · unfold dti; rw [List.map_append]; rfl
  · have := km tk x
    rw [decide_eq_false h] at this
    cases hv : valV (dti tk) (Sum.inl x) with
    | none => rfl
    | some v => rw [hv] at this; cases this
theorem uw (tk : List Int) : (dti tk).map (fun kv => kV kv.1) = tk.map V.int := by unfold dti; rw [List.map_map]; rfl
structure Went (cs : ar) (tk : List Int) : Prop where
  nd : tk.Nodup
  there : ∀ k ∈ tk, (atc cs k).isSome = true
theorem Went.len {cs : ar} {tk : List Int} (h : Went cs tk) : tk.length ≤ cs.length := by
  have := List.Nodup.length_le_of_subset h.nd (l₂ := cs.map (·.1)) fun k hk => qi (h.there k hk)
  rw [List.length_map] at this; exact this
theorem Went.more {cs : ar} {tk : List Int} {p : Int} (h : Went cs tk) (hn : ¬ p ∈ tk) (ha : (atc cs p).isSome = true) : Went cs (tk ++ [p]) := by
  refine ⟨g5 h.nd hn, fun k hk => ?_⟩
  rcases List.mem_append.mp hk with h1 | h1
  · exact h.there k h1
  · simp only [List.mem_cons, List.not_mem_nil, or_false] at h1; rw [h1]; exact ha
inductive spCellTS (K : PySem.W.Frag) (vs : List V) (H : Hp) (Q : VK) : Prop
  | mk (d h p : Addr) (m : List (Str × Int)) (cs : ar) (a f s : Str) (h0 : vs = [.ref d, .ref h, .ref p]) (h1 : H d = some (.dK (dv m))) (h2 : HeapAt K H h cs) (h3 : RowAt K H p ["cell", a, f, s]) (h4 : Has m a) (h5 : (f = "any" ∨ Has m f)) (h6 : (s = "any" ∨ Has m s)) (h7 : Gives H (ei m cs a f s) Q) : spCellTS K vs H Q
noncomputable def xi (K : PySem.W.Frag) : Sp := fun vs H Q _ => spCellTS K vs H Q
inductive spStretchTS (K : PySem.W.Frag) (vs : List V) (H : Hp) (Q : VK) : Prop
  | mk (h : Addr) (p e : Int) (cs : ar) (h0 : vs = [.ref h, .int p, .int e]) (h1 : HeapAt K H h cs) (h2 : cs.length ≤ 1000) (h3 : Gives H (di cs p e) Q) : spStretchTS K vs H Q
noncomputable def pq (K : PySem.W.Frag) : Sp := fun vs H Q _ => spStretchTS K vs H Q
inductive spTreeTS (K : PySem.W.Frag) (vs : List V) (H : Hp) (Q : VK) : Prop
  | mk (h : Addr) (t : Int) (cs : ar) (h0 : vs = [.ref h, .int t]) (h1 : HeapAt K H h cs) (h2 : cs.length ≤ 1000) (h3 : Gives H (gj cs t) Q) : spTreeTS K vs H Q
noncomputable def xa (K : PySem.W.Frag) : Sp := fun vs H Q _ => spTreeTS K vs H Q
section
variable {P : Program} {w : World} {K : PySem.W.Frag} {mg : Str → Option Value} {base : Heap} {f g g2 : Addr} {fd gd gd2 : FuncData}
theorem scCellT : FnScope ["values", "heap", "part", "place", "cell"] ["values", "heap", "part"] (ak j9) := ⟨rfl, rfl, rfl, by decide +kernel, rfl, by decide +kernel, by decide +kernel⟩
theorem a2j (F : Fun K "cell_taken" "cell_taken" j9 f fd) (G : FnOk P w K mg base CX0 1 g gd ["values", "word"] pd) (cG : Cal K mg "number_of" g gd ["values", "word"])
    (G2 : FnOk P w K mg base CX0 2 g2 gd2 ["values", "word", "number"] a3b) (cG2 : Cal K mg "may_be" g2 gd2 ["values", "word", "number"]) : FnOk P w K mg base CX0 3 f fd ["values", "heap", "part"] (xi K) := by
  refine F.okQ scCellT (fun vs H Q E h => ?_) (fun cdv A outer s0 H vs Q E hr h => ?_)
  · obtain ⟨d, h, p, m, cs, a, f, s, rfl, _⟩ := h; rfl
  obtain ⟨d, h, p, m, cs, a, f, s, rfl, hD, hH, hR, ha, hf, hs, q⟩ := h
  have nd := scCellT.nd
  have hr1 := hr.mono (j := 1) (by lia)
  have hu := dw hr
  refine ⟨_, ae (al (i := 3) nd rfl (Or.inl rfl) (ao G hr1 rfl cG.name cG.keep cG.bind .nil aw (af (qv 0) (ax (aq (ixTk (K := K) rfl) (qv 2) ag (fun _ _ => rfl)) ac))))
    (ae (bd (ma hu (qv 3) (qv 1)) (am (az d9)) b9)
    (ae (al (i := 4) nd rfl (Or.inl rfl) (ck hu (qv 1) (qv 3) (fun _ _ => rfl)))
    (ae (bd (QW.qt (my (md (jz (ao G2 hr rfl cG2.name cG2.keep cG2.bind .nil aw (af (qv 0) (ax (aq (ixTk (K := K) rfl) (qv 2) ag (fun _ _ => rfl)) (ax (aq (ixTk (K := K) rfl) (qv 4) ag (fun _ _ => rfl)) ac))))))
      (jo (md (jz (ao G2 hr rfl cG2.name cG2.keep cG2.bind .nil aw (af (qv 0) (ax (aq (ixTk (K := K) rfl) (qv 2) ag (fun _ _ => rfl)) (ax (aq (ixTk (K := K) rfl) (qv 4) ag (fun _ _ => rfl)) ac))))))))) (am (az d9)) b9)
    (am (az (ay (af (qv 3) ac))))))), ?_⟩
  obtain ⟨hp, h1, h2⟩ := id hH
  refine ⟨_, rfl, _, rfl, p, _, 1, .str a, rfl, rfl, hR, rfl, d, m, a, rfl, hD, ha, ?_⟩
  rcases fc h2 (num m a) with ⟨e1, e2⟩ | ⟨r, x, y, e1, e2, hc⟩
  · have g := DGet.k (k := Sum.inl (num m a)) h1
    rw [e2] at g
    refine ⟨_, rfl, _, rfl, h, _, rfl, g, _, rfl, iteT ?_⟩
    exact q.none (by unfold ei; rw [e1]) (Same.refl _)
  · have g := DGet.k (k := Sum.inl (num m a)) h1
    rw [e2] at g
    refine ⟨_, rfl, _, rfl, h, _, rfl, g, _, rfl, iteF ?_⟩
    refine ⟨_, rfl, _, rfl, h, .ref r, rfl, g, ?_⟩
    refine ⟨_, rfl, _, rfl, p, _, 2, .str f, rfl, rfl, hR, rfl, _, rfl, r, _, 0, .int x, rfl, rfl, hc, rfl, d, m, f, x, rfl, hD, hf, _, rfl, iteB (fun c => ?_) (fun c => ?_)⟩
    · have c' : mayB m f x = false := by simpa using c
      exact q.none (by unfold ei; rw [e1]; simp [c']) (Same.refl _)
    have c' : mayB m f x = true := by simpa using c
    refine ⟨_, rfl, _, rfl, p, _, 3, .str s, rfl, rfl, hR, rfl, _, rfl, r, _, 1, .int y, rfl, rfl, hc, rfl, d, m, s, y, rfl, hD, hs, _, rfl, iteB (fun c2 => ?_) (fun c2 => ?_)⟩
    · have c2' : mayB m s y = false := by simpa using c2
      exact q.none (by unfold ei; rw [e1]; simp [c2']) (Same.refl _)
    have c2' : mayB m s y = true := by simpa using c2
    refine ⟨_, rfl, (show 1 ≤ sizeLine by decide), fun l hl => ?_⟩
    exact q.some (ns := [num m a]) (by unfold ei; rw [e1]; simp [c', c2']) (ad hl _) hl aa
noncomputable def a5c (i j k : Nat) : TT := fun σ H Q => ∃ (p : Int) (td h : Addr) (tk : List Int) (kvs : List (Key × V)), σ[i]? = some (some (.int p)) ∧ σ[j]? = some (some (.ref td)) ∧ σ[k]? = some (some (.ref h)) ∧ H td = some (.dK (dti tk)) ∧ H h = some (.dK kvs) ∧ Q (decide (p ∈ tk) || (valV kvs (Sum.inl p)).isNone) H
theorem p8 {i j k : Nat} (σ : St) (H : Hp) (Q : Bool → Hp → Prop) (h : a5c i j k σ H Q) : tOr (tB (tDIn (tVar i) (tVar j))) (tB (qp (tVar i) (tVar k))) σ H Q := by
  obtain ⟨p, td, h, tk, kvs, h1, h2, h3, ht, hh, q⟩ := h
  refine ⟨_, h1, _, h2, td, _, rfl, DGet.k (k := Sum.inl p) ht, _, rfl, iteB (fun c => ?_) (fun c => ?_)⟩
  · rw [km] at c
    rw [c, Bool.true_or] at q
    exact q
  · rw [km] at c
    rw [c, Bool.false_or] at q
    refine ⟨_, h1, _, h3, h, _, rfl, DGet.k (k := Sum.inl p) hh, _, rfl, ?_⟩
    cases hv : valV kvs (Sum.inl p) with
    | none => rw [hv] at q; exact q
    | some v => rw [hv] at q; exact q
theorem scStretchT : FnScope ["heap", "place", "end", "taken"] ["heap", "place", "end"] (ak fz) := ⟨rfl, rfl, rfl, by decide +kernel, rfl, by decide +kernel, by decide +kernel⟩
theorem wp (C : Con K mg w) (F : Fun K "stretch_taken" "stretch_taken" fz f fd) : FnOk P w K mg base CX0 1 f fd ["heap", "place", "end"] (pq K) := by
  refine F.okQ scStretchT (fun vs H Q E h => ?_) (fun cdv A outer s0 H vs Q E hr h => ?_)
  · obtain ⟨h, p, e, cs, rfl, _⟩ := h; rfl
  obtain ⟨h, p0, en, cs, rfl, hH, hcl, q⟩ := h
  have nd := scStretchT.nd
  have hu := dw hr
  refine ⟨_, ae (al (i := 3) nd rfl (Or.inl rfl) ib)
    (ae (oj PassesOwn.never (av pg (qv 1) (qv 2) (au _))
      (ae (bd (wy (QW.qt (my (a05 hu (qv 1) (qv 3)) (jo (ma hu (qv 1) (qv 0))))) p8) (am (az d9)) b9)
      (ae (cj hu (qv 3) (qv 1) kt)
      (am (al (i := 1) nd rfl (Or.inl rfl) (aq (ixTk (K := K) rfl) (ck hu (qv 0) (qv 1) (fun _ _ => rfl)) ag (fun _ _ => rfl)))))))
    (am (az (bt (gs rfl) rfl C.list PyProof.Rows.boot_list (af (qv 3) ac))))), ?_⟩
  refine fun td htd => ?_
  have s1 := ad htd (.dK (dti []))
  refine tf (fun σ H' => Same H H' ∧ Ex2 fun p tk => And4 (H' td = some (.dK (dti tk))) (Went cs tk) (dl cs en (cs.length + 1 - tk.length) p tk = di cs p0 en) (σ = [some (.ref h), some (.int p), some (.int en), some (.ref td)]))
    (fun _ H' => match H' td with | some (.dK kvs) => cs.length + 1 - kvs.length | _ => 0) ⟨s1, p0, [], aa, ⟨List.nodup_nil, by simp⟩, rfl, rfl⟩ ?_ ?_
  · rintro σ H' ⟨e, p, tk, hT, hW, hgo, rfl⟩
    have hlen := hW.len
    obtain ⟨n, en'⟩ : ∃ n, cs.length + 1 - tk.length = n + 1 := ⟨cs.length - tk.length, by lia⟩
    rw [en'] at hgo
    refine ⟨_, rfl, _, rfl, rfl, _, rfl, iteB (fun c => ?_) (fun c => ?_)⟩
    · have c' : ¬ p = en := by simpa using c
      obtain ⟨hp, h1, h2⟩ := hH.same e
      have hgo' : (if p ∈ tk then none else match atc cs p with | none => none | some c => dl cs en n c.2 (tk ++ [p])) = di cs p0 en := by
        rw [← hgo]
        show _ = if p = en then some tk else _
        rw [if_neg c']
      refine ⟨p, td, h, tk, _, rfl, rfl, rfl, hT, h1, iteB (fun c2 => ?_) (fun c2 => ?_)⟩
      · refine q.none ?_ e
        rw [← hgo']
        by_cases hm : p ∈ tk
        · rw [if_pos hm]
        · rw [if_neg hm]
          rw [decide_eq_false hm, Bool.false_or] at c2
          rcases fc h2 p with ⟨e1, _⟩ | ⟨r, x, y, _, e2, _⟩
          · rw [e1]
          · rw [e2] at c2; cases c2
      · have hm : ¬ p ∈ tk := fun z => by rw [decide_eq_true z] at c2; cases c2
        rw [decide_eq_false hm, Bool.false_or] at c2
        rcases fc h2 p with ⟨_, e2⟩ | ⟨r, x, y, e1, e2, hc⟩
        · rw [e2] at c2; cases c2
        rw [if_neg hm, e1] at hgo'
        have hne : h ≠ td := by obtain ⟨_, h10, _⟩ := id hH; exact aj h10 htd
        refine ⟨_, rfl, _, rfl, td, _, rfl, DPut.k (k := Sum.inl p) hT ?_, ?_⟩
        · unfold dti; rw [List.length_map]; exact Nat.lt_of_le_of_lt (show tk.length ≤ 1000 by lia) (by decide)
        rw [vn hm]
        have g := DGet.k (H := upd H' td (.dK (dti (tk ++ [p])))) (a := h) (k := Sum.inl p) (by rw [ah hne]; exact h1)
        rw [e2] at g
        have hc' : SqT K (upd H' td (.dK (dti (tk ++ [p])))) r [.int x, .int y] := by
          rcases hc with (z | ⟨o, z⟩) | z
          · have : r ≠ td := fun w => by rw [w, hT] at z; cases z
            exact .inl (.inl (by rw [ah this]; exact z))
          · have : r ≠ td := fun w => by rw [w, hT] at z; cases z
            exact .inl (.inr ⟨o, by rw [ah this]; exact z⟩)
          · exact .inr z
        have hW2 := hW.more hm (by rw [e1]; rfl)
        have hlen2 := hW2.len
        rw [List.length_append, List.length_singleton] at hlen2
        refine ⟨_, rfl, _, rfl, h, .ref r, rfl, g, r, _, 1, .int y, rfl, rfl, hc', rfl, ⟨br htd e _, y, tk ++ [p], aa, hW2, ?_, rfl⟩, ?_⟩
        · rw [← hgo', List.length_append, List.length_singleton, show cs.length + 1 - (tk.length + 1) = n by lia]
        · show (match upd H' td (.dK (dti (tk ++ [p]))) td with | some (.dK kvs) => cs.length + 1 - kvs.length | _ => 0) < (match H' td with | some (.dK kvs) => cs.length + 1 - kvs.length | _ => 0)
          rw [aa, hT]
          show cs.length + 1 - (dti (tk ++ [p])).length < cs.length + 1 - (dti tk).length
          unfold dti
          rw [List.length_map, List.length_map, List.length_append, List.length_singleton]
          lia
    · have c' : p = en := by simpa using c
      refine ⟨_, rfl, td, _, rfl, hT, fun l hl => ?_⟩
      rw [uw]
      refine q.some (ns := tk) ?_ (e.trans (ad hl _)) (e.free hl) aa
      rw [← hgo]
      show (if p = en then some tk else _) = _
      rw [if_pos c']
  · rintro σ H' Q1 Q2 hq ⟨v, h1, v2, h2, h3, k, hk, h4⟩
    exact ⟨v, h1, v2, h2, h3, k, hk, hq _ _ h4⟩
end
end K13
namespace K13
open PySem PySem.Spec L2 Mir
theorem ef {K : PySem.W.Frag} {H : Hp} {td r : Addr} {kvs kvs' : List (Key × V)} {xs : List V} (hT : H td = some (.dK kvs)) (hc : SqT K H r xs) : SqT K (upd H td (.dK kvs')) r xs := by
  rcases hc with (z | ⟨o, z⟩) | z
  · have : r ≠ td := fun w => by rw [w, hT] at z; cases z
    exact .inl (.inl (by rw [ah this]; exact z))
  · have : r ≠ td := fun w => by rw [w, hT] at z; cases z
    exact .inl (.inr ⟨o, by rw [ah this]; exact z⟩)
  · exact .inr z
section
variable {P : Program} {w : World} {K : PySem.W.Frag} {mg : Str → Option Value} {base : Heap} {f g g1 g2 g3 : Addr} {fd gd gd1 gd2 gd3 : FuncData}
theorem scTreeT : FnScope ["heap", "top", "taken", "coming", "place"] ["heap", "top"] (ak jq) := ⟨rfl, rfl, rfl, by decide +kernel, rfl, by decide +kernel, by decide +kernel⟩
theorem a2q (C : Con K mg w) (F : Fun K "tree_taken" "tree_taken" jq f fd) : FnOk P w K mg base CX0 1 f fd ["heap", "top"] (xa K) := by
  refine F.okQ scTreeT (fun vs H Q E h => ?_) (fun cdv A outer s0 H vs Q E hr h => ?_)
  · obtain ⟨h, t, cs, rfl, _⟩ := h; rfl
  obtain ⟨h, t0, cs, rfl, hH, hcl, q⟩ := h
  have nd := scTreeT.nd
  have hu := dw hr
  refine ⟨_, ae (al (i := 2) nd rfl (Or.inl rfl) ib)
    (ae (al (i := 3) nd rfl (Or.inl rfl) (ay (af (qv 1) ac)))
    (ae (oj PassesOwn.never (a1q (K := K) (qv 3))
      (ae (al (i := 4) nd rfl (Or.inl rfl) (a67 PySem.F.plainAttrs_list PySem.F.slot_list_pop PySem.F.type_list_pop a63 (qv 3)))
      (am (bd (av pg (qv 4) ag (au _))
        (ae (bd (wy (QW.qt (my (a05 hu (qv 4) (qv 2)) (jo (ma hu (qv 4) (qv 0))))) p8) (am (az d9)) b9)
        (ae (cj hu (qv 2) (qv 4) kt)
        (am (bi (ce (K := K) rfl PySem.F.plainAttrs_list PySem.F.slot_list_extend PySem.F.type_list_extend iw (qv 3) (ku (ax (aq (ixTk (K := K) rfl) (ck hu (qv 0) (qv 4) (fun _ _ => rfl)) ag (fun _ _ => rfl)) (ax (aq (ixTk (K := K) rfl) (ck hu (qv 0) (qv 4) (fun _ _ => rfl)) ag (fun _ _ => rfl)) ac)) ac)))))) b9))))
    (am (az (bt (gs rfl) rfl C.list PyProof.Rows.boot_list (af (qv 2) ac)))))), ?_⟩
  refine fun td htd => ?_
  have s1 := ad htd (.dK (dti []))
  refine ⟨_, rfl, (show 1 ≤ sizeLine by decide), fun cl hcl' => ?_⟩
  have s2 := ad hcl' (.lst [.int t0])
  have htc : td ≠ cl := aj aa hcl'
  have hcl0 : H cl = none := s1.free hcl'
  refine tf (fun σ H' => Same H H' ∧ Ex3 fun co tk z => And6 (H' td = some (.dK (dti tk))) (H' cl = some (.lst (co.reverse.map V.int))) (Went cs tk) (co.length ≤ tk.length + 1) (bx cs (2 * (cs.length - tk.length) + co.length + 1) co tk = gj cs t0) (σ = [some (.ref h), some (.int t0), some (.ref td), some (.ref cl), z]))
    (fun _ H' => match H' td, H' cl with | some (.dK kvs), some (.lst xs) => 2 * (cs.length - kvs.length) + xs.length | _, _ => 0) ⟨s1.trans s2, [t0], [], none, s2 _ _ aa, aa, ⟨List.nodup_nil, by simp⟩, by simp, rfl, rfl⟩ ?_ ?_
  · rintro σ H' ⟨e, co, tk, z, hT, hC, hW, hco, hgo, rfl⟩
    have hlen := hW.len
    refine ⟨_, rfl, _, .inl ⟨_, SqL.of hC, rfl⟩, iteB (fun c => ?_) (fun c => ?_)⟩
    · -- one more place
      cases co with
      | nil => cases c
      | cons p co =>
        have hlast : ((p :: co).reverse.map V.int)[((p :: co).reverse.map V.int).length - 1]? = some (.int p) := by
          rw [List.reverse_cons, List.map_append]
          simp
        have hdl : ((p :: co).reverse.map V.int).dropLast = co.reverse.map V.int := by
          rw [List.reverse_cons, List.map_append]
          simp
        refine ⟨_, rfl, .inl ⟨rfl, _, SqL.of hC⟩, cl, _, .int p, rfl, rfl, hC, hlast, ?_⟩
        rw [hdl]
        have hT2 : (upd H' cl (.lst (co.reverse.map V.int))) td = some (.dK (dti tk)) := by rw [ah htc]; exact hT
        have hC2 : (upd H' cl (.lst (co.reverse.map V.int))) cl = some (.lst (co.reverse.map V.int)) := aa
        have e2 := br hcl0 e (.lst (co.reverse.map V.int))
        have μ1 : (match H' td, H' cl with | some (.dK kvs), some (.lst xs) => 2 * (cs.length - kvs.length) + xs.length | _, _ => 0) = 2 * (cs.length - tk.length) + co.length + 1 := by
          rw [hT, hC]
          show 2 * (cs.length - (dti tk).length) + ((p :: co).reverse.map V.int).length = _
          unfold dti
          rw [List.length_map, List.length_map, List.length_reverse, List.length_cons]; lia
        rw [List.length_cons, show 2 * (cs.length - tk.length) + (co.length + 1) + 1 = (2 * (cs.length - tk.length) + co.length + 1) + 1 by lia] at hgo
        rw [List.length_cons] at hco
        refine ⟨_, rfl, rfl, _, rfl, iteB (fun c2 => ?_) (fun c2 => ?_)⟩
        · have c2' : ¬ p = 0 := by simpa using c2
          have hgo' : (if p ∈ tk then none else match atc cs p with | none => none | some c => bx cs (2 * (cs.length - tk.length) + co.length + 1) (c.1 :: c.2 :: co) (tk ++ [p])) = gj cs t0 := by
            rw [← hgo]
            show _ = if p = 0 then _ else _
            rw [if_neg c2']
            all_goals rfl
          obtain ⟨hp, h1, h2⟩ := hH.same e2
          refine ⟨p, td, h, tk, _, rfl, rfl, rfl, hT2, h1, iteB (fun c3 => ?_) (fun c3 => ?_)⟩
          · refine q.none ?_ e2
            rw [← hgo']
            by_cases hm : p ∈ tk
            · rw [if_pos hm]
            · rw [if_neg hm]
              rw [decide_eq_false hm, Bool.false_or] at c3
              rcases fc h2 p with ⟨e1, _⟩ | ⟨r, x, y, _, e2', _⟩
              · rw [e1]
              · rw [e2'] at c3; cases c3
          · have hm : ¬ p ∈ tk := fun z => by rw [decide_eq_true z] at c3; cases c3
            rw [decide_eq_false hm, Bool.false_or] at c3
            rcases fc h2 p with ⟨_, e2'⟩ | ⟨r, x, y, e1, e2', hc⟩
            · rw [e2'] at c3; cases c3
            rw [if_neg hm, e1] at hgo'
            have hne : h ≠ td := by obtain ⟨_, h10, _⟩ := id hH; exact aj h10 htd
            have hne2 : h ≠ cl := by obtain ⟨_, h10, _⟩ := id hH; exact aj h10 hcl0
            refine ⟨_, rfl, _, rfl, td, _, rfl, DPut.k (k := Sum.inl p) hT2 ?_, ?_⟩
            · unfold dti; rw [List.length_map]; exact Nat.lt_of_le_of_lt (show tk.length ≤ 1000 by lia) (by decide)
            rw [vn hm]
            have e3 := br htd e2 (.dK (dti (tk ++ [p])))
            have hc3 := ef (kvs' := dti (tk ++ [p])) hT2 hc
            have h13 : (upd (upd H' cl (.lst (co.reverse.map V.int))) td (.dK (dti (tk ++ [p])))) h = some (.dK (hv hp)) := by rw [ah hne]; exact h1
            have hT3 : (upd (upd H' cl (.lst (co.reverse.map V.int))) td (.dK (dti (tk ++ [p])))) td = some (.dK (dti (tk ++ [p]))) := aa
            have hC3 : (upd (upd H' cl (.lst (co.reverse.map V.int))) td (.dK (dti (tk ++ [p])))) cl = some (.lst (co.reverse.map V.int)) := by rw [ah (Ne.symm htc)]; exact hC2
            generalize (upd (upd H' cl (.lst (co.reverse.map V.int))) td (.dK (dti (tk ++ [p])))) = H3 at e3 hc3 h13 hT3 hC3 ⊢
            have g := DGet.k (k := Sum.inl p) h13
            rw [e2'] at g
            have hW2 := hW.more hm (by rw [e1]; rfl)
            have hlen2 := hW2.len
            rw [List.length_append, List.length_singleton] at hlen2
            refine ⟨_, rfl, .inl ⟨rfl, _, SqL.of hC3⟩, _, rfl, _, rfl, h, .ref r, rfl, g, r, _, 1, .int y, rfl, rfl, hc3, rfl, _, rfl, _, rfl, h, .ref r, rfl, g, r, _, 0, .int x, rfl, rfl, hc3, rfl, (show 2 ≤ sizeLine by decide), fun l2 hl2 => ?_⟩
            have s4 := ad hl2 (.lst [.int y, .int x])
            have hcl2 : cl ≠ l2 := aj hC3 hl2
            refine ⟨cl, l2, _, _, rfl, rfl, s4 _ _ hC3, aa, ?_, ⟨br hcl0 (e3.trans s4) _, x :: y :: co, tk ++ [p], _, ?_, ?_, hW2, ?_, ?_, rfl⟩, ?_⟩
            · rw [List.length_map, List.length_reverse]; exact Nat.le_trans (show co.length + 2 ≤ 2000 by lia) (by decide)
            · rw [ah htc]; exact s4 _ _ hT3
            · rw [aa, List.reverse_cons, List.reverse_cons, List.map_append, List.map_append, List.append_assoc]; rfl
            · rw [List.length_append, List.length_singleton, List.length_cons, List.length_cons]; lia
            · rw [← hgo', List.length_append, List.length_singleton, List.length_cons, List.length_cons]
              congr 1
              lia
            · rw [μ1]
              show (match (upd (upd H3 l2 _) cl _) td, (upd (upd H3 l2 _) cl _) cl with | some (.dK kvs), some (.lst xs) => 2 * (cs.length - kvs.length) + xs.length | _, _ => 0) < _
              rw [aa, ah htc, s4 _ _ hT3]
              show 2 * (cs.length - (dti (tk ++ [p])).length) + (co.reverse.map V.int ++ [V.int y, V.int x]).length < _
              unfold dti
              rw [List.length_map, List.length_append, List.length_append, List.length_map, List.length_reverse, List.length_singleton]
              simp only [List.length_cons, List.length_nil]
              lia
        · have c2' : p = 0 := by simpa using c2
          refine ⟨⟨e2, co, tk, _, hT2, hC2, hW, by lia, ?_, rfl⟩, ?_⟩
          · rw [← hgo]
            show _ = if p = 0 then _ else _
            rw [if_pos c2']
          · rw [μ1]
            show (match (upd H' cl _) td, (upd H' cl _) cl with | some (.dK kvs), some (.lst xs) => 2 * (cs.length - kvs.length) + xs.length | _, _ => 0) < _
            rw [aa, hT2]
            show 2 * (cs.length - (dti tk).length) + (co.reverse.map V.int).length < _
            unfold dti
            rw [List.length_map, List.length_map, List.length_reverse]
            lia
    · have hnil : co = [] := by
        cases co with
        | nil => rfl
        | cons p co =>
          have c' : (!((p :: co).reverse.map V.int).isEmpty) = false := c
          rw [List.reverse_cons, List.map_append] at c'
          simp at c'
      subst hnil
      refine ⟨_, rfl, td, _, rfl, hT, fun l hl => ?_⟩
      rw [uw]
      exact q.some (ns := tk) hgo.symm (e.trans (ad hl _)) (e.free hl) aa
  · rintro σ H' Q1 Q2 hq ⟨v, h1, k, hk, h4⟩
    exact ⟨v, h1, k, hk, hq _ _ h4⟩
noncomputable def a3g (m : List (Str × Int)) (r : List Str) : Prop := (∃ a b c : Str, r = [("cell" : Str), a, b, c] ∧ Has m a ∧ (b = "any" ∨ Has m b) ∧ (c = "any" ∨ Has m c)) ∨ (∃ a b : Str, r = [("stretch" : Str), a, b] ∧ Has m a ∧ Has m b) ∨ (∃ a : Str, r = [("tree" : Str), a] ∧ Has m a)
noncomputable def be (m : List (Str × Int)) (cs : ar) (r : List Str) : Option (List Int) :=
  if r.getD 0 "" = "cell" then ei m cs (r.getD 1 "") (r.getD 2 "") (r.getD 3 "") else if r.getD 0 "" = "stretch" then di cs (num m (r.getD 1 "")) (num m (r.getD 2 "")) else gj cs (num m (r.getD 1 ""))
inductive spPartTS (K : PySem.W.Frag) (vs : List V) (H : Hp) (Q : VK) : Prop
  | mk (d h p : Addr) (m : List (Str × Int)) (cs : ar) (r : List Str) (h0 : vs = [.ref d, .ref h, .ref p]) (h1 : H d = some (.dK (dv m))) (h2 : HeapAt K H h cs) (h3 : cs.length ≤ 1000) (h4 : RowAt K H p r) (h5 : a3g m r) (h6 : Gives H (be m cs r) Q) : spPartTS K vs H Q
noncomputable def x6 (K : PySem.W.Frag) : Sp := fun vs H Q _ => spPartTS K vs H Q
theorem a4c : FnScope ["values", "heap", "part"] ["values", "heap", "part"] (ak jd) := ⟨rfl, rfl, rfl, by decide +kernel, rfl, by decide +kernel, by decide +kernel⟩
theorem a1t (F : Fun K "part_taken" "part_taken" jd f fd) (G : FnOk P w K mg base CX0 1 g gd ["values", "word"] pd) (cG : Cal K mg "number_of" g gd ["values", "word"])
    (G1 : FnOk P w K mg base CX0 3 g1 gd1 ["values", "heap", "part"] (xi K)) (cG1 : Cal K mg "cell_taken" g1 gd1 ["values", "heap", "part"])
    (G2 : FnOk P w K mg base CX0 1 g2 gd2 ["heap", "place", "end"] (pq K)) (cG2 : Cal K mg "stretch_taken" g2 gd2 ["heap", "place", "end"])
    (G3 : FnOk P w K mg base CX0 1 g3 gd3 ["heap", "top"] (xa K)) (cG3 : Cal K mg "tree_taken" g3 gd3 ["heap", "top"]) : FnOk P w K mg base CX0 4 f fd ["values", "heap", "part"] (x6 K) := by
  refine F.okQ a4c (fun vs H Q E h => ?_) (fun cdv A outer s0 H vs Q E hr h => ?_)
  · obtain ⟨d, h, p, m, cs, r, rfl, _⟩ := h; rfl
  obtain ⟨d, h, p, m, cs, r, rfl, hD, hH, hcl, hR, hP, q⟩ := h
  have hr1 := hr.mono (j := 1) (by lia)
  refine ⟨_, ae (bd (av bn (aq (ixTk (K := K) rfl) (qv 2) ag (fun _ _ => rfl)) cb (au _)) (am (az (ao G1 hr rfl cG1.name cG1.keep cG1.bind .nil aw (af (qv 0) (af (qv 1) (af (qv 2) ac)))))) b9)
    (ae (bd (av bn (aq (ixTk (K := K) rfl) (qv 2) ag (fun _ _ => rfl)) cb (au _)) (am (az (ao G2 hr1 rfl cG2.name cG2.keep cG2.bind .nil aw (af (qv 1)
      (bh (ao G hr1 rfl cG.name cG.keep cG.bind .nil aw (af (qv 0) (ax (aq (ixTk (K := K) rfl) (qv 2) ag (fun _ _ => rfl)) ac))) (bh (ao G hr1 rfl cG.name cG.keep cG.bind .nil aw (af (qv 0) (ax (aq (ixTk (K := K) rfl) (qv 2) ag (fun _ _ => rfl)) ac))) ac)))))) b9)
    (am (az (ao G3 hr1 rfl cG3.name cG3.keep cG3.bind .nil aw (af (qv 1) (bh (ao G hr1 rfl cG.name cG.keep cG.bind .nil aw (af (qv 0) (ax (aq (ixTk (K := K) rfl) (qv 2) ag (fun _ _ => rfl)) ac))) ac)))))), ?_⟩
  rcases hP with ⟨a, b, c, rfl, ha, hb, hc⟩ | ⟨a, b, rfl, ha, hb⟩ | ⟨a, rfl, ha⟩
  · refine ⟨_, rfl, p, _, 0, .str "cell", rfl, rfl, hR, rfl, rfl, _, rfl, iteB (fun _ => ?_) (fun c => by simp at c)⟩
    exact ⟨_, rfl, _, rfl, _, rfl, d, h, p, m, cs, a, b, c, rfl, hD, hH, hR, ha, hb, hc, q⟩
  · refine ⟨_, rfl, p, _, 0, .str "stretch", rfl, rfl, hR, rfl, rfl, _, rfl, iteB (fun c => absurd c (by decide +kernel)) (fun _ => ?_)⟩
    refine ⟨_, rfl, p, _, 0, .str "stretch", rfl, rfl, hR, rfl, rfl, _, rfl, iteB (fun _ => ?_) (fun c => by simp at c)⟩
    have e : be m cs ["stretch", a, b] = di cs (num m a) (num m b) := by
      show (if ("stretch" : Str) = "cell" then _ else if ("stretch" : Str) = "stretch" then di cs (num m a) (num m b) else _) = _
      rw [if_neg (by decide +kernel), if_pos rfl]
    rw [e] at q
    exact ⟨_, rfl, _, rfl, _, rfl, p, _, 1, .str a, rfl, rfl, hR, rfl, d, m, a, rfl, hD, ha, _, rfl, _, rfl, p, _, 2, .str b, rfl, rfl, hR, rfl, d, m, b, rfl, hD, hb, h, _, _, cs, rfl, hH, hcl, q⟩
  · refine ⟨_, rfl, p, _, 0, .str "tree", rfl, rfl, hR, rfl, rfl, _, rfl, iteB (fun c => absurd c (by decide +kernel)) (fun _ => ?_)⟩
    refine ⟨_, rfl, p, _, 0, .str "tree", rfl, rfl, hR, rfl, rfl, _, rfl, iteB (fun c => absurd c (by decide +kernel)) (fun _ => ?_)⟩
    have e : be m cs ["tree", a] = gj cs (num m a) := by
      show (if ("tree" : Str) = "cell" then _ else if ("tree" : Str) = "stretch" then _ else gj cs (num m a)) = _
      rw [if_neg (by decide +kernel), if_neg (by decide +kernel)]
    rw [e] at q
    exact ⟨_, rfl, _, rfl, _, rfl, p, _, 1, .str a, rfl, rfl, hR, rfl, d, m, a, rfl, hD, ha, h, _, cs, rfl, hH, hcl, q⟩
end
end K13
namespace K13
open PySem PySem.Spec L2 Mir
noncomputable abbrev ji : Stmt := top 15
noncomputable abbrev n0 : Stmt := top 16
theorem se {cs : ar} {e : Int} : ∀ (n : Nat) (p : Int) (tk ns : List Int), Went cs tk → dl cs e n p tk = some ns → ns.length ≤ cs.length
  | 0, _, _, _, _, h => by cases h
  | n + 1, p, tk, ns, hW, h => by
    have h' : (if p = e then some tk else if p ∈ tk then none else match atc cs p with | none => none | some c => dl cs e n c.2 (tk ++ [p])) = some ns := h
    by_cases h1 : p = e
    · rw [if_pos h1] at h'; cases h'; exact hW.len
    · rw [if_neg h1] at h'
      by_cases h2 : p ∈ tk
      · rw [if_pos h2] at h'; cases h'
      · rw [if_neg h2] at h'
        cases ha : atc cs p with
        | none => rw [ha] at h'; cases h'
        | some c => rw [ha] at h'; exact se n c.2 _ ns (hW.more h2 (by rw [ha]; rfl)) h'
theorem kg {cs : ar} : ∀ (n : Nat) (co tk ns : List Int), Went cs tk → bx cs n co tk = some ns → ns.length ≤ cs.length
  | 0, _, _, _, _, h => by cases h
  | n + 1, [], tk, ns, hW, h => by
    have h' : some tk = some ns := h
    cases h'; exact hW.len
  | n + 1, p :: co, tk, ns, hW, h => by
    have h' : (if p = 0 then bx cs n co tk else if p ∈ tk then none else match atc cs p with | none => none | some c => bx cs n (c.1 :: c.2 :: co) (tk ++ [p])) = some ns := h
    by_cases h1 : p = 0
    · rw [if_pos h1] at h'; exact kg n co tk ns hW h'
    · rw [if_neg h1] at h'
      by_cases h2 : p ∈ tk
      · rw [if_pos h2] at h'; cases h'
      · rw [if_neg h2] at h'
        cases ha : atc cs p with
        | none => rw [ha] at h'; cases h'
        | some c => rw [ha] at h'; exact kg n _ _ ns (hW.more h2 (by rw [ha]; rfl)) h'
theorem ky (cs : ar) : Went cs [] := ⟨List.nodup_nil, by simp⟩
theorem lu {m : List (Str × Int)} {cs : ar} {r : List Str} {ns : List Int} (h : be m cs r = some ns) : ns.length ≤ cs.length := by
  unfold be at h
  split at h
  · unfold ei at h
    split at h
    · cases h
    · rename_i c hc
      split at h
      · cases h
        have := qi (cs := cs) (x := num m (r.getD 1 "")) (by rw [hc]; rfl)
        have hl : 0 < (cs.map (·.1)).length := List.length_pos_of_mem this
        rw [List.length_map] at hl
        exact hl
      · cases h
  · split at h
    · exact se _ _ _ _ (ky cs) h
    · exact kg _ _ _ _ (ky cs) h
noncomputable def ci {α : Type} : List (Option α) → Option (List α)
  | [] => some []
  | none :: _ => none
  | some a :: r => (ci r).map (a :: ·)
theorem lm {α : Type} : ∀ {os : List (Option α)}, (∀ o ∈ os, o ≠ none) → ∃ as, ci os = some as ∧ os = as.map some
  | [], _ => ⟨[], rfl, rfl⟩
  | none :: r, h => absurd rfl (h none (List.mem_cons_self ..))
  | some a :: r, h => by
    obtain ⟨as, h1, h2⟩ := lm (os := r) fun o ho => h o (List.mem_cons_of_mem _ ho)
    exact ⟨a :: as, by show (ci r).map (a :: ·) = _; rw [h1]; rfl, by rw [h2]; rfl⟩
theorem il {α : Type} : ∀ {os : List (Option α)}, none ∈ os → ci os = none
  | [], h => by simp at h
  | none :: r, _ => rfl
  | some a :: r, h => by
    have : none ∈ r := by
      rcases List.mem_cons.mp h with z | z
      · cases z
      · exact z
    show (ci r).map (a :: ·) = none
    rw [il this]; rfl
noncomputable def bc (m : List (Str × Int)) (cs : ar) (fs ps : List (List Str)) : Option (List (List Int)) :=
  if fs.all (bv m) = true then match ci (ps.map (be m cs)) with
    | none => none
    | some rows => if rows.flatten.Nodup then some rows else none
  else none
noncomputable def GivesR (H : Hp) (o : Option (List (List Int))) (Q : VK) : Prop := match o with
  | none => ∀ H', Same H H' → Q .non H'
  | some rows => ∀ l las H', Same H H' → H l = none → (∀ a ∈ las, H a = none ∧ a ≠ l) → H' l = some (.lst (las.map V.ref)) → Paired (fun a r => H' a = some (.lst (r.map V.int))) las rows → Q (.ref l) H'
theorem GivesR.none {H : Hp} {o : Option (List (List Int))} {Q : VK} (h : GivesR H o Q) (e : o = Option.none) {H' : Hp} (s : Same H H') : Q .non H' := by subst e; exact h H' s
theorem GivesR.some {H : Hp} {o : Option (List (List Int))} {Q : VK} {rows : List (List Int)} (h : GivesR H o Q) (e : o = Option.some rows) {l : Addr} {las : List Addr} {H' : Hp} (s : Same H H') (hn : H l = Option.none) (ha : ∀ a ∈ las, H a = Option.none ∧ a ≠ l) (hl : H' l = Option.some (.lst (las.map V.ref))) (hp : Paired (fun a r => H' a = Option.some (.lst (r.map V.int))) las rows) : Q (.ref l) H' := by subst e; exact h l las H' s hn ha hl hp
noncomputable def a6h (m : List (Str × Int)) (r : List Str) : Prop := ∃ k u v : Str, r = [k, u, v] ∧ Has m u ∧ Has m v
structure TellR (m : List (Str × Int)) (fs ps : List (List Str)) : Prop where
  sF : ee fs
  sP : ee ps
  few : ∀ ss : List Str, ss.Nodup → (∀ y ∈ ss, y ∈ cc (fs ++ ps)) → ss.length < 64
  has : ∀ y ∈ cc (fs ++ ps), (lkI m y).isSome = true
  facts : ∀ r ∈ fs, a6h m r
  parts : ∀ r ∈ ps, a3g m r
  six : ps.length ≤ 6
theorem TellR.ne {m : List (Str × Int)} {fs ps : List (List Str)} (h : TellR m fs ps) : ∀ r ∈ fs ++ ps, r ≠ [] := fun r hr z => by
  rcases List.mem_append.mp hr with h1 | h1
  · obtain ⟨k, u, v, e, _⟩ := h.facts r h1; rw [e] at z; cases z
  · rcases h.parts r h1 with ⟨a, b, c, e, _⟩ | ⟨a, b, e, _⟩ | ⟨a, e, _⟩ <;> (rw [e] at z; cases z)
inductive spCoverS (K : PySem.W.Frag) (vs : List V) (H : Hp) (Q : VK) : Prop
  | mk (d h t : Addr) (m : List (Str × Int)) (cs : ar) (fs ps : List (List Str)) (h0 : vs = [.ref d, .ref h, .ref t]) (h1 : H d = some (.dK (dv m))) (h2 : HeapAt K H h cs) (h3 : cs.length ≤ 600) (h4 : TellAt K H t [fs, ps]) (h5 : TellR m fs ps) (h6 : GivesR H (bc m cs fs ps) Q) : spCoverS K vs H Q
noncomputable def jf (K : PySem.W.Frag) : Sp := fun vs H Q _ => spCoverS K vs H Q
noncomputable def fk (m : List (Str × Int)) (cs : ar) (fs ps : List (List Str)) : Bool := match bc m cs fs ps with
  | none => false
  | some rows => decide ((rows.map (·.length)).sum = cs.length)
inductive spFitsS (K : PySem.W.Frag) (vs : List V) (H : Hp) (Q : VK) : Prop
  | mk (d h t : Addr) (m : List (Str × Int)) (cs : ar) (fs ps : List (List Str)) (h0 : vs = [.ref d, .ref h, .ref t]) (h1 : H d = some (.dK (dv m))) (h2 : HeapAt K H h cs) (h3 : cs.length ≤ 600) (h4 : TellAt K H t [fs, ps]) (h5 : TellR m fs ps) (h6 : ∀ H', Same H H' → Q (.bl (fk m cs fs ps)) H') : spFitsS K vs H Q
noncomputable def ue (K : PySem.W.Frag) : Sp := fun vs H Q _ => spFitsS K vs H Q
noncomputable def a3y (H1 : Hp) (D : Addr) (H : Hp) (y : V) (o : Option (List Int)) : Prop := (o = none ∧ y = .non) ∨ ∃ a ns, o = some ns ∧ y = .ref a ∧ a ≠ D ∧ H1 a = none ∧ H a = some (.lst (ns.map V.int))
noncomputable def dOpt (o : Option (List Int)) : PyData := match o with
  | none => .none
  | some ns => .list (ns.map .int)
theorem jy {K : PySem.W.Frag} {H : Hp} : ∀ ns : List Int, DpAll K H (ns.map V.int) (ns.map PyData.int)
  | [] => .nil
  | x :: r => .cons (.int x) (jy r)
theorem v8 {K : PySem.W.Frag} {H1 H : Hp} {D : Addr} : ∀ {ys : List V} {os : List (Option (List Int))}, Paired (fun y o => a3y H1 D H y o) ys os → DpAll K H ys (os.map dOpt)
  | _, _, .nil => .nil
  | _, _, .cons h t => by
    refine .cons ?_ (v8 t)
    rcases h with ⟨rfl, rfl⟩ | ⟨a, ns, rfl, rfl, _, _, h⟩
    · exact .non
    · exact .lst (SqL.of h) (jy ns)
theorem ul : ∀ ns : List Int, PyData.canLayAll0 (ns.map PyData.int) = true
  | [] => by simp only [List.map_nil, PyData.canLayAll0]
  | x :: r => by simp only [List.map_cons, PyData.canLayAll0, PyData.canLay0, Bool.true_and, ul r]
theorem kj : ∀ ns : List Int, PyData.depthAll (ns.map PyData.int) ≤ 0
  | [] => by simp only [List.map_nil, PyData.depthAll]; exact Nat.le_refl _
  | x :: r => by simp only [List.map_cons, PyData.depthAll, PyData.depth]; exact Nat.max_le.mpr ⟨Nat.le_refl _, kj r⟩
theorem iz (ns : List Int) : EqOk (.list (ns.map PyData.int)) := by
  constructor
  · simp only [PyData.canLay0]; exact ul ns
  · have := kj ns
    simp only [PyData.depth]; lia
theorem lx : EqOk .none := ⟨by simp only [PyData.canLay0], by simp only [PyData.depth]; lia⟩
theorem vv (o : Option (List Int)) : EqOk (dOpt o) ∧ (dOpt o).depth ≤ 1 := by
  cases o with
  | none => exact ⟨lx, by simp only [dOpt, PyData.depth]; lia⟩
  | some ns => exact ⟨iz ns, by have := kj ns; simp only [dOpt, PyData.depth]; lia⟩
theorem sh (os : List (Option (List Int))) : EqOk (.list (os.map dOpt)) := by
  have h1 : ∀ os : List (Option (List Int)), PyData.canLayAll0 (os.map dOpt) = true := fun os => by
    induction os with
    | nil => simp only [List.map_nil, PyData.canLayAll0]
    | cons o r ih => simp only [List.map_cons, PyData.canLayAll0, Bool.and_eq_true]; exact ⟨(vv o).1.1, ih⟩
  have h2 : ∀ os : List (Option (List Int)), PyData.depthAll (os.map dOpt) ≤ 1 := fun os => by
    induction os with
    | nil => simp only [List.map_nil, PyData.depthAll]; lia
    | cons o r ih => simp only [List.map_cons, PyData.depthAll]; exact Nat.max_le.mpr ⟨(vv o).2, ih⟩
  constructor
  · simp only [PyData.canLay0]; exact h1 os
  · have := h2 os
    simp only [PyData.depth]; lia
theorem uh (os : List (Option (List Int))) : ((os.map dOpt).any fun e => PyData.eqv e .none) = decide (none ∈ os) := by
  rw [List.any_map, Bool.eq_iff_iff, List.any_eq_true, decide_eq_true_eq]
  constructor
  · rintro ⟨o, ho, h⟩
    cases o with
    | none => exact ho
    | some ns => exact absurd (show PyData.eqv (.list (ns.map .int)) .none = true from h) (by simp [PyData.eqv])
  · intro h
    exact ⟨none, h, rfl⟩
end K13
namespace K13
open PySem PySem.Spec L2 Mir
theorem ip {B : Nat} : ∀ {rows : List (List Int)}, (∀ r ∈ rows, r.length ≤ B) → rows.flatten.length ≤ rows.length * B
  | [], _ => by simp
  | r :: rows, h => by
    have h1 := ip (rows := rows) fun x hx => h x (List.mem_cons_of_mem _ hx)
    have h2 := h r (List.mem_cons_self ..)
    rw [List.flatten_cons, List.length_append, List.length_cons, Nat.succ_mul]
    lia
theorem uj : ∀ rows : List (List Int), rows.flatten.length = (rows.map (·.length)).sum
  | [] => rfl
  | r :: rows => by rw [List.flatten_cons, List.length_append, List.map_cons, List.sum_cons, uj rows]
theorem lenK {X : Cx} {K : PySem.W.Frag} (hK : X.K = K) : cw X (.builtin "len") (fun xs H Q => ∃ p ys, xs = [.ref p] ∧ (SqL K H p ys ∨ SqT K H p ys) ∧ Q (.int ys.length) H) := by subst hK; exact mj
section
variable {P : Program} {w : World} {K : PySem.W.Frag} {mg : Str → Option Value} {base : Heap} {f gC gO gP : Addr} {fd dC dO dP : FuncData} {NV : Addr}
theorem scCover : FnScope ["values", "heap", "telling", "rows", "taken", "row"] ["values", "heap", "telling"] (ak ji) := ⟨rfl, rfl, rfl, by decide +kernel, rfl, by decide +kernel, by decide +kernel⟩
theorem a1s (C : Con K mg w) (F : Fun K "cover" "cover" ji f fd) (GC : FnOk P w K mg base (CXE P w base) 2 gC dC ["values", "telling"] (tj K NV)) (cC : Cal K mg "check_values" gC dC ["values", "telling"])
    (GO : FnOk P w K mg base CX0 2 gO dO ["values", "fact"] (x9 K)) (cO : Cal K mg "holds" gO dO ["values", "fact"])
    (GP : FnOk P w K mg base CX0 4 gP dP ["values", "heap", "part"] (x6 K)) (cP : Cal K mg "part_taken" gP dP ["values", "heap", "part"]) : FnOk P w K mg base (CXE P w base) 5 f fd ["values", "heap", "telling"] (jf K) := by
  refine F.okEQ scCover (fun vs H Q E h => ?_) (fun cdv A outer s0 H vs Q E hr h => ?_)
  · obtain ⟨d, h, t, m, cs, fs, ps, rfl, _⟩ := h; rfl
  obtain ⟨d, h, t, m, cs, fs, ps, rfl, hD, hH, hcl, ht, hT, q⟩ := h
  have nd := scCover.nd
  have hr2 := hr.mono (j := 2) (by lia)
  have hu := Nat.lt_of_le_of_lt (Nat.add_le_add_left (show 32 ≤ 64 by decide) _) hr.units
  refine ⟨_, ae (bi (ao GC hr2 rfl cC.name cC.keep cC.bind .nil (xb rfl) (af (qv 0) (af (qv 2) ac))))
    (ae (bd (md (jz (b7 (v6 rfl) rfl C.all PyProof.Rows.boot_all (fv (a2n ["fact", "values"] [0] (dn (K := K) rfl (aq (ixTk (K := K) rfl) (qv 2) ag (fun _ _ => rfl))) (fun _ _ _ _ => ga)
        (fun _ _ _ _ => ao GO hr2 rfl cO.name cO.keep cO.bind .nil aw (af (qv 1) (af (qv 0) ac)))) ac)))) (am (az d9)) b9)
    (ae (kq ["part", "values", "heap"] [0, 1] (i := 3) nd rfl (Or.inl rfl) (dn (K := K) rfl (aq (ixTk (K := K) rfl) (qv 2) ag (fun _ _ => rfl))) (fun _ _ _ _ => ga)
        (fun _ _ _ _ => ao GP hr rfl cP.name cP.keep cP.bind .nil aw (af (qv 1) (af (qv 2) (af (qv 0) ac)))))
    (ae (bd (av (a5j hu) d9 (qv 3) (by with_unfolding_all rfl)) (am (az d9)) b9)
    (ae (al (i := 4) nd rfl (Or.inl rfl) (ay ac))
    (ae (a6d (cr PassesOwn.never rfl (dn (K := K) rfl (qv 3)) (ba (i := 5) nd rfl (Or.inl rfl))
      (am (bi (ce (K := K) rfl PySem.F.plainAttrs_list PySem.F.slot_list_extend PySem.F.type_list_extend iw (qv 4) (af (qv 5) ac))))))
    (am (az (tp (av bn (b7 lg rfl C.len PySem.boot_len (bh (bt (lh rfl) rfl C.set PyProof.Rows.boot_set (af (qv 4) ac)) ac)) (b7 (dk (K := K) rfl) rfl C.len PySem.boot_len (af (qv 4) ac)) (au _)) (qv 3) d9)))))))), ?_⟩
  refine ⟨_, rfl, _, rfl, d, t, m, fs, ps, rfl, hD, ht, hT.sF, hT.sP, hT.ne, hT.few, fun _ H1 e1 => ?_, fun z => by
    obtain ⟨y, hy, hn⟩ := z
    have := hT.has y hy
    rw [hn] at this
    cases this⟩
  obtain ⟨as, t1, t2⟩ := ht.same e1
  cases t2 with
  | @cons fa _ _ _ t3 t4 =>
  cases t4 with
  | @cons pa _ _ _ t5 t6 =>
  cases t6
  obtain ⟨fas, f1, f2⟩ := t3
  obtain ⟨pas, p1, p2⟩ := t5
  have fl : fas.length = fs.length := Paired.length f2
  have pl : pas.length = ps.length := Paired.length p2
  have lf := hT.sF.1
  have lp := hT.six
  refine ⟨_, rfl, t, _, 0, .ref fa, rfl, rfl, t1, rfl, fa, rfl, ⟨_, SqL.of f1⟩, ?_⟩
  refine j8 (fas.map V.ref) (fs.map fun r => V.bl (bv m r)) gx (SqL.of f1) (by rw [List.length_map]; exact Nat.le_of_lt (fe (by lia))) (by rw [List.length_map, List.length_map, fl]) (fun i x y hx hy H2 e2 Q' q' => ?_) fun D1 H2 hD1 e2 hd1 => ?_
  · obtain ⟨b, hb, rfl⟩ := gv hx
    obtain ⟨r, hr1', hr2'⟩ := Paired.nth f2 hb
    rw [List.getElem?_map, hr1'] at hy
    have hy' : y = .bl (bv m r) := (Option.some.inj hy).symm
    subst hy'
    obtain ⟨k, u, v, rfl, h1, h2⟩ := hT.facts r (List.mem_of_getElem? hr1')
    exact ⟨_, rfl, _, rfl, d, b, m, k, u, v, rfl, e2 _ _ (e1 _ _ hD), hr2'.same e2, h1, h2, q' H2 (Same.refl _)⟩
  refine ⟨D1, fs.map (bv m), rfl, SqL.of (by rw [hd1, List.map_map]; rfl), _, rfl, iteB (fun c => ?_) (fun c => ?_)⟩
  · have c' : ¬ fs.all (bv m) = true := fun z => by
      rw [List.all_map] at c
      have z' : (fs.all (id ∘ bv m)) = true := z
      rw [z'] at c; cases c
    exact q.none (by unfold bc; rw [if_neg c']) (e1.trans e2)
  have cF : fs.all (bv m) = true := by
    rw [List.all_map] at c
    have : (!(fs.all (id ∘ bv m))) = false := c
    simpa using this
  have e12 := e1.trans e2
  refine ⟨_, rfl, t, _, 1, .ref pa, rfl, rfl, e2.seqT t1, rfl, pa, rfl, ⟨_, SqL.of (e2 _ _ p1)⟩, ?_⟩
  refine oq (pas.map V.ref) ps (a3y H2) (be m cs) gx (SqL.of (e2 _ _ p1)) (by rw [List.length_map]; lia) (by rw [List.length_map]; lia) (fun D H H' y o h k => ?_) (fun D i x r hx hr' H3 e3 hDn Q' q' => ?_) fun D2 H3 ys hD2 e3 hd2 pr => ?_
  · rcases h with h | ⟨a, ns, h1, h2, h3, h4, h5⟩
    · exact .inl h
    · exact .inr ⟨a, ns, h1, h2, h3, h4, k _ _ h5 h3⟩
  · obtain ⟨b, hb, rfl⟩ := gv hx
    have hrs : RowAt K H1 b r := Paired.at2 p2 hb hr'
    refine ⟨_, rfl, _, rfl, _, rfl, d, h, b, m, cs, r, rfl, e3 _ _ (e12 _ _ hD), hH.same (e12.trans e3), by lia, hrs.same (e2.trans e3), hT.parts r (List.mem_of_getElem? hr'), ?_⟩
    cases ho : be m cs r with
    | none => exact fun H' e' => q' _ H' e' (.inl ⟨ho, rfl⟩)
    | some ns => exact fun l H' e' hl hl' => q' _ H' e' (.inr ⟨l, ns, ho, rfl, fun z => hDn (z ▸ hl), e3.free hl, hl'⟩)
  have e13 := e12.trans e3
  generalize hos : ps.map (be m cs) = os at pr
  have hol : os.length = ps.length := by rw [← hos, List.length_map]
  refine ⟨_, rfl, D2, ys, os.map dOpt, .none, rfl, SqL.of hd2, v8 pr, .non, sh os, lx, _, rfl, iteB (fun c2 => ?_) (fun c2 => ?_)⟩
  · rw [uh, decide_eq_true_eq] at c2
    exact q.none (by unfold bc; rw [if_pos cF, hos, il c2]) e13
  rw [uh, decide_eq_false_iff_not] at c2
  obtain ⟨rows, hrs, hrm⟩ := lm (os := os) fun o ho z => c2 (z ▸ ho)
  have ecov : bc m cs fs ps = if rows.flatten.Nodup then some rows else none := by unfold bc; rw [if_pos cF, hos, hrs]
  have hrl : rows.length = ps.length := by rw [← hol, hrm, List.length_map]
  have hlen : ∀ r ∈ rows, r.length ≤ 600 := fun r hr' => by
    have : some r ∈ os := by rw [hrm]; exact List.mem_map.mpr ⟨r, hr', rfl⟩
    rw [← hos] at this
    obtain ⟨r0, _, he⟩ := List.mem_map.mp this
    exact Nat.le_trans (lu he) hcl
  obtain ⟨las, hys, hla⟩ : ∃ las : List Addr, ys = las.map V.ref ∧ Paired (fun a r => (a ≠ D2 ∧ H2 a = none) ∧ H3 a = some (.lst (r.map V.int))) las rows := by
    rw [hrm] at pr
    clear hrm hrs hos ecov hrl hlen c2 hol hd2
    induction rows generalizing ys with
    | nil => cases pr; exact ⟨[], rfl, .nil⟩
    | cons r rows ih =>
      rw [List.map_cons] at pr
      cases pr with
      | cons h t =>
        obtain ⟨las, h1, h2⟩ := ih _ t
        rcases h with ⟨z, _⟩ | ⟨a, ns, z, rfl, h3, h4, h5⟩
        · cases z
        · cases z
          exact ⟨a :: las, by rw [h1]; rfl, .cons ⟨⟨h3, h4⟩, h5⟩ h2⟩
  subst hys
  have hll : las.length = rows.length := Paired.length hla
  have hflat := ip hlen
  have hfl4 : rows.flatten.length ≤ 3600 := Nat.le_trans hflat (by rw [hrl]; exact Nat.mul_le_mul_right 600 lp)
  refine ⟨Nat.zero_le _, fun tk htk => ?_⟩
  have s4 := ad htk (.lst [])
  have hDt : D2 ≠ tk := aj hd2 htk
  refine ⟨_, rfl, D2, rfl, ⟨_, SqL.of (s4 _ _ hd2)⟩, ?_⟩
  refine gn (xs := las.map V.ref) (fun i σ H' => Same H3 H' ∧ ∃ z5, H' tk = some (.lst ((rows.take i).flatten.map V.int)) ∧ σ = [some (.ref d), some (.ref h), some (.ref t), some (.ref D2), some (.ref tk), z5])
    ⟨s4, none, aa, rfl⟩ (fun i σ H' _ p => SqL.of (p.1 _ _ hd2)) ?_ ?_
  · rintro i v σ H' hi ⟨e, z5, hK', rfl⟩
    obtain ⟨b, hb, rfl⟩ := gv hi
    obtain ⟨r, hr1', hr2'⟩ := Paired.nth hla hb
    have ht1 : rows.take (i + 1) = rows.take i ++ [r] := by rw [List.take_add_one, hr1']; rfl
    have hle : (rows.take i).flatten.length + r.length ≤ 3600 + 600 := by
      have h1 := hlen r (List.mem_of_getElem? hr1')
      have h2 := ip (rows := rows.take i) (B := 600) fun x hx => hlen x (List.mem_of_mem_take hx)
      have h3 : (rows.take i).length ≤ 6 := by rw [List.length_take]; lia
      have h4 : (rows.take i).length * 600 ≤ 6 * 600 := Nat.mul_le_mul_right 600 h3
      lia
    refine ⟨_, rfl, .inl ⟨rfl, _, SqL.of hK'⟩, _, rfl, tk, b, _, _, rfl, rfl, hK', e _ _ hr2'.2, ?_, ?_⟩
    · rw [List.length_map, List.length_map]; exact Nat.le_trans hle (by decide)
    · refine ⟨fun c u qc => ?_, _, ?_, rfl⟩
      · rw [ah (aj qc htk)]; exact e _ _ qc
      · rw [aa, ht1, List.flatten_append, List.map_append]
        simp
  · rintro σ H' ⟨e, z5, hK', rfl⟩
    rw [List.length_map, hll, List.take_length] at hK'
    refine ⟨_, rfl, tk, _, rfl, SqL.of hK', (show _ < 4096 by lia), fun S SS hS => ?_⟩
    have s5 := ad hS (.set SS (metN rows.flatten))
    have hmle := y4 rows.flatten
    refine ⟨S, SS, _, rfl, aa, by lia, _, rfl, tk, _, rfl, .inl (SqL.of (s5 _ _ hK')), rfl, _, rfl, ?_⟩
    have uH := e13.trans (e.trans s5)
    refine iteB (fun c3 => ?_) (fun c3 => ?_)
    · have c3' : metN rows.flatten = rows.flatten.length := by
        have := of_decide_eq_true c3
        rw [List.length_map] at this
        have := V.int.inj this
        lia
      have hnd := (kc _).mp c3'
      have hD0 : H D2 = none := (e12).free hD2
      refine ⟨_, rfl, q.some (by rw [ecov, if_pos hnd]) uH hD0 (las := las) (fun a ha => ?_) (s5 _ _ (e _ _ hd2)) (Paired.mapP hla fun a r z => s5 _ _ (e _ _ z.2))⟩
      obtain ⟨i, hi, rfl⟩ := List.getElem_of_mem ha
      obtain ⟨r, _, hr2'⟩ := Paired.nth hla (List.getElem?_eq_getElem hi)
      exact ⟨e12.free hr2'.1.2, hr2'.1.1⟩
    · have c3' : ¬ rows.flatten.Nodup := fun z => by
        have := of_decide_eq_false c3
        rw [List.length_map, (kc _).mpr z] at this
        exact this rfl
      exact q.none (by rw [ecov, if_neg c3']) uH
theorem scFits : FnScope ["values", "heap", "telling", "rows"] ["values", "heap", "telling"] (ak n0) := ⟨rfl, rfl, rfl, by decide +kernel, rfl, by decide +kernel, by decide +kernel⟩
theorem a4v (C : Con K mg w) (F : Fun K "fits" "fits" n0 f fd) (GC : FnOk P w K mg base (CXE P w base) 5 gC dC ["values", "heap", "telling"] (jf K)) (cC : Cal K mg "cover" gC dC ["values", "heap", "telling"]) : FnOk P w K mg base (CXE P w base) 6 f fd ["values", "heap", "telling"] (ue K) := by
  refine F.okEQ scFits (fun vs H Q E h => ?_) (fun cdv A outer s0 H vs Q E hr h => ?_)
  · obtain ⟨d, h, t, m, cs, fs, ps, rfl, _⟩ := h; rfl
  obtain ⟨d, h, t, m, cs, fs, ps, rfl, hD, hH, hcl, ht, hT, q⟩ := h
  have nd := scFits.nd
  refine ⟨_, ae (al (i := 3) nd rfl (Or.inl rfl) (ao GC hr rfl cC.name cC.keep cC.bind .nil (xb rfl) (af (qv 0) (af (qv 1) (af (qv 2) ac)))))
    (am (az (a5a (de xu (qv 3) d9 (au _)) (a04 (de bn (b7 (lj rfl) rfl C.sum PyProof.Rows.boot_sum (fv (vm (dn (K := K) rfl (qv 3)) (fun _ _ _ _ => ga) (fun _ _ _ _ => b7 (lenK (K := K) rfl) rfl C.len PySem.boot_len (af (qv 0) ac))) ac))
      (b7 mo rfl C.len PySem.boot_len (af (qv 1) ac)) (au _)))))), ?_⟩
  refine ⟨_, rfl, _, rfl, _, rfl, d, h, t, m, cs, fs, ps, rfl, hD, hH, hcl, ht, hT, ?_⟩
  cases hc : bc m cs fs ps with
  | none =>
    intro H' e'
    have e : fk m cs fs ps = false := by unfold fk; rw [hc]
    refine ⟨_, rfl, rfl, _, rfl, iteF ?_⟩
    have := q H' e'
    rw [e] at this
    exact this
  | some rows =>
    intro l las H' e' hl0 hla hl hp
    have e : fk m cs fs ps = decide ((rows.map (·.length)).sum = cs.length) := by unfold fk; rw [hc]
    have hll : las.length = rows.length := Paired.length hp
    have hbound : rows.length ≤ 6 ∧ ∀ r ∈ rows, r.length ≤ 600 := by
      unfold bc at hc
      split at hc
      · split at hc
        · cases hc
        · rename_i rw' hrw
          split at hc
          · cases hc
            have key : ∀ (os : List (Option (List Int))) (as : List (List Int)), ci os = some as → as.length = os.length ∧ ∀ a ∈ as, some a ∈ os := by
              intro os
              induction os with
              | nil => intro as h; cases h; simp
              | cons o r ih =>
                intro as h
                cases o with
                | none => cases h
                | some a =>
                  have h' : (ci r).map (a :: ·) = some as := h
                  cases hr' : ci r with
                  | none => rw [hr'] at h'; cases h'
                  | some bs =>
                    rw [hr'] at h'
                    cases h'
                    obtain ⟨i1, i2⟩ := ih bs hr'
                    refine ⟨by rw [List.length_cons, List.length_cons, i1], fun x hx => ?_⟩
                    rcases List.mem_cons.mp hx with rfl | hx'
                    · exact List.mem_cons_self ..
                    · exact List.mem_cons_of_mem _ (i2 x hx')
            obtain ⟨k1, k2⟩ := key _ _ hrw
            refine ⟨by rw [k1, List.length_map]; exact hT.six, fun r hr' => ?_⟩
            obtain ⟨r0, _, he⟩ := List.mem_map.mp (k2 r hr')
            exact Nat.le_trans (lu he) hcl
          · cases hc
      · cases hc
    refine ⟨_, rfl, rfl, _, rfl, iteT ?_⟩
    refine ⟨_, rfl, l, rfl, ⟨_, SqL.of hl⟩, ?_⟩
    refine j8 (las.map V.ref) (rows.map fun r => V.int (r.length : Int)) gx (SqL.of hl) (by rw [List.length_map]; exact Nat.le_of_lt (fe (by lia))) (by rw [List.length_map, List.length_map, hll]) (fun i x y hx hy H2 e2 Q' q' => ?_) fun D1 H2 hD1 e2 hd1 => ?_
    · obtain ⟨b, hb, rfl⟩ := gv hx
      obtain ⟨r, hr1', hr2'⟩ := Paired.nth hp hb
      rw [List.getElem?_map, hr1'] at hy
      have hy' : y = .int (r.length : Int) := (Option.some.inj hy).symm
      subst hy'
      have := q' H2 (Same.refl _)
      refine ⟨_, rfl, b, _, rfl, .inl (SqL.of (e2 _ _ hr2')), ?_⟩
      rw [List.length_map]
      exact this
    have hH2 := (hH.same e').same e2
    obtain ⟨hp', h1, h2⟩ := id hH2
    have hhl : hp'.length = cs.length := Paired.length h2
    refine ⟨D1, rows.map (fun r => (r.length : Int)), rfl, SqL.of (by rw [hd1, List.map_map]; rfl), fun n hn => ?_, by rw [List.length_map]; lia, ?_⟩
    · obtain ⟨r, hr', rfl⟩ := List.mem_map.mp hn
      have := hbound.2 r hr'
      lia
    refine ⟨_, rfl, h, _, rfl, h1, rfl, ?_⟩
    have hsum : ∀ l : List (List Int), (l.map fun r => (r.length : Int)).sum = (((l.map (·.length)).sum : Nat) : Int) := fun l => by
      induction l with
      | nil => rfl
      | cons r l ih => rw [List.map_cons, List.sum_cons, ih, List.map_cons, List.sum_cons]; lia
    have hlv : (hv hp').length = cs.length := by unfold hv; rw [List.length_map, hhl]
    have e3 : decide (V.int ((rows.map fun r => (r.length : Int)).sum) = V.int ((hv hp').length : Int)) = decide ((rows.map (·.length)).sum = cs.length) := by
      rw [hsum, hlv]
      simp only [V.int.injEq]
      congr 1
      apply propext
      lia
    show Q (.bl (decide (V.int ((rows.map fun r => (r.length : Int)).sum) = V.int ((hv hp').length : Int)))) H2
    rw [e3, ← e]
    exact q H2 (e'.trans e2)
end
end K13
namespace K13
open PySem PySem.Spec L2 Mir
noncomputable def some22 : Str := "abcdefghjkmopqrsuvwxyz"
noncomputable def more32 : Str := some22 ++ "0123456789"
theorem i6 : some22.cps.toList.length = 22 := by decide +kernel
theorem i3 : more32.cps.toList.length = 32 := by decide +kernel
theorem w6 : some22.length ≤ sizeLine := by decide +kernel
theorem wb : more32.length ≤ sizeLine := by decide +kernel
theorem a1e : ∀ c ∈ some22.cps.toList, c ∈ more32.cps.toList := by decide +kernel
theorem yk : ∀ c ∈ more32.cps.toList, c < 128 := by decide +kernel
structure NameL (x : Str) : Prop where
  len : x.length ≤ 8
  signs : ∀ c ∈ x.cps.toList, c ∈ more32.cps.toList
theorem a4w : ∀ y ∈ Mir.noNames, ∃ c ∈ y.cps.toList, ¬ c ∈ more32.cps.toList := by decide +kernel
theorem NameL.no {x : Str} (h : NameL x) : ¬ x ∈ Mir.noNames := fun z => by
  obtain ⟨c, hc, hn⟩ := a4w x z
  exact hn (h.signs c hc)
noncomputable def Ok (x : Str) : Prop := (PyData.str x).canLay0 = true
theorem a2c (x : Str) (c : Nat) : (x ++ (⟨#[c]⟩ : Str)).cps.toList = x.cps.toList ++ [c] := by show (x.cps ++ #[c]).toList = _; rw [Array.toList_append]
theorem y6 (x y : Str) : (x ++ y).length = x.length + y.length := by show (x.cps ++ y.cps).size = _; rw [Array.size_append]; rfl
end K13
namespace L2
open PySem PySem.Spec PyProof.Rows PySem.SeqAt
open AutoSeq1 (wpAny_loadPart')
open MeetsSeq MeetsSeq2 MeetsSeq3
noncomputable def EqP (prog : Program) (w : World) (A : Around) (s : Shared) (y x : Value) : Prop := ∀ (E : Value → Shared → Prop) (Q : Bool → Shared → Prop), Q true s → wpAny (model prog w) A (eqBool y x) Q E s
section
variable {prog : Program} {w : World}
theorem a2g (p q : Addr) (us vs : Array Value) (m1 m2 : Nat) (d1 d2 : Option Addr) (o1 o2 : Array (Option Value)) (hz : us.size = vs.size) (c : Nat) :
    ∀ i : Nat, us.size - i = c → MeetsIn prog w (Builtin.«list.__eq__.loop» ⟨[.ref p, .ref q, rawInt i, rawInt 3], []⟩)
      (fun A R s => s.heap.get? p = some { cls := .type "list", dict := d1, data := .seq us m1, slots := o1 } ∧ s.heap.get? q = some { cls := .type "list", dict := d2, data := .seq vs m2, slots := o2 } ∧
        (∀ j (h1 : j < us.size) (h2 : j < vs.size), EqP prog w A.in1 s us[j] vs[j]) ∧ R (.ok (.ret (.bool false))) s) := by
  induction c with
  | zero =>
    intro i hi A R st hyp
    obtain ⟨m, gg, dr, tks, oo⟩ := st
    obtain ⟨gp, gq, same, fin⟩ := hyp
    wp_walk using wpAny_loadPart' gp, wpAny_loadPart' gq
    have n1 : us[((i : Nat) : Int).toNat]? = none := by
      simp
      lia
    have n2 : vs[((i : Nat) : Int).toNat]? = none := by
      simp
      lia
    rw [n1, n2]
    wp_walk using wpAny_loadPart' gp, wpAny_loadPart' gq
    show R (.ok (.ret (.bool (us.size != vs.size)))) _
    have e : (us.size != vs.size) = false := by rw [hz]; simp
    rw [e]; exact fin
  | succ c ih =>
    intro i hi A R st hyp
    obtain ⟨m, gg, dr, tks, oo⟩ := st
    obtain ⟨gp, gq, same, fin⟩ := hyp
    wp_walk using wpAny_loadPart' gp, wpAny_loadPart' gq
    have l1 : i < us.size := by lia
    have l2 : i < vs.size := by lia
    have n1 : us[((i : Nat) : Int).toNat]? = some us[i] := by simp [l1]
    have n2 : vs[((i : Nat) : Int).toNat]? = some vs[i] := by simp [l2]
    have up : ((i : Int) + 1) = ((i + 1 : Nat) : Int) := by lia
    rw [n1, n2]
    refine wpAny_bind (same i l1 l2 _ _ ?_)
    wp_walk
    rw [up]
    refine ⟨plainId_quiet plain_eq_loop _, codeAny_builtin entry_eq_loop ?_⟩
    rw [Around.under_plainId plain_eq_loop _]
    exact ih (i + 1) (by lia) A R _ ⟨gp, gq, same, fin⟩
theorem a34 (p q : Addr) (us vs : Array Value) (m1 m2 : Nat) (d1 d2 : Option Addr) (o1 o2 : Array (Option Value)) (hz : us.size = vs.size) : MeetsIn prog w (Builtin.«list.__ne__» ⟨[.ref p, .ref q], []⟩)
      (fun A R s => s.heap.get? p = some { cls := .type "list", dict := d1, data := .seq us m1, slots := o1 } ∧ s.heap.get? q = some { cls := .type "list", dict := d2, data := .seq vs m2, slots := o2 } ∧
        (∀ j (h1 : j < us.size) (h2 : j < vs.size), EqP prog w A.in1 s us[j] vs[j]) ∧ R (.ok (.ret (.bool false))) s) := by
  intro A R st hyp
  obtain ⟨m, gg, dr, tks, oo⟩ := st
  obtain ⟨gp, gq, same, fin⟩ := hyp
  have sub := AutoSeq1.sub_list_list
  have ns : ¬ (us.size != vs.size) = true := by rw [hz]; simp
  wp_walk using wpAny_loadPart' gp, wpAny_loadPart' gq
  refine ⟨plainId_quiet plain_eq_loop _, codeAny_builtin entry_eq_loop ?_⟩
  rw [Around.under_plainId plain_eq_loop _]
  exact a2g p q us vs m1 m2 d1 d2 o1 o2 hz _ 0 rfl A R _ ⟨gp, gq, same, fin⟩
end
noncomputable def AlikeV (K : PySem.W.Frag) (H : Hp) (v v' : V) : Prop := (v = v' ∧ sx v = true) ∨ (∃ p q kvs, v = .ref p ∧ v' = .ref q ∧ p ≠ q ∧ H p = some (.dK kvs) ∧ H q = some (.dK kvs) ∧ ∀ z ∈ kvs, sx z.2 = true) ∨ ∃ d, Dp K H v d ∧ Dp K H v' d ∧ EqOk d
section
variable {X : Cx}
theorem AlikeV.eqP {pins : List (Addr × Obj)} {σ : St} {H : Hp} {s : Shared} {v v' : V} {u u' : Value} {A : Around} (I : Inv X pins σ H s) (h : AlikeV X.K H v v') (r : RelV v u) (r' : RelV v' u') (hu : A.units + 30 < cLine) : EqP X.prog X.w A s u u' := by
  rcases h with ⟨rfl, hs⟩ | ⟨p, q, kvs, rfl, rfl, hne, hp, hq, hs⟩ | ⟨d, h1, h2, ok⟩
  · exact fun E Q k => vt hs r r' X.prog X.w E Q k
  · cases r
    cases r'
    intro E Q k
    unfold eqBool
    refine wpAny_holding (wpAny_ite_split (fun z => ?_) (fun _ => wpAny_bind ?_))
    · have zz := eq_of_beq z
      cases zz
      exact absurd rfl hne
    · obtain ⟨z, da, va, ra, dda⟩ := fb I.hok (.inl hp)
      obtain ⟨_, db, vb, rb, ddb⟩ := fb I.hok (.inl hq)
      have hl : va.length = vb.length := by rw [← ra.length, ← rb.length]
      refine PySem.W.keq_eq (r := true) da db dda ddb (by lia) (fun _ => qx hs ra rb (yw dda)) ?_
      rw [hl]
      simp only [beq_self_eq_true, Bool.and_true]
      exact wpAny_truthy_bool k
  · obtain ⟨as, ra⟩ := Dp.reads I h1 r
    obtain ⟨bs, rb⟩ := Dp.reads I h2 r'
    have := SeqAt.eqAt_reads d d A s u u' as bs ra rb (ok.1) (ok.1) (by have := ok.2; rw [Nat.min_self]; lia)
    rw [SeqAt.eqv_refl d ok.1] at this
    exact fun E Q k => this X.prog X.w E Q k
theorem a62 (hu : X.A.units + 32 < cLine) : OpR X (compareOp .NotEq) (fun x y H Q => ∃ a b xs ys, x = .ref a ∧ y = .ref b ∧ H a = some (.lst xs) ∧ H b = some (.lst ys) ∧ Paired (AlikeV X.K H) xs ys ∧ Q (.bl false) H) := by
  intro pins s σ H x y v u Q I rx ry h
  obtain ⟨a, b, xs, ys, rfl, rfl, ha, hb, hp, q⟩ := h
  cases rx
  cases ry
  obtain ⟨_, us, n1, r1, l1, e1⟩ := I.lstM ha
  obtain ⟨_, vs, n2, r2, l2, e2⟩ := I.lstM hb
  have hlen := Paired.length hp
  have t1 : s.TypeIs (.ref a) "list" := ⟨_, e1, rfl⟩
  have t2 : s.TypeIs (.ref b) "list" := ⟨_, e2, rfl⟩
  refine wpAny_richCompare_same_room (op := .NotEq) t1 t2 PySem.F.slot_list_ne (call_meetsIn PySem.F.slot_list_ne t1 PySem.F.entry_list_ne (PySem.F.args_list_ne_2 _ _) (a34 a b us.toArray vs.toArray n1 n2 none none #[] #[] (by rw [List.size_toArray, List.size_toArray]; lia)) ⟨e1, e2, fun j h1 h2 => ?_, ?_⟩) (by lia)
  · rw [List.size_toArray] at h1 h2
    have g1 : us[j]? = some us[j] := List.getElem?_eq_getElem h1
    have g2 : vs[j]? = some vs[j] := List.getElem?_eq_getElem h2
    have x1 : xs[j]? = some (xs[j]'(by lia)) := List.getElem?_eq_getElem _
    have y1 : ys[j]? = some (ys[j]'(by lia)) := List.getElem?_eq_getElem _
    obtain ⟨w1, i1, k1⟩ := r1.get x1
    obtain ⟨w2, i2, k2⟩ := r2.get y1
    rw [g1] at i1
    rw [g2] at i2
    cases i1
    cases i2
    have hal : AlikeV X.K H (xs[j]'(by lia)) (ys[j]'(by lia)) := by
      have key : ∀ {l m : List V} {i : Nat} {a b : V}, Paired (AlikeV X.K H) l m → l[i]? = some a → m[i]? = some b → AlikeV X.K H a b := by
        intro l m i a b hpp
        induction hpp generalizing i with
        | nil => intro z; simp at z
        | cons hh tt ih =>
          intro za zb
          cases i with
          | zero => simp at za zb; subst za zb; exact hh
          | succ i => exact ih (by simpa using za) (by simpa using zb)
      exact key hp x1 y1
    have := hal.eqP (A := X.A.in1) I k1 k2 (show X.A.in1.units + 30 < cLine by show X.A.units + 1 + 30 < cLine; lia)
    simpa using this
  · exact (show Value.bool false ≠ Value.notImplemented ∧ EP X pins σ Q (.bool false) s from ⟨(fun z => nomatch z), ⟨.bl false, H, I, rfl, q⟩⟩)
end
end L2
namespace L2
open PySem PySem.Spec PyProof.Rows
section
variable {X : Cx}
noncomputable def insV (xs : List V) (k : Nat) (y : V) : List V := xs.take k ++ y :: xs.drop k
inductive rInsertS (x : V) (vs : List V) (H : Hp) (Q : VK) : Prop
  | mk (l : Addr) (xs : List V) (i : Nat) (y : V) (h0 : x = .ref l) (h1 : vs = [.int ((i : Nat) : Int), y]) (h2 : H l = some (.lst xs)) (h3 : i ≤ xs.length) (h4 : xs.length ≤ 1000) (h5 : Q .non (upd H l (.lst (insV xs i y)))) : rInsertS x vs H Q
noncomputable def a43 : V → List V → Hp → VK → Prop := fun x vs H Q => rInsertS x vs H Q
theorem zw : MtM X "list.insert" a43 := by
  intro pins s σ H x vs v us Q I rx rv h
  obtain ⟨l, xs, i, y, rfl, rfl, hH, hi, hz, q⟩ := h
  cases rx
  obtain ⟨u0, u, rfl, ⟨t, rfl⟩, ru⟩ := a6w rv
  obtain ⟨z, its, n, r, hl, e⟩ := I.lstM hH
  have hfit : ¬ (!Builtin.List.listFitsIndex ((i : Nat) : Int)) = true := by
    have := fitsIndex_both (k := ((i : Nat) : Int)) (by lia) (by lia)
    rw [this]; simp
  have hsz : its.toArray.size ≤ sizeLine := by rw [List.size_toArray]; lia
  generalize hj : ((i : Nat) : Int) = j at hfit ⊢
  have M := PySem.AutoSeq1.list_insert_list_int_val_1 l its.toArray n j t u hfit hsz
  refine call_meets F.slot_list_insert ⟨_, e, rfl⟩ F.entry_list_insert (F.args_list_insert_3 (.ref l) (.int j t) u) M ⟨e, ?_⟩
  have hv : Vals (insV xs i y) (its.take i ++ u :: its.drop i) := (r.take i).append (.cons ru (r.drop i))
  refine ⟨.non, _, I.lset (its' := its.take i ++ u :: its.drop i) hH e ?_ hv ?_, rfl, q⟩
  · have hk : (if j < 0 then (j + ↑its.length).toNat else min j.toNat its.length) = i := by rw [if_neg (by lia)]; lia
    apply Array.toList_inj.mp
    simp [hk]
    rw [List.take_of_length_le (by rw [List.length_drop]; exact Nat.le_refl _)]
  · unfold insV
    rw [List.length_append, List.length_take, List.length_cons, List.length_drop]
    exact Nat.le_trans (show _ ≤ 1002 by lia) (by decide)
theorem sq (hc : X.calm = true) : cw X (.builtin "max") (fun vs H Q => ∃ (a : Addr) (ns : List Int), vs = [.ref a] ∧ SqL X.K H a (ns.map V.int) ∧ ns ≠ [] ∧ ∀ M ∈ ns, (∀ n ∈ ns, n ≤ M) → Q (.int M) H) := by
  intro pins s σ H vs us Q I r h
  obtain ⟨a, ns, rfl, hq, hne, q⟩ := h
  obtain ⟨u, rfl, ru⟩ := r.one
  cases ru
  obtain ⟨its, rv, p, _⟩ := I.list hq
  have hl : its.length = ns.length := by have := rv.length; rw [List.length_map] at this; lia
  have hn : 0 < ns.length := List.length_pos_iff.mpr hne
  have hat : ∀ (i : Nat) (v : Value), its.toArray[i]? = some v → ∃ t, v = .int (ns.getD i 0) t := fun i v hv => by
    have hv' : its[i]? = some v := by simpa using hv
    have hi : i < ns.length := by rw [← hl]; exact (List.getElem?_eq_some_iff.mp hv').1
    obtain ⟨w', hw, rw'⟩ := rv.get (show (ns.map V.int)[i]? = some (.int ns[i]) by rw [List.getElem?_map, List.getElem?_eq_getElem hi]; rfl)
    rw [hv'] at hw
    cases hw
    obtain ⟨t, rfl⟩ := rw'
    exact ⟨t, by rw [List.getD_eq_getElem?_getD, List.getElem?_eq_getElem hi]; rfl⟩
  have hax : a < s.heap.objs.size := by obtain ⟨o, ho, _⟩ := p.isList; exact Heap.lt_size ho
  refine call_max_walk (wpAny_pyIter_list p.isList ⟨s.heap.objs.size, _, _, _, _, _, fun i j => decide (ns.getD i 0 > ns.getD j 0), rfl, Walks.list (show X.A.in1.handled = none from I.ok.hd hc) s.heap.objs.size a (Nat.ne_of_lt hax) its.toArray, ⟨?_, ?_⟩, fun b hb => ?_, by rw [List.size_toArray]; lia, CmpOf.ints_gt (fun i => ns.getD i 0) hat, fun v h' tk hv hk => ?_⟩)
  · exact ⟨_, Heap.get?_push_size _ rfl, rfl, rfl⟩
  · exact p.isList.push _
  · rw [Heap.size_push]
    simp only [List.mem_cons, List.not_mem_nil, or_false] at hb
    rcases hb with rfl | rfl
    · exact Nat.lt_succ_self _
    · exact Nat.lt_succ_of_lt hax
  · obtain ⟨t, rfl⟩ := hat _ _ hv
    have hb := argBest_gt (fun i => ns.getD i 0) (its.toArray.size - 1)
    rw [List.size_toArray] at hb hv
    have hi : argBest (fun i j => decide (ns.getD i 0 > ns.getD j 0)) (its.length - 1) < ns.length := by have := hb.1; lia
    refine ⟨.int _, H, I.kept (t' := tk) fun b o hbo => hk b o (by simp only [List.mem_cons, List.not_mem_nil, or_false]; exact Nat.ne_of_lt (Heap.lt_size hbo)) (Heap.get?_push_of_some _ hbo), ⟨t, rfl⟩, q _ ?_ fun n hn' => ?_⟩
    · rw [List.size_toArray, List.getD_eq_getElem?_getD, List.getElem?_eq_getElem hi]; exact List.getElem_mem hi
    · obtain ⟨j, hj, rfl⟩ := List.getElem_of_mem hn'
      have := hb.2 j (by lia)
      rw [List.getD_eq_getElem?_getD, List.getElem?_eq_getElem hj] at this
      rw [List.size_toArray]
      exact this
theorem zp : ∀ {ks : List Key} {vs : List Value}, vs.length = ks.length → (∀ (j : Nat) (v : Value), vs[j]? = some v → ∃ k, ks[j]? = some k ∧ RelV (kV k) v) → Vals (ks.map kV) vs := fun hl h =>
  ou (by rw [List.length_map]; exact hl) fun j v hv => by
    obtain ⟨k, h1, h2⟩ := h j v hv
    exact ⟨kV k, by rw [List.getElem?_map, h1]; rfl, h2⟩
theorem vx {A : Around} {pins : List (Addr × Obj)} {σ : St} {H : Hp} {s : Shared} {a : Addr} {kvs : List (Key × V)} {E : Value → Shared → Prop} {R : List Value → Shared → Prop} (I : Inv X pins σ H s) (ha : H a = some (.dK kvs)) (hh : A.handled = none)
    (q : ∀ (h' : Heap) (tk : Nat) (vs : List Value), (∀ b o, s.heap.get? b = some o → h'.get? b = some o) → s.heap.objs.size ≤ h'.objs.size → Vals (kvs.map fun kv => kV kv.1) vs → R vs { s with heap := h', toks := tk }) : wpAny (model X.prog X.w) A (collect (.ref a)) R E s := by
  obtain ⟨z, hd, vs, rel, dd⟩ := fb I.hok (.inl ha)
  have hl := rel.length
  obtain ⟨ep, da⟩ := dd.dictAt
  have hlt : a < s.heap.objs.size := (PySem.W.kdl_dict hd).there _ da |>.1
  unfold collect
  refine wpAny_bind (wpAny_runValue (codeAny_builtin entry_proto_collect' ?_))
  rw [Around.under_plainId PySem.F.plain_proto_collect _]
  show wpAny _ A.in1 (newList [] >>= fun l => again (.builtin "list.__iadd__" ⟨[l, .ref a], []⟩)) _ _ s
  refine wpAny_bind (wpAny_newObj_type ?_)
  refine wpAny_pure ⟨plainId_quiet PySem.F.plain_list_iadd _, codeAny_builtin entry_list_iadd' ?_⟩
  rw [Around.under_plainId PySem.F.plain_list_iadd _]
  generalize hH : s.heap.push { cls := .type "list", data := .seq ([] : List Value).toArray } = H1
  have old : ∀ b ob, s.heap.get? b = some ob → H1.get? b = some ob := fun b ob e => by rw [← hH]; exact Heap.get?_push_of_some _ e
  have da1 := (PySem.W.kdl_dict (prog := X.prog) (w := X.w) (knd := bz X.prog X.w) (kvs := vs) (ep := ep) hd).keep _ H1 da fun b _ o e => old b o e
  have hD : H1.get? s.heap.objs.size = some { cls := .type "list", data := .seq #[] } := by rw [← hH]; exact Heap.get?_push_size _ rfl
  show wpAny _ A.in1 (Builtin.List.listExtendWith (.ref s.heap.objs.size) (.ref a) (.ref s.heap.objs.size)) _ _ { s with heap := H1 }
  refine PySem.W.kdl_extend (s := { s with heap := H1 }) (R := fun (r : Result) (s' : Shared) => match r with
    | .ok (.ret v) => wpAny (model X.prog X.w) A (match v with
      | .ref a => (load a >>= fun o => match o.data with
        | .seq xs _ => pure xs.toList
        | _ => unsupported "internal:collect")
      | _ => unsupported "internal:collect") R E s'
    | .ok _ => False
    | .error e => E e s') (PySem.W.kdl_dict hd) hh da1 s.heap.objs.size (Nat.ne_of_gt hlt) (Nat.ne_of_gt hlt) (.ref s.heap.objs.size) _ hD (fun h' tk acc c hk hS hacc => ?_) (by rw [← hl]; exact z)
  show wpAny _ A (load s.heap.objs.size >>= _) _ _ _
  refine wpAny_bind (wpAny_load hS (wpAny_pure (q h' tk acc.toList (fun b o e => hk b o (Nat.ne_of_lt (Heap.lt_size e)) (old b o e)) (Nat.le_of_lt (Heap.lt_size hS)) ?_)))
  have e1 : (kvs.map fun kv => kV kv.1) = (kvs.map (·.1)).map kV := by rw [List.map_map]; rfl
  rw [e1]
  refine zp (by rw [Array.length_toList, List.length_map, hl]; exact hacc.1) fun j v hv => ?_
  obtain ⟨k, x, e, ke⟩ := hacc.2 j v (by rw [← Array.getElem?_toList]; exact hv)
  have e2 : (vs.map (·.1))[j]? = some k := by rw [List.getElem?_map, e]; rfl
  rw [← rel.keys] at e2
  exact ⟨k, e2, xw ke⟩
theorem sa : ∀ {us : List Value} {xs : List Int}, IntsAre us xs → Vals (xs.map V.int) us
  | _, _, .nil => .nil
  | _, _, .cons x t r => .cons ⟨t, rfl⟩ (sa r)
theorem o4 (hc : X.calm = true) : cw X (.builtin "sorted") (fun vs H Q => ∃ (a : Addr) (kvs : List (Key × V)) (ns : List Int), vs = [.ref a] ∧ H a = some (.dK kvs) ∧ kvs.map (·.1) = ns.map Sum.inl ∧ ns.length < 64 ∧
    ∀ (p : Addr) (zs : List Int), H p = none → zs.Perm ns → Q (.ref p) (upd H p (.lst (zs.map V.int)))) := by
  intro pins s σ H vs us Q I r h
  obtain ⟨a, kvs, ns, rfl, ha, hks, hz, q⟩ := h
  obtain ⟨u, rfl, ru⟩ := r.one
  cases ru
  refine Calls.call_function_entry kind_sorted plain_sorted entry_sorted (args_sorted1 _) ?_
  unfold Builtin.«sorted»
  refine wpAny_bind (m := checkCount "sorted" 1 1 _) (wpAny_pure ?_)
  refine wpAny_bind (vx (A := X.A.in1) I ha (show X.A.in1.handled = none from I.ok.hd hc) fun h1 tk1 ord hk1 hsz hv => ?_)
  have e1 : (kvs.map fun kv => kV kv.1) = ns.map V.int := by
    have : (kvs.map fun kv => kV kv.1) = (kvs.map (·.1)).map kV := by rw [List.map_map]; rfl
    rw [this, hks, List.map_map]; rfl
  rw [e1] at hv
  have hys := ko hv
  have hn : ord.length < 64 := by have := hys.length; lia
  refine wpAny_bind (wpAny_newList ?_ (by rw [sizeLine_eq]; lia))
  have hoL : (h1.push (seqObj "list" ord.toArray 0)).get? h1.objs.size = some (seqObj "list" ord.toArray 0) := Heap.get?_push_size _ rfl
  show wpAny _ _ _ _ _ { s with heap := h1.push (seqObj "list" ord.toArray 0), toks := tk1 }
  refine wpAny_bind (wpAny_holding (wpAny_call_entry slot_list_sort ⟨_, hoL, rfl⟩ entry_list_sort (list_sort_tree hoL hys hn fun out zs a1 a2 a3 => ⟨_, rfl, ?_⟩) (args_list_sort _)))
  refine wpAny_pure ⟨_, rfl, ?_⟩
  obtain ⟨e, he⟩ := sortedHeap_at (out := out) hoL
  have fr : H h1.objs.size = none := I.hok.fresh hsz
  refine ⟨.ref h1.objs.size, upd H h1.objs.size (.lst (zs.map V.int)), I.laid (t' := tk1) (fun b o q' => ?_) hsz ⟨by rw [List.length_map, a2.length_eq]; exact Nat.le_of_lt (fe (by lia)), out.toList, e, sa a1, by simpa [seqObj] using he⟩, rfl, q _ zs fr a2⟩
  have hb := Heap.lt_size (hk1 b o q')
  rw [sortedHeap_old (Nat.ne_of_lt hb) (by rw [Heap.size_push]; exact Nat.lt_succ_of_lt hb)]
  exact Heap.get?_push_of_some _ (hk1 b o q')
inductive rNeEmptyS (x y : V) (H : Hp) (Q : VK) : Prop
  | mk (a b : Addr) (kvs : List (Key × V)) (h0 : x = .ref a) (h1 : y = .ref b) (h2 : H a = some (.dK kvs)) (h3 : H b = some (.dK [])) (h4 : Q (.bl (!kvs.isEmpty)) H) : rNeEmptyS x y H Q
noncomputable def a36 : R2 := fun x y H Q => rNeEmptyS x y H Q
theorem yo (hu : X.A.units + 1 < cLine) : OpR X (compareOp .NotEq) a36 := by
  intro pins s σ H x y v u Q I rx ry h
  obtain ⟨a, b, kvs, rfl, rfl, ha, hb, q⟩ := h
  cases rx
  cases ry
  obtain ⟨z, da, va, ra, dda⟩ := fb I.hok (.inl ha)
  obtain ⟨_, db, vb, rb, ddb⟩ := fb I.hok (.inl hb)
  have hb0 : vb = [] := List.length_eq_zero_iff.mp (by have := rb.length; simpa using this.symm)
  subst hb0
  have hl : kvs.length = va.length := ra.length
  refine PySem.W.keq_ne (r := true) da db dda ddb (by lia) (fun e => ?_) ⟨.bl (!kvs.isEmpty), H, I, ?_, q⟩
  · have : va = [] := List.length_eq_zero_iff.mp (by simpa using e)
    subst this
    exact qx (kvs := []) (fun p hp => by simp at hp) .nil .nil .nil
  · cases kvs with
    | nil => cases va with | nil => exact rfl | cons _ _ => cases hl
    | cons p l => cases va with | nil => cases hl | cons _ _ => exact rfl
noncomputable def a6o (_ j : Int) : Prop := 0 < j ∧ j ≤ 10 ^ 60
theorem a30 : OpR X (binaryOp .FloorDiv) (rI a6o fun i j => .int (i / j)) := opI fun i j _ _ _ _ _ hc q => by
  have h1 : (0 : Int) < j := hc.1
  have h2 : j ≤ 10 ^ 60 := hc.2
  refine floordiv_int (by lia) (by rw [Int.fdiv_eq_ediv_of_nonneg i (by lia)]; exact q) (.inl (PyProof.noPylong_of_log2 ?_))
  have h3 : j.natAbs < 2 ^ 200 := by
    have : (10 : Int) ^ 60 < 2 ^ 200 := by decide +kernel
    lia
  have h4 : j.natAbs.log2 < 200 := (Nat.log2_lt (by lia)).mpr h3
  lia
set_option autoImplicit true
set_option relaxedAutoImplicit true
theorem ot (ho : QE X o td) (he : QE X e ty) (m : M1 X o "pop" apos e cpos := by exact ⟨rfl, rfl, rfl, rfl⟩) : QE X (.Call (.Attribute o "pop" apos) [e] [] cpos) (zj td ty) := ⟨a1p ho.run he.run m⟩
end
end L2
namespace K13
open PySem PySem.Spec L2 Mir
noncomputable abbrev ie : Stmt := top 19
noncomputable abbrev ja : Stmt := top 20
noncomputable abbrev ni : Stmt := top 21
noncomputable abbrev ny : Stmt := top 22
theorem y9 (xs : List V) (h : xs ≠ []) : cutV xs (some 1) none = xs.drop 1 := by
  have hl : 0 < xs.length := List.length_pos_iff.mpr h
  unfold cutV
  rw [show (some (1 : Int)) = some ((1 : Nat) : Int) from rfl, HT.sIx_nat, HT.sIx_none, Nat.min_eq_left (by lia)]
  exact List.take_of_length_le (by rw [List.length_drop]; exact Nat.le_refl _)
theorem m3 {xs : List Int} {n : Nat} {i : Int} (hl : xs.length = n) (h0 : 0 < n) : ∃ v : Int, atI (xs.map V.int) (i % (n : Int)) = some (.int v) ∧ v ∈ xs := by
  obtain ⟨v, h1, h2⟩ := pi (xs := xs.map V.int) (m := (n : Int)) (i := i) (by rw [List.length_map, hl]) (by lia)
  obtain ⟨y, hy, rfl⟩ := List.mem_map.mp h2
  exact ⟨y, h1, hy⟩
inductive spStreamS (vs : List V) (H : Hp) (Q : VK) : Prop
  | mk (c : Int) (n : Nat) (h0 : vs = [.int c, .int (n : Int)]) (h1 : n ≤ 100) (h2 : ∀ l ns H', Same H H' → H l = none → H' l = some (.lst ((ns : List Int).map V.int)) → ns.length = n → Q (.ref l) H') : spStreamS vs H Q
noncomputable def uf : Sp := fun vs H Q _ => spStreamS vs H Q
inductive spDigitS (vs : List V) (H : Hp) (Q : VK) : Prop
  | mk (g : Addr) (n m : Int) (h0 : vs = [.ref g, .int m]) (h1 : H g = some (.lst [.int n])) (h2 : 0 < m) (h3 : m ≤ 10 ^ 60) (h4 : Q (.int (n % m)) (upd H g (.lst [.int (n / m)]))) : spDigitS vs H Q
noncomputable def i9 : Sp := fun vs H Q _ => spDigitS vs H Q
section
variable {P : Program} {w : World} {K : PySem.W.Frag} {mg : Str → Option Value} {base : Heap} {f g : Addr} {fd gd : FuncData}
theorem scStream : FnScope ["_law_cell", "_law_many", "_law_found", "_law_number_here", "_law_k"] ["_law_cell", "_law_many"] (ak ie) := ⟨rfl, rfl, rfl, by decide +kernel, rfl, by decide +kernel, by decide +kernel⟩
theorem a0n (C : Con K mg w) (F : Fun K "_law_stream" "_law_stream" ie f fd) : FnOk P w K mg base CX0 1 f fd ["_law_cell", "_law_many"] uf := by
  refine F.okQ scStream (fun vs H Q E h => ?_) (fun cdv A outer s0 H vs Q E hr h => ?_)
  · obtain ⟨c, n, rfl, _⟩ := h; rfl
  obtain ⟨c, n, rfl, hn, q⟩ := h
  have nd := scStream.nd
  refine ⟨_, ae (al (i := 2) nd rfl (Or.inl rfl) (ay ac))
    (ae (al (i := 3) nd rfl (Or.inl rfl) (ai bp (ai b0 (qv 0) ag) ag))
    (ae (cr PassesOwn.never rfl (bw rfl C.range (cz (ai bp (qv 1) ag) ac)) (ba (i := 4) nd rfl (Or.inl rfl))
      (ae (al (i := 3) nd rfl (Or.inl rfl) (ai b0 (ai bp (ai bp (ai fq (qv 3) (qv 3)) (ai fq ag (qv 3))) (qv 4)) ag))
      (am (bi (ce (K := K) rfl PySem.F.plainAttrs_list PySem.F.slot_list_append PySem.F.type_list_append bq (qv 2) (cz (ai b0 (ai fq (qv 3) (ai bp (ai df (qv 3) ag) ag)) ag) ac))))))
    (am (az (cn (slLk (K := K) rfl) (qv 2) (cg ag) dz))))), ?_⟩
  refine ⟨Nat.zero_le _, fun l hl => ?_⟩
  have s1 := ad hl (.lst [])
  refine ⟨_, rfl, _, _, rfl, rfl, (show (0 : Int) < 2147483647 by decide), _, _, rfl, rfl, ?_⟩
  have g0 := Int.emod_nonneg c (show (2147483647 : Int) ≠ 0 by decide)
  have g1 := Int.emod_lt_of_pos c (show (0 : Int) < 2147483647 by decide)
  have g2 : -(2 ^ 40) < c % 2147483647 + 16807 ∧ c % 2147483647 + 16807 < 2 ^ 40 := ⟨by lia, by lia⟩
  refine ⟨_, rfl, _, _, rfl, rfl, _, rfl, (by show -(2 ^ 62) ≤ (n : Int) + 1; lia), (by show (n : Int) + 1 < 2 ^ 62; lia), ?_⟩
  refine cf (lo := 0) (n := ((n : Int) + 1).toNat) (fun k σ H' => Same H H' ∧ Ex3 fun (xs : List Int) (v : Int) (z4 : Option V) => And5 (H' l = some (.lst (xs.map V.int))) (xs.length = k) (-(2 ^ 40) < v) (v < 2 ^ 40) (σ = [some (.int c), some (.int (n : Int)), some (.ref l), some (.int v), z4])) ⟨s1, [], _, none, aa, rfl, g2.1, g2.2, rfl⟩ ?_ ?_
  · rintro k σ H' hk ⟨e, xs, v, z4, hX, hxl, hv0, hv1, rfl⟩
    refine ⟨_, rfl, _, rfl, _, _, rfl, rfl, .inl ⟨by lia, by lia⟩, _, rfl, _, _, rfl, rfl, .inl ⟨by decide, by decide⟩, _, _, rfl, rfl, _, rfl, _, _, rfl, rfl, _, _, rfl, rfl, (show (0 : Int) < 2147483647 by decide), ?_⟩
    have k0 := Int.emod_nonneg (v * v + 16807 * v + (0 + (k : Int))) (show (2147483647 : Int) ≠ 0 by decide)
    have k1 := Int.emod_lt_of_pos (v * v + 16807 * v + (0 + (k : Int))) (show (0 : Int) < 2147483647 by decide)
    refine ⟨_, rfl, .inl ⟨rfl, _, SqL.of hX⟩, _, rfl, _, rfl, _, _, rfl, rfl, (show CDiv _ 7 from ⟨by decide, by decide⟩), _, _, rfl, rfl, _, _, rfl, rfl, .inl ⟨by lia, by lia⟩, _, _, rfl, rfl, (show (0 : Int) < 2147483563 by decide), l, _, _, rfl, rfl, hX, ?_, ?_⟩
    · rw [List.length_map]; exact Nat.lt_of_le_of_lt (show xs.length ≤ 1000 by lia) (by decide)
    · refine ⟨br hl e _, xs ++ [(v * v + 16807 * v + (0 + (k : Int))) % 2147483647 * ((v * v + 16807 * v + (0 + (k : Int))) % 2147483647 / 7 + 39373) % 2147483563], _, _, ?_, ?_, (by show -(2 ^ 40) < (v * v + 16807 * v + (0 + (k : Int))) % 2147483647; lia), (by show (v * v + 16807 * v + (0 + (k : Int))) % 2147483647 < 2 ^ 40; lia), rfl⟩
      · rw [aa, List.map_append]; rfl
      · rw [List.length_append, hxl]; rfl
  · rintro σ H' ⟨e, xs, v, z4, hX, hxl, hv0, hv1, rfl⟩
    refine ⟨_, rfl, _, rfl, l, _, rfl, SqL.of hX, fun p hp => ?_⟩
    rw [y9 _ (by intro z; have := congrArg List.length z; rw [List.length_map, hxl] at this; simp at this), ← List.map_drop]
    exact q p _ _ (e.trans (ad hp _)) (e.free hp) aa (by rw [List.length_drop]; lia)
theorem scDigit : FnScope ["_law_digits", "_law_many", "_law_found"] ["_law_digits", "_law_many"] (ak ja) := ⟨rfl, rfl, rfl, by decide +kernel, rfl, by decide +kernel, by decide +kernel⟩
theorem a2w (F : Fun K "_law_digit" "_law_digit" ja f fd) : FnOk P w K mg base CX0 1 f fd ["_law_digits", "_law_many"] i9 := by
  refine F.okQ scDigit (fun vs H Q E h => ?_) (fun cdv A outer s0 H vs Q E hr h => ?_)
  · obtain ⟨g, n, m, rfl, _⟩ := h; rfl
  obtain ⟨g, n, m, rfl, hG, hm, hm2, q⟩ := h
  have nd := scDigit.nd
  refine ⟨_, ae (al (i := 2) nd rfl (Or.inl rfl) (ai b0 (aq (ixKk (K := K) rfl) (qv 0) ag (fun _ _ => rfl)) (qv 1)))
    (ae (fh (ai a30 (aq (ixKk (K := K) rfl) (qv 0) ag (fun _ _ => rfl)) (qv 1)) (mh (qv 0) ag ir))
    (am (az (qv 2)))), ?_⟩
  refine ⟨_, rfl, g, _, 0, .int n, rfl, rfl, SqL.of hG, rfl, _, rfl, _, _, rfl, rfl, hm, ?_⟩
  refine ⟨_, rfl, g, _, 0, .int n, rfl, rfl, SqL.of hG, rfl, _, rfl, _, _, rfl, rfl, ⟨hm, hm2⟩, ?_⟩
  exact ⟨_, rfl, g, [.int n], 0, 0, rfl, rfl, hG, rfl, _, rfl, q⟩
end
end K13
namespace K13
open PySem PySem.Spec L2 Mir
structure NameG (x : Str) : Prop where
  no : ¬ x ∈ Mir.noNames
  len : x.length ≤ 20
  asc : ∀ c ∈ x.cps.toList, c < 128
theorem NameG.ok {x : Str} (h : NameG x) : Ok x := by
  unfold Ok
  simp only [PyData.canLay0]
  unfold PyData.strOk
  rw [← Array.all_toList, List.all_eq_true]
  intro c hc
  have := h.asc c hc
  exact decide_eq_true (by lia)
theorem kh (x : Str) (l : List Str) : inV (.str x) (l.map V.str) = decide (x ∈ l) := by
  unfold inV
  rw [Bool.eq_iff_iff, List.any_eq_true, decide_eq_true_eq]
  constructor
  · rintro ⟨y, hy, e⟩
    obtain ⟨z, hz, rfl⟩ := List.mem_map.mp hy
    have : z = x := by
      have e' : (z == x) = true := e
      simpa using e'
    exact this ▸ hz
  · intro h
    exact ⟨.str x, List.mem_map.mpr ⟨x, h, rfl⟩, by show (x == x) = true; simp⟩
theorem NameL.g {x : Str} (h : NameL x) : NameG x := ⟨h.no, Nat.le_trans h.len (by decide), fun c hc => yk c (h.signs c hc)⟩
theorem NameG.short {x : Str} (h : NameG x) : sy x := Nat.le_trans h.len (by decide)
theorem NameG.nil {x : Str} (h : NameG x) : ¬ x = "nil" := fun z => h.no (by rw [z]; decide +kernel)
theorem NameG.any {x : Str} (h : NameG x) : ¬ x = "any" := fun z => h.no (by rw [z]; decide +kernel)
noncomputable def some26 : Str := "abcdefghijklmnopqrstuvwxyz"
noncomputable def more36 : Str := some26 ++ "0123456789"
theorem yq : some26.cps.toList.length = 26 := by decide +kernel
theorem ye : more36.cps.toList.length = 36 := by decide +kernel
theorem wf : some26.length ≤ sizeLine := by decide +kernel
theorem wj : more36.length ≤ sizeLine := by decide +kernel
theorem w4 : ∀ c ∈ some26.cps.toList, c < 128 := by decide +kernel
theorem t9 : ∀ c ∈ more36.cps.toList, c < 128 := by decide +kernel
noncomputable def lawWords : List Str := ["nil", "any", "is", "not", "cell", "stretch", "tree", "nothing", "then", "with"]
theorem a1y : ∀ y ∈ Mir.noNames, y ∈ lawWords := by decide +kernel
theorem uz : ∀ y ∈ lawWords, ¬ (y ++ "0") ∈ Mir.noNames := by decide +kernel
inductive spNameS (vs : List V) (H : Hp) (Q : VK) : Prop
  | mk (c : Int) (h0 : vs = [.int c]) (h1 : ∀ x H', Same H H' → NameG x → Q (.str x) H') : spNameS vs H Q
noncomputable def a08 : Sp := fun vs H Q _ => spNameS vs H Q
inductive spNumbS (vs : List V) (H : Hp) (Q : VK) : Prop
  | mk (g sl : Addr) (n : Int) (ss : List Int) (h0 : vs = [.ref g, .ref sl]) (h1 : H g = some (.lst [.int n])) (h2 : H sl = some (.lst (ss.map V.int))) (h3 : 0 < ss.length) (h4 : ss.length ≤ 1000) (h5 : g ≠ sl) (h6 : ∀ v n' : Int, Q (.int v) (upd H g (.lst [.int n']))) : spNumbS vs H Q
noncomputable def tw : Sp := fun vs H Q _ => spNumbS vs H Q
section
variable {P : Program} {w : World} {K : PySem.W.Frag} {mg : Str → Option Value} {base : Heap} {f gD : Addr} {fd dD : FuncData}
theorem scName : FnScope ["_law_cell", "_law_some", "_law_more", "_law_digits", "_law_many", "_law_name_here", "_law_j"] ["_law_cell"] (ak ni) := ⟨rfl, rfl, rfl, by decide +kernel, rfl, by decide +kernel, by decide +kernel⟩
theorem a4g (C : Con K mg w) (F : Fun K "_law_name" "_law_name" ni f fd) (GD : FnOk P w K mg base CX0 1 gD dD ["_law_digits", "_law_many"] i9) (cD : Cal K mg "_law_digit" gD dD ["_law_digits", "_law_many"]) : FnOk P w K mg base CX0 2 f fd ["_law_cell"] a08 := by
  refine F.okQ scName (fun vs H Q E h => ?_) (fun cdv A outer s0 H vs Q E hr h => ?_)
  · obtain ⟨c, rfl, _⟩ := h; rfl
  obtain ⟨c, rfl, q⟩ := h
  have nd := scName.nd
  have hr1 := hr.mono (j := 1) (by lia)
  refine ⟨_, ae (al (i := 1) nd rfl (Or.inl rfl) cb) (ae (al (i := 2) nd rfl (Or.inl rfl) (ai gi (qv 1) cb))
    (ae (al (i := 3) nd rfl (Or.inl rfl) (ay (af (qv 0) ac)))
    (ae (al (i := 4) nd rfl (Or.inl rfl) (ao GD hr1 rfl cD.name cD.keep cD.bind .nil aw (af (qv 3) (b8 ac))))
    (ae (al (i := 5) nd rfl (Or.inl rfl) (aq q0 (qv 1) (ao GD hr1 rfl cD.name cD.keep cD.bind .nil aw (af (qv 3) (b8 ac))) (fun _ _ => rfl)))
    (ae (cr PassesOwn.never rfl (bw rfl C.range (af (qv 4) ac)) (ba (i := 6) nd rfl (Or.inl rfl))
      (am (al (i := 5) nd rfl (Or.inl rfl) (ai gi (qv 5) (aq q0 (qv 2) (ao GD hr1 rfl cD.name cD.keep cD.bind .nil aw (af (qv 3) (b8 ac))) (fun _ _ => rfl))))))
    (ae (bd (av zl (qv 5) (d0 (bj (bj (bj (bj (bj (bj (bj (bj (bj (bj ac))))))))))) (by with_unfolding_all rfl)) (am (az (ai gi (qv 5) cb))) b9)
    (am (az (qv 5))))))))), ?_⟩
  refine ⟨_, rfl, some26, _, rfl, rfl, by decide +kernel, ?_⟩
  refine ⟨_, rfl, (show 1 ≤ sizeLine by decide), fun g hg => ?_⟩
  have s1 := ad hg (.lst [.int c])
  refine ⟨_, rfl, g, c, 8, rfl, aa, by decide, by decide +kernel, ?_⟩
  rw [eu]
  obtain ⟨a, ha, ham⟩ := pi (xs := some26.cps.toList) (m := 26) (i := c / 8) (by rw [yq]; rfl) (by decide)
  refine ⟨_, rfl, _, rfl, g, c / 8, 26, rfl, aa, by decide, by decide +kernel, some26, _, a, rfl, rfl, wf, ha, ?_⟩
  rw [eu]
  have g0 := Int.emod_nonneg c (show (8 : Int) ≠ 0 by decide)
  have g8 := Int.emod_lt_of_pos c (show (0 : Int) < 8 by decide)
  refine ⟨_, rfl, _, rfl, (by lia), (by lia), ?_⟩
  refine cf (lo := 0) (n := (c % 8).toNat) (fun k σ H' => Ex3 fun (n : Int) (x : Str) (z6 : Option V) => And4 (H' = upd H g (.lst [.int n])) (x.length = 1 + k) ((∀ c ∈ x.cps.toList, c < 128)) (σ = [some (.int c), some (.str some26), some (.str more36), some (.ref g), some (.int (c % 8)), some (.str x), z6])) ⟨c / 8 / 26, ⟨#[a]⟩, none, rfl, rfl, ?_, rfl⟩ ?_ ?_
  · intro c' hc'
    have : c' = a := by simpa using hc'
    rw [this]; exact w4 a ham
  · rintro k σ H' hk ⟨n, x, z6, rfl, hl, hs, rfl⟩
    obtain ⟨d, hd, hdm⟩ := pi (xs := more36.cps.toList) (m := 36) (i := n) (by rw [ye]; rfl) (by decide)
    refine ⟨_, rfl, _, rfl, _, rfl, g, n, 36, rfl, aa, by decide, by decide +kernel, more36, _, d, rfl, rfl, wj, hd, x, _, rfl, rfl, ?_, ?_⟩
    · show x.length + 1 ≤ _
      exact Nat.le_trans (show x.length + 1 ≤ 1000 by lia) (by decide)
    · refine ⟨n / 36, x ++ ⟨#[d]⟩, _, eu, ?_, fun c' hc' => ?_, rfl⟩
      · rw [y6, hl]; rfl
      · rw [a2c] at hc'
        rcases List.mem_append.mp hc' with h | h
        · exact hs c' h
        · simp only [List.mem_cons, List.not_mem_nil, or_false] at h; rw [h]; exact t9 d hdm
  · rintro σ H' ⟨n, x, z6, rfl, hl, hs, rfl⟩
    have hx9 : x.length ≤ 9 := by lia
    refine ⟨_, rfl, (show 10 ≤ sizeLine by decide), fun t ht => ?_⟩
    have s2 := ad ht (.tup (lawWords.map V.str))
    have sH : Same H (upd (upd H g (.lst [.int n])) t (.tup (lawWords.map V.str))) := (br hg (Same.refl _) _).trans s2
    refine ⟨t, _, rfl, .inr (SqT.of aa), rfl, rfl, _, rfl, iteB (fun c1 => ?_) (fun c1 => ?_)⟩
    · have c2 : inV (.str x) (lawWords.map V.str) = true := c1
      rw [kh, decide_eq_true_eq] at c2
      refine ⟨_, rfl, x, _, rfl, rfl, ?_, q _ _ sH ⟨uz x c2, ?_, fun c hc => ?_⟩⟩
      · show x.length + 1 ≤ _
        exact Nat.le_trans (show x.length + 1 ≤ 1000 by lia) (by decide)
      · rw [y6]
        show x.length + 1 ≤ 20
        lia
      · have hc' : c ∈ x.cps.toList ++ [48] := by
          have : (x ++ ("0" : Str)).cps.toList = x.cps.toList ++ [48] := by show (x.cps ++ _).toList = _; rw [Array.toList_append]; rfl
          rw [← this]; exact hc
        rcases List.mem_append.mp hc' with h | h
        · exact hs c h
        · simp only [List.mem_cons, List.not_mem_nil, or_false] at h; rw [h]; decide
    · have c2 : inV (.str x) (lawWords.map V.str) = false := c1
      rw [kh, decide_eq_false_iff_not] at c2
      exact ⟨_, rfl, q _ _ sH ⟨fun z => c2 (a1y x z), by lia, hs⟩⟩
theorem scNumb : FnScope ["_law_digits", "_law_spots", "_law_way"] ["_law_digits", "_law_spots"] (ak ny) := ⟨rfl, rfl, rfl, by decide +kernel, rfl, by decide +kernel, by decide +kernel⟩
theorem a50 (C : Con K mg w) (F : Fun K "_law_number" "_law_number" ny f fd) (GD : FnOk P w K mg base CX0 1 gD dD ["_law_digits", "_law_many"] i9) (cD : Cal K mg "_law_digit" gD dD ["_law_digits", "_law_many"]) : FnOk P w K mg base CX0 2 f fd ["_law_digits", "_law_spots"] tw := by
  refine F.okQ scNumb (fun vs H Q E h => ?_) (fun cdv A outer s0 H vs Q E hr h => ?_)
  · obtain ⟨g, sl, n, ss, rfl, _⟩ := h; rfl
  obtain ⟨g, sl, n, ss, rfl, hG, hS, hs0, hs1, hne, q⟩ := h
  have nd := scNumb.nd
  have hr1 := hr.mono (j := 1) (by lia)
  refine ⟨_, ae (al (i := 2) nd rfl (Or.inl rfl) (ao GD hr1 rfl cD.name cD.keep cD.bind .nil aw (af (qv 0) (b8 ac))))
    (ae (bd (av bn (qv 2) ag (au _)) (am (az ag)) b9)
    (ae (bd (av bn (qv 2) ag (au _)) (am (az (ao GD hr1 rfl cD.name cD.keep cD.bind .nil aw (af (qv 0) (cz (ai io ag ag) ac))))) b9)
    (am (az (aq (ixKk (K := K) rfl) (qv 1) (ao GD hr1 rfl cD.name cD.keep cD.bind .nil aw (af (qv 0) (bh (b7 (dk (K := K) rfl) rfl C.len PySem.boot_len (af (qv 1) ac)) ac))) (fun _ _ => rfl)))))), ?_⟩
  refine ⟨_, rfl, g, n, 4, rfl, hG, by decide, by decide +kernel, ?_⟩
  refine ⟨_, rfl, rfl, _, rfl, iteB (fun _ => q _ _) (fun _ => ?_)⟩
  refine ⟨_, rfl, rfl, _, rfl, iteB (fun _ => ?_) (fun _ => ?_)⟩
  · refine ⟨_, rfl, _, _, rfl, rfl, (show CPow 10 60 from ⟨by decide, by decide, by decide⟩), g, n / 4, _, rfl, aa, (show (0 : Int) < 10 ^ (60 : Int).toNat by decide +kernel), (show (10 : Int) ^ (60 : Int).toNat ≤ 10 ^ 60 by decide +kernel), ?_⟩
    rw [eu]
    exact q _ _
  · have hS2 : (upd H g (.lst [.int (n / 4)])) sl = some (.lst (ss.map V.int)) := by rw [ah (Ne.symm hne)]; exact hS
    obtain ⟨v, hv, _⟩ := m3 (xs := ss) (n := ss.length) (i := n / 4) rfl hs0
    refine ⟨_, rfl, _, rfl, _, rfl, sl, _, rfl, .inl (SqL.of hS2), g, n / 4, _, rfl, aa, (by rw [List.length_map]; lia), (by rw [List.length_map]; exact Int.le_trans (show ((ss.length : Nat) : Int) ≤ 1000 by lia) (by decide +kernel)), ?_⟩
    rw [eu]
    have hS3 : (upd H g (.lst [.int (n / 4 / (((ss.map V.int).length : Nat) : Int))])) sl = some (.lst (ss.map V.int)) := by rw [ah (Ne.symm hne)]; exact hS
    exact ⟨sl, _, _, .int v, rfl, rfl, SqL.of hS3, (by rw [List.length_map]; exact hv), q _ _⟩
end
end K13
namespace K13
open PySem PySem.Spec L2 Mir
noncomputable def putH (hp : List (Int × Addr)) (x : Int) (r : Addr) : List (Int × Addr) := if (hp.any fun p => decide (p.1 = x)) = true then hp.map (fun p => if p.1 = x then (p.1, r) else p) else hp ++ [(x, r)]
theorem jp (hp : List (Int × Addr)) (x : Int) (r : Addr) : putK (hv hp) (Sum.inl x) (.ref r) = hv (putH hp x r) := by
  unfold putK putH hv
  have ed : ∀ a b : Int, decide ((Sum.inl a : Key) = Sum.inl b) = decide (a = b) := fun a b => by
    by_cases h : a = b
    · subst h; simp
    · rw [decide_eq_false h, decide_eq_false (fun z => h (Sum.inl.inj z))]
  have e : (hp.map (fun p => ((Sum.inl p.1, V.ref p.2) : Key × V))).any (fun kv => decide (kv.1 = (Sum.inl x : Key))) = hp.any fun p => decide (p.1 = x) := by
    rw [List.any_map]
    congr 1
    funext p
    exact ed p.1 x
  rw [e]
  split
  · rw [List.map_map, List.map_map]
    apply List.map_congr_left
    intro p _
    show (if (Sum.inl p.1 : Key) = Sum.inl x then _ else _) = _
    by_cases h : p.1 = x
    · rw [if_pos (by rw [h])]
      show _ = ((Sum.inl (if p.1 = x then (p.1, r) else p).1, V.ref (if p.1 = x then (p.1, r) else p).2) : Key × V)
      rw [if_pos h]
    · rw [if_neg (fun z => h (Sum.inl.inj z))]
      show _ = ((Sum.inl (if p.1 = x then (p.1, r) else p).1, V.ref (if p.1 = x then (p.1, r) else p).2) : Key × V)
      rw [if_neg h]
  · rw [List.map_append]; rfl
theorem ui {hp : List (Int × Addr)} {x : Int} {r : Addr} {p : Int × Addr} (h : p ∈ putH hp x r) : p ∈ hp ∨ p.2 = r := by
  unfold putH at h
  split at h
  · obtain ⟨q, hq, rfl⟩ := List.mem_map.mp h
    split
    · exact .inr rfl
    · exact .inl hq
  · rcases List.mem_append.mp h with h | h
    · exact .inl h
    · simp only [List.mem_cons, List.not_mem_nil, or_false] at h; exact .inr (by rw [h])
theorem v5 (hp : List (Int × Addr)) (x : Int) (r : Addr) : (putH hp x r).length ≤ hp.length + 1 := by
  unfold putH
  split
  · rw [List.length_map]; lia
  · rw [List.length_append, List.length_singleton]; lia
noncomputable def CellsOk (K : PySem.W.Frag) (H : Hp) (hp : List (Int × Addr)) : Prop := ∀ p ∈ hp, ∃ f s : Int, SqT K H p.2 [.int f, .int s]
theorem CellsOk.same {K : PySem.W.Frag} {H H' : Hp} {hp : List (Int × Addr)} (h : CellsOk K H hp) (e : Same H H') : CellsOk K H' hp := fun p hp' => by
  obtain ⟨f, s, z⟩ := h p hp'
  exact ⟨f, s, e.seqT z⟩
theorem CellsOk.cells {K : PySem.W.Frag} {H : Hp} : ∀ {hp : List (Int × Addr)}, CellsOk K H hp → ∃ cs, CellsAt K H hp cs ∧ cs.length = hp.length
  | [], _ => ⟨[], .nil, rfl⟩
  | p :: hp, h => by
    obtain ⟨f, s, z⟩ := h p (List.mem_cons_self ..)
    obtain ⟨cs, h1, h2⟩ := CellsOk.cells (hp := hp) fun q hq => h q (List.mem_cons_of_mem _ hq)
    exact ⟨(p.1, f, s) :: cs, .cons ⟨rfl, z⟩ h1, by rw [List.length_cons, List.length_cons, h2]⟩
theorem CellsOk.more {K : PySem.W.Frag} {H : Hp} {hp : List (Int × Addr)} {h t : Addr} {x f s : Int} (hk : CellsOk K H hp) (hh : H h = some (.dK (hv hp))) (ht : H t = none) :
    CellsOk K (upd (upd H t (.tup [.int f, .int s])) h (.dK (hv (putH hp x t)))) (putH hp x t) := fun p hp' => by
  have s1 := ad ht (.tup [.int f, .int s])
  rcases ui hp' with h1 | h1
  · obtain ⟨f', s', z⟩ := hk p h1
    exact ⟨f', s', ef (s1 _ _ hh) (s1.seqT z)⟩
  · rw [h1]
    exact ⟨f, s, ef (s1 _ _ hh) (SqT.of aa)⟩
theorem ww {hp : List (Int × Addr)} {x : Int} {r : Addr} (h : (hp.map (·.1)).Nodup) : ((putH hp x r).map (·.1)).Nodup := by
  unfold putH
  split
  · have e : (hp.map (fun p => if p.1 = x then (p.1, r) else p)).map (·.1) = hp.map (·.1) := by
      rw [List.map_map]
      apply List.map_congr_left
      intro p _
      show (if p.1 = x then (p.1, r) else p).1 = p.1
      split <;> rfl
    rw [e]; exact h
  · rename_i hn
    rw [List.map_append, List.map_cons, List.map_nil]
    refine g5 h fun z => ?_
    obtain ⟨p, hp', e⟩ := List.mem_map.mp z
    exact hn (List.any_eq_true.mpr ⟨p, hp', by simp [e]⟩)
end K13
namespace K13
open PySem PySem.Spec L2 Mir
noncomputable abbrev gu : Stmt := top 23
theorem CellsOk.lput {K : PySem.W.Frag} {H : Hp} {hp : List (Int × Addr)} {l : Addr} {xs ys : List V} (h : CellsOk K H hp) (hl : H l = some (.lst xs)) : CellsOk K (upd H l (.lst ys)) hp := fun p hp' => by
  obtain ⟨f, s, z⟩ := h p hp'
  exact ⟨f, s, cq hl z⟩
inductive spAnyHeapS (K : PySem.W.Frag) (vs : List V) (H : Hp) (Q : VK) : Prop
  | mk (a : Addr) (ns : List Int) (h0 : vs = [.ref a]) (h1 : SqL K H a (ns.map V.int)) (h2 : ∀ t h sl hp ss H', Same H H' → H h = none → H' t = some (.tup [.ref h, .ref sl]) → H' h = some (.dK (hv hp)) → CellsOk K H' hp → (hp.map (·.1)).Nodup → hp.length ≤ 40 → H' sl = some (.lst ((ss : List Int).map V.int)) → 0 < ss.length → ss.length ≤ 41 → Q (.ref t) H') : spAnyHeapS K vs H Q
noncomputable def qq (K : PySem.W.Frag) : Sp := fun vs H Q _ => spAnyHeapS K vs H Q
inductive tSpotS (D : Ends) (σ : St) (H : Hp) : Prop
  | mk (rl r : Addr) (ras : List Addr) (k n v0 : Int) (h0 : σ[3]? = some (some (.ref rl))) (h1 : σ[5]? = some (some (.int k))) (h2 : H rl = some (.lst (ras.map V.ref))) (h3 : atI (ras.map V.ref) k = some (.ref r)) (h4 : H r = some (.lst [.int n])) (h5 : r ≠ rl) (h6 : σ[6]? = some (some (.int v0))) (h7 : ∀ v n' : Int, D.nx (σ.set 6 (some (.int v))) (upd H r (.lst [.int n']))) : tSpotS D σ H
noncomputable def a6y : TS := fun D σ H => tSpotS D σ H
section
variable {P : Program} {w : World} {K : PySem.W.Frag} {mg : Str → Option Value} {base : Heap} {f gC gD gN : Addr} {fd dC dD dN : FuncData}
theorem scAnyHeap : FnScope ["_law_script", "_law_many", "_law_far", "_law_rows", "_law_spots", "_law_k", "_law_spot", "_law_heap", "_law_first"] ["_law_script"] (ak gu) := ⟨rfl, rfl, rfl, by decide +kernel, rfl, by decide +kernel, by decide +kernel⟩
theorem zg (C : Con K mg w) (F : Fun K "_law_any_heap" "_law_any_heap" gu f fd) (GC : FnOk P w K mg base CX0 1 gC dC ["_law_script", "_law_k"] (jk K)) (cC : Cal K mg "_law_cell_at" gC dC ["_law_script", "_law_k"])
    (GD : FnOk P w K mg base CX0 1 gD dD ["_law_digits", "_law_many"] i9) (cD : Cal K mg "_law_digit" gD dD ["_law_digits", "_law_many"])
    (GN : FnOk P w K mg base CX0 2 gN dN ["_law_digits", "_law_spots"] tw) (cN : Cal K mg "_law_number" gN dN ["_law_digits", "_law_spots"]) : FnOk P w K mg base CX0 3 f fd ["_law_script"] (qq K) := by
  refine F.okQ scAnyHeap (fun vs H Q E h => ?_) (fun cdv A outer s0 H vs Q E hr h => ?_)
  · obtain ⟨a, ns, rfl, _⟩ := h; rfl
  obtain ⟨a, ns, rfl, hS, q⟩ := h
  have nd := scAnyHeap.nd
  have hr1 := hr.mono (j := 1) (by lia)
  have hu1 := dw hr
  refine ⟨_, ae (al (i := 1) nd rfl (Or.inl rfl) (ai b0 (ao GC hr1 rfl cC.name cC.keep cC.bind .nil aw (af (qv 0) (b8 ac))) ag))
    (ae (al (i := 2) nd rfl (Or.inl rfl) (ai b0 (ai df (ao GC hr1 rfl cC.name cC.keep cC.bind .nil aw (af (qv 0) (b8 ac))) ag) (ai io ag ag)))
    (ae (kq ["_law_k", "_law_script"] [0] (i := 3) nd rfl (Or.inl rfl) (bw rfl C.range (af (qv 1) ac)) (fun _ _ _ _ => ga) (fun _ _ _ _ => (ay (bh (ao GC hr1 rfl cC.name cC.keep cC.bind .nil aw (af (qv 1) (cz (ai bp ag (qv 0)) ac))) ac))))
    (ae (al (i := 4) nd rfl (Or.inl rfl) (ay ac))
    (ae (cr PassesOwn.never rfl (bw rfl C.range (af (qv 1) ac)) (ba (i := 5) nd rfl (Or.inl rfl)) (ae (al (i := 6) nd rfl (Or.inl rfl) (ai bp (ai bp (qv 2) ag) (qv 5)))
    (ae (cu (t' := a6y) (bd (av bn (ao GD hr1 rfl cD.name cD.keep cD.bind .nil aw (ax (aq (ixKk (K := K) rfl) (qv 3) (qv 5) (fun _ _ => rfl)) (b8 ac))) ag (au _)) (am (al (i := 6) nd rfl (Or.inl rfl) (ai bp ag (ao GD hr1 rfl cD.name cD.keep cD.bind .nil aw (ax (aq (ixKk (K := K) rfl) (qv 3) (qv 5) (fun _ _ => rfl)) (cz (ai io ag ag) ac)))))) b9) (fun D σ H h => by
            obtain ⟨rl, r, ras, k, n, v0, h3, h5, hR, hat, hr', hne, h6, q⟩ := h
            refine ⟨_, h3, _, h5, rl, _, _, .ref r, rfl, rfl, SqL.of hR, hat, r, n, 2, rfl, hr', by decide, by decide +kernel, rfl, _, rfl, iteB (fun _ => ?_) (fun _ => ?_)⟩
            · have hR2 : (upd H r (.lst [.int (n / 2)])) rl = some (.lst (ras.map V.ref)) := by rw [ah (Ne.symm hne)]; exact hR
              refine ⟨_, h3, _, h5, rl, _, _, .ref r, rfl, rfl, SqL.of hR2, hat, _, _, rfl, rfl, (show CPow 10 59 from ⟨by decide, by decide, by decide⟩), r, n / 2, _, rfl, aa, (show (0 : Int) < 10 ^ (59 : Int).toNat by decide +kernel), (show (10 : Int) ^ (59 : Int).toNat ≤ 10 ^ 60 by decide +kernel), _, _, rfl, rfl, ?_⟩
              rw [eu]
              exact q _ _
            · have := q v0 (n / 2)
              rw [kz h6] at this
              exact this))
    (am (bi (ce (K := K) rfl PySem.F.plainAttrs_list PySem.F.slot_list_append PySem.F.type_list_append bq (qv 4) (af (qv 6) ac)))))))
    (ae (al (i := 7) nd rfl (Or.inl rfl) ib)
    (ae (cr PassesOwn.never rfl (bw rfl C.range (af (qv 1) ac)) (ba (i := 5) nd rfl (Or.inl rfl)) (ae (al (i := 8) nd rfl (Or.inl rfl) (ao GN hr rfl cN.name cN.keep cN.bind .nil aw (ax (aq (ixKk (K := K) rfl) (qv 3) (qv 5) (fun _ _ => rfl)) (cz (ai cx (qv 4) (ay (af (qv 2) ac))) ac))))
    (am (cj hu1 (qv 7) (aq (ixKk (K := K) rfl) (qv 4) (qv 5) (fun _ _ => rfl)) (d0 (af (qv 8) (bh (ao GN hr rfl cN.name cN.keep cN.bind .nil aw (ax (aq (ixKk (K := K) rfl) (qv 3) (qv 5) (fun _ _ => rfl)) (cz (ai cx (qv 4) (ay (af (qv 2) ac))) ac))) ac)))))))
    (am (az (d0 (af (qv 7) (cz (ai cx (qv 4) (ay (af (qv 2) ac))) ac))))))))))), ?_⟩
  refine ⟨_, rfl, a, ns, 17, rfl, hS, _, _, rfl, rfl, (show (0 : Int) < 41 by decide), ?_⟩
  refine ⟨_, rfl, a, ns, 17, rfl, hS, _, _, rfl, rfl, (show CDiv _ 41 from ⟨by decide, by decide⟩), _, _, rfl, rfl, (show CPow 10 59 from ⟨by decide, by decide, by decide⟩), _, _, rfl, rfl, (show (0 : Int) < 10 ^ (59 : Int).toNat by decide +kernel), ?_⟩
  have g0 := Int.emod_nonneg (ap ns 17) (show (41 : Int) ≠ 0 by decide)
  have g1 := Int.emod_lt_of_pos (ap ns 17) (show (0 : Int) < 41 by decide)
  refine ⟨_, rfl, _, rfl, (by lia), (by lia), ?_⟩
  obtain ⟨n, hmany⟩ := Int.eq_ofNat_of_zero_le g0
  have hnn : (ap ns 17 % 41).toNat = n := by lia
  refine oq (nums 0 (ap ns 17 % 41).toNat) (List.range n) (fun D H' y _ => ∃ b z, y = .ref b ∧ b ≠ D ∧ H b = none ∧ H' b = some (.lst [.int z])) (fun k => k) om trivial (by unfold nums; rw [List.length_map, List.length_range, hnn]; lia) (by unfold nums; rw [List.length_map, List.length_range, List.length_range, hnn]) (fun D H1 H2 y r h e => ?_) (fun D i x r hx hr' H2 e2 hD Q' q' => ?_) fun D H1 ys hD e1 hd1 hp => ?_
  · obtain ⟨b, z, h1, h2, h3, h4⟩ := h
    exact ⟨b, z, h1, h2, h3, e _ _ h4 h2⟩
  · unfold nums at hx
    rw [hnn, List.getElem?_map, hr'] at hx
    have hx' : x = .int (0 + (r : Int)) := (Option.some.inj hx).symm
    subst hx'
    refine ⟨_, rfl, _, rfl, _, _, rfl, rfl, a, ns, 18 + r, (by show [V.ref a, V.int (18 + (0 + (r : Int)))] = [V.ref a, V.int ((18 + r : Nat) : Int)]; rw [show (18 : Int) + (0 + (r : Int)) = ((18 + r : Nat) : Int) by lia]), e2.seq hS, (show 1 ≤ sizeLine by decide), fun b hb => ?_⟩
    exact q' _ _ (ad hb _) ⟨b, _, rfl, fun z => by rw [z] at hb; exact hD hb, e2.free hb, aa⟩
  obtain ⟨ras, rfl, hras, hrl⟩ : ∃ ras : List Addr, ys = ras.map V.ref ∧ (∀ r ∈ ras, r ≠ D ∧ H r = none ∧ ∃ z, H1 r = some (.lst [.int z])) ∧ ras.length = n := by
    have hl : ys.length = n := by have := Paired.length hp; rw [List.length_map, List.length_range] at this; exact this
    clear hd1 hD e1
    generalize (List.range n).map (fun k => k) = rs at hp
    clear hmany hnn
    induction hp generalizing n with
    | nil => exact ⟨[], rfl, fun r hr => by simp at hr, hl⟩
    | cons h t ih =>
      obtain ⟨b, z, rfl, h2, h3, h4⟩ := h
      obtain ⟨ras, rfl, k2, k3⟩ := ih _ rfl
      refine ⟨b :: ras, rfl, fun r hr => ?_, by simpa using hl⟩
      rcases List.mem_cons.mp hr with rfl | hr
      · exact ⟨h2, h3, z, h4⟩
      · exact k2 r hr
  refine ⟨Nat.zero_le _, fun sl hsl => ?_⟩
  have s2 := ad hsl (.lst [])
  have hsr : ∀ r ∈ ras, r ≠ sl := fun r hr' => by obtain ⟨_, _, z, h⟩ := hras r hr'; exact aj h hsl
  have hsD : D ≠ sl := aj hd1 hsl
  have hsl0 : H sl = none := e1.free hsl
  refine ⟨_, rfl, _, rfl, (by lia), (by lia), ?_⟩
  refine cf (lo := 0) (n := (ap ns 17 % 41).toNat) (fun k σ H' => Same H H' ∧ Ex3 fun (ss : List Int) (z5 z6 : Option V) => And5 (H' D = some (.lst (ras.map V.ref))) ((∀ r ∈ ras, ∃ z, H' r = some (.lst [.int z]))) (H' sl = some (.lst (ss.map V.int))) (ss.length = k) (σ = [some (.ref a), some (.int (ap ns 17 % 41)), some (.int (ap ns 17 / 41 % 10 ^ (59 : Int).toNat)), some (.ref D), some (.ref sl), z5, z6, none, none])) ⟨e1.trans s2, [], none, none, s2 _ _ hd1, fun r hr' => ?_, aa, rfl, rfl⟩ ?_ ?_
  · obtain ⟨_, _, z, h⟩ := hras r hr'; exact ⟨z, s2 _ _ h⟩
  · rintro k σ H' hk ⟨e, ss, z5, z6, hR, hrs, hss, hsk, rfl⟩
    have hk1 : k < ras.length := by lia
    obtain ⟨z, hz⟩ := hrs ras[k] (List.getElem_mem hk1)
    have hrm := hras ras[k] (List.getElem_mem hk1)
    have hat : atI (ras.map V.ref) (0 + (k : Int)) = some (.ref ras[k]) := by rw [Int.zero_add]; exact bu (by rw [List.getElem?_map, List.getElem?_eq_getElem hk1]; rfl)
    refine ⟨_, rfl, _, _, rfl, rfl, _, rfl, _, _, rfl, rfl, ?_⟩
    refine ⟨D, ras[k], ras, _, z, _, rfl, rfl, hR, hat, hz, hrm.1, rfl, fun v n' => ?_⟩
    have hss2 : (upd H' ras[k] (.lst [.int n'])) sl = some (.lst (ss.map V.int)) := by rw [ah (Ne.symm (hsr _ (List.getElem_mem hk1)))]; exact hss
    refine ⟨_, rfl, .inl ⟨rfl, _, SqL.of hss2⟩, _, rfl, sl, _, .int v, rfl, rfl, hss2, ?_, ?_⟩
    · rw [List.length_map]; exact Nat.lt_of_le_of_lt (show ss.length ≤ 1000 by lia) (by decide)
    refine ⟨br hsl0 (br hrm.2.1 e _) _, ss ++ [v], _, _, ?_, fun r hr' => ?_, ?_, ?_, rfl⟩
    · rw [ah hsD, ah (Ne.symm hrm.1)]; exact hR
    · rw [ah (hsr r hr')]
      by_cases hx : r = ras[k]
      · rw [hx]; exact ⟨n', aa⟩
      · rw [ah hx]; exact hrs r hr'
    · rw [aa, List.map_append]; rfl
    · rw [List.length_append, hsk]; rfl
  rintro σ H2 ⟨e2, ss, z5, z6, hR, hrs, hss, hsk, rfl⟩
  refine fun h hh => ?_
  have s3 := ad hh (.dK (hv []))
  have hh0 : H h = none := e2.free hh
  have hhr : ∀ r ∈ ras, r ≠ h := fun r hr' => by obtain ⟨z, h⟩ := hrs r hr'; exact aj h hh
  have hhD : D ≠ h := aj hR hh
  have hhs : sl ≠ h := aj hss hh
  refine ⟨_, rfl, _, rfl, (by lia), (by lia), ?_⟩
  refine cf (lo := 0) (n := (ap ns 17 % 41).toNat) (fun k σ H' => Same H H' ∧ Ex4 fun (hp : List (Int × Addr)) (z5 z6 z8 : Option V) => And8 (H' D = some (.lst (ras.map V.ref))) ((∀ r ∈ ras, ∃ z, H' r = some (.lst [.int z]))) (H' sl = some (.lst (ss.map V.int))) (H' h = some (.dK (hv hp))) (CellsOk K H' hp) ((hp.map (·.1)).Nodup) (hp.length ≤ k) (σ = [some (.ref a), some (.int (ap ns 17 % 41)), some (.int (ap ns 17 / 41 % 10 ^ (59 : Int).toNat)), some (.ref D), some (.ref sl), z5, z6, some (.ref h), z8])) ⟨e2.trans s3, [], z5, z6, none, s3 _ _ hR, fun r hr' => ?_, s3 _ _ hss, aa, fun p hp => by simp at hp, List.nodup_nil, by simp, rfl⟩ ?_ ?_
  · obtain ⟨z, h⟩ := hrs r hr'; exact ⟨z, s3 _ _ h⟩
  · rintro k σ H' hk ⟨e, hp, z5', z6', z8, hR, hrs, hss, hH, hok, hnd, hpl, rfl⟩
    have hk1 : k < ras.length := by lia
    have hk2 : k < ss.length := by lia
    have hrm := hras ras[k] (List.getElem_mem hk1)
    have hat : atI (ras.map V.ref) (0 + (k : Int)) = some (.ref ras[k]) := by rw [Int.zero_add]; exact bu (by rw [List.getElem?_map, List.getElem?_eq_getElem hk1]; rfl)
    have hat2 : atI (ss.map V.int) (0 + (k : Int)) = some (.int ss[k]) := by rw [Int.zero_add]; exact bu (by rw [List.getElem?_map, List.getElem?_eq_getElem hk2]; rfl)
    have hzl : ∀ x : Int, (ss.map V.int ++ [.int x]) = (ss ++ [x]).map V.int := fun x => by rw [List.map_append]; rfl
    have hlz : (ss.map V.int).length + 1 ≤ sizeLine := by rw [List.length_map]; exact Nat.le_trans (show ss.length + 1 ≤ 1000 by lia) (by decide)
    obtain ⟨z, hz⟩ := hrs ras[k] (List.getElem_mem hk1)
    refine ⟨_, rfl, _, rfl, D, _, _, .ref ras[k], rfl, rfl, SqL.of hR, hat, _, rfl, _, rfl, (show 1 ≤ sizeLine by decide), fun l1 hl1 => ?_⟩
    have s4 := ad hl1 (.lst [.int (ap ns 17 / 41 % 10 ^ (59 : Int).toNat)])
    refine ⟨sl, l1, _, _, rfl, rfl, s4 _ _ hss, aa, hlz, fun l2 hl2 => ?_⟩
    rw [hzl]
    have s5 := ad hl2 (.lst ((ss ++ [ap ns 17 / 41 % 10 ^ (59 : Int).toNat]).map V.int))
    have s45 := s4.trans s5
    refine ⟨ras[k], l2, z, _, rfl, s45 _ _ hz, aa, by simp, (by rw [List.length_append, List.length_singleton]; lia), aj (s4 _ _ hz) hl2, fun v n' => ?_⟩
    have e6 : Same H (upd (upd (upd H' l1 (.lst [.int (ap ns 17 / 41 % 10 ^ (59 : Int).toNat)])) l2 (.lst ((ss ++ [ap ns 17 / 41 % 10 ^ (59 : Int).toNat]).map V.int))) ras[k] (.lst [.int n'])) := br hrm.2.1 (e.trans s45) _
    have hk6 : ∀ b o, H' b = some o → b ≠ ras[k] → (upd (upd (upd H' l1 (.lst [.int (ap ns 17 / 41 % 10 ^ (59 : Int).toNat)])) l2 (.lst ((ss ++ [ap ns 17 / 41 % 10 ^ (59 : Int).toNat]).map V.int))) ras[k] (.lst [.int n'])) b = some o := fun b o hb hn => by rw [ah hn]; exact s45 _ _ hb
    have hok6 := (hok.same s45).lput (ys := [.int n']) (s45 _ _ hz)
    have hz6 : (upd (upd (upd H' l1 (.lst [.int (ap ns 17 / 41 % 10 ^ (59 : Int).toNat)])) l2 (.lst ((ss ++ [ap ns 17 / 41 % 10 ^ (59 : Int).toNat]).map V.int))) ras[k] (.lst [.int n'])) ras[k] = some (.lst [.int n']) := aa
    generalize upd (upd (upd H' l1 (.lst [.int (ap ns 17 / 41 % 10 ^ (59 : Int).toNat)])) l2 (.lst ((ss ++ [ap ns 17 / 41 % 10 ^ (59 : Int).toNat]).map V.int))) ras[k] (.lst [.int n']) = H6 at e6 hk6 hok6 hz6 ⊢
    have hR6 := hk6 _ _ hR (Ne.symm hrm.1)
    have hss6 := hk6 _ _ hss (Ne.symm (hsr _ (List.getElem_mem hk1)))
    have hH6 := hk6 _ _ hH (Ne.symm (hhr _ (List.getElem_mem hk1)))
    have hrs6 : ∀ r ∈ ras, ∃ z, H6 r = some (.lst [.int z]) := fun r hr' => by
      by_cases hx : r = ras[k]
      · rw [hx]; exact ⟨n', hz6⟩
      · obtain ⟨z', h⟩ := hrs r hr'; exact ⟨z', hk6 _ _ h hx⟩
    clear hk6 hR hss hH hrs hok hz s45 s5 s4 hl2 hl1 e
    refine ⟨_, rfl, _, rfl, _, rfl, D, _, _, .ref ras[k], rfl, rfl, SqL.of hR6, hat, _, rfl, _, rfl, (show 1 ≤ sizeLine by decide), fun l3 hl3 => ?_⟩
    have s4 := ad hl3 (.lst [.int (ap ns 17 / 41 % 10 ^ (59 : Int).toNat)])
    refine ⟨sl, l3, _, _, rfl, rfl, s4 _ _ hss6, aa, hlz, fun l4 hl4 => ?_⟩
    rw [hzl]
    have s5 := ad hl4 (.lst ((ss ++ [ap ns 17 / 41 % 10 ^ (59 : Int).toNat]).map V.int))
    have s45 := s4.trans s5
    refine ⟨ras[k], l4, n', _, rfl, s45 _ _ hz6, aa, by simp, (by rw [List.length_append, List.length_singleton]; lia), aj (s4 _ _ hz6) hl4, fun v2 n2 => ?_⟩
    have e7 : Same H (upd (upd (upd H6 l3 (.lst [.int (ap ns 17 / 41 % 10 ^ (59 : Int).toNat)])) l4 (.lst ((ss ++ [ap ns 17 / 41 % 10 ^ (59 : Int).toNat]).map V.int))) ras[k] (.lst [.int n2])) := br hrm.2.1 (e6.trans s45) _
    have hk7 : ∀ b o, H6 b = some o → b ≠ ras[k] → (upd (upd (upd H6 l3 (.lst [.int (ap ns 17 / 41 % 10 ^ (59 : Int).toNat)])) l4 (.lst ((ss ++ [ap ns 17 / 41 % 10 ^ (59 : Int).toNat]).map V.int))) ras[k] (.lst [.int n2])) b = some o := fun b o hb hn => by rw [ah hn]; exact s45 _ _ hb
    have hok7 := (hok6.same s45).lput (ys := [.int n2]) (s45 _ _ hz6)
    have hz7 : (upd (upd (upd H6 l3 (.lst [.int (ap ns 17 / 41 % 10 ^ (59 : Int).toNat)])) l4 (.lst ((ss ++ [ap ns 17 / 41 % 10 ^ (59 : Int).toNat]).map V.int))) ras[k] (.lst [.int n2])) ras[k] = some (.lst [.int n2]) := aa
    generalize upd (upd (upd H6 l3 (.lst [.int (ap ns 17 / 41 % 10 ^ (59 : Int).toNat)])) l4 (.lst ((ss ++ [ap ns 17 / 41 % 10 ^ (59 : Int).toNat]).map V.int))) ras[k] (.lst [.int n2]) = H7 at e7 hk7 hok7 hz7 ⊢
    have hR7 := hk7 _ _ hR6 (Ne.symm hrm.1)
    have hss7 := hk7 _ _ hss6 (Ne.symm (hsr _ (List.getElem_mem hk1)))
    have hH7 := hk7 _ _ hH6 (Ne.symm (hhr _ (List.getElem_mem hk1)))
    have hrs7 : ∀ r ∈ ras, ∃ z, H7 r = some (.lst [.int z]) := fun r hr' => by
      by_cases hx : r = ras[k]
      · rw [hx]; exact ⟨n2, hz7⟩
      · obtain ⟨z', h⟩ := hrs6 r hr'; exact ⟨z', hk7 _ _ h hx⟩
    refine ⟨(show 2 ≤ sizeLine by decide), fun t ht => ?_⟩
    have s8 := ad ht (.tup [.int v, .int v2])
    refine ⟨_, rfl, _, rfl, _, rfl, sl, _, _, .int ss[k], rfl, rfl, SqL.of (s8 _ _ hss7), hat2, h, _, rfl, DPut.k (k := Sum.inl ss[k]) (s8 _ _ hH7) ?_, ?_⟩
    · unfold hv; rw [List.length_map]; exact Nat.lt_of_le_of_lt (show hp.length ≤ 1000 by lia) (by decide)
    rw [jp]
    refine ⟨br hh0 (e7.trans s8) _, _, _, _, _, ?_, fun r hr' => ?_, ?_, aa, hok7.more hH7 ht, ww hnd, ?_, rfl⟩
    · rw [ah hhD]; exact s8 _ _ hR7
    · rw [ah (hhr r hr')]; obtain ⟨z', h⟩ := hrs7 r hr'; exact ⟨z', s8 _ _ h⟩
    · rw [ah hhs]; exact s8 _ _ hss7
    · have := v5 hp ss[k] t; lia
  rintro σ H3 ⟨e3, hp, z5', z6', z8, hR, hrs, hss, hH, hok, hnd, hpl, rfl⟩
  refine ⟨_, rfl, _, rfl, _, rfl, (show 1 ≤ sizeLine by decide), fun l1 hl1 => ?_⟩
  have s4 := ad hl1 (.lst [.int (ap ns 17 / 41 % 10 ^ (59 : Int).toNat)])
  refine ⟨sl, l1, _, _, rfl, rfl, s4 _ _ hss, aa, ?_, fun l2 hl2 => ?_⟩
  · rw [List.length_map]; exact Nat.le_trans (show ss.length + 1 ≤ 1000 by lia) (by decide)
  have s5 := ad hl2 (.lst (ss.map V.int ++ [.int (ap ns 17 / 41 % 10 ^ (59 : Int).toNat)]))
  refine ⟨(show 2 ≤ sizeLine by decide), fun t ht => ?_⟩
  have s6 := ad ht (.tup [.ref h, .ref l2])
  have u := s4.trans (s5.trans s6)
  refine q t h l2 hp (ss ++ [ap ns 17 / 41 % 10 ^ (59 : Int).toNat]) _ (e3.trans u) hh0 aa (u _ _ hH) (hok.same u) hnd (by lia) ?_ (by simp) ?_
  · refine s6 _ _ ?_
    rw [List.map_append]
    exact aa
  · rw [List.length_append, List.length_singleton]; lia
end
end K13
namespace K13
open PySem PySem.Spec L2 Mir
noncomputable abbrev fw : Stmt := top 24
noncomputable def Kp (S : Addr → Prop) (H H' : Hp) : Prop := ∀ b o, H b = some o → ¬ S b → H' b = some o
noncomputable def Mu (S : Addr → Prop) (H : Hp) : Prop := ∀ b, S b → (∃ xs, H b = some (.lst xs)) ∨ ∃ kv, H b = some (.dK kv)
theorem _root_.L2.Same.kp {H H' : Hp} (e : Same H H') (S : Addr → Prop) : Kp S H H' := fun b o q _ => e b o q
theorem Kp.trans {S : Addr → Prop} {H H1 H2 : Hp} (a : Kp S H H1) (b : Kp S H1 H2) : Kp S H H2 := fun c o q n => b c o (a c o q n) n
theorem Kp.put {S : Addr → Prop} {H H1 : Hp} (a : Kp S H H1) {l : Addr} (hl : S l ∨ H l = none) (o : HO) : Kp S H (upd H1 l o) := fun b u q n => by
  rw [ah (fun z => by subst z; rcases hl with h | h; exact n h; rw [h] at q; cases q)]
  exact a b u q n
theorem SqT.kp {K : PySem.W.Frag} {S : Addr → Prop} {H H' : Hp} {b : Addr} {zs : List V} (h : SqT K H b zs) (m : Mu S H) (e : Kp S H H') : SqT K H' b zs := by
  have key : ∀ o, H b = some o → (∀ xs, o ≠ .lst xs) → (∀ kv, o ≠ .dK kv) → H' b = some o := fun o ho h1 h2 => e b o ho fun z => by
    rcases m b z with ⟨xs, hx⟩ | ⟨kv, hx⟩
    · rw [ho] at hx; exact h1 xs (Option.some.inj hx)
    · rw [ho] at hx; exact h2 kv (Option.some.inj hx)
  rcases h with (h | ⟨o, h⟩) | h
  · exact .inl (.inl (key _ h (fun _ z => by cases z) (fun _ z => by cases z)))
  · exact .inl (.inr ⟨o, key _ h (fun _ z => by cases z) (fun _ z => by cases z)⟩)
  · exact .inr h
theorem CellsOk.kp {K : PySem.W.Frag} {S : Addr → Prop} {H H' : Hp} {hp : List (Int × Addr)} (h : CellsOk K H hp) (m : Mu S H) (e : Kp S H H') : CellsOk K H' hp := fun p hp' => by
  obtain ⟨f, s, z⟩ := h p hp'
  exact ⟨f, s, SqT.kp z m e⟩
noncomputable def er (xs : List Str) (rs : List (List Str)) : Prop := ∀ r ∈ rs, ∃ k u v : Str, r = [k, u, v] ∧ (k = "is" ∨ k = "not") ∧ u ∈ xs ∧ v ∈ xs
noncomputable def PartOf (xs : List Str) (r : List Str) : Prop := (∃ a f s : Str, r = [("cell" : Str), a, f, s] ∧ a ∈ xs ∧ (f ∈ xs ∨ f = "any") ∧ (s ∈ xs ∨ s = "any")) ∨ (∃ a b : Str, r = [("stretch" : Str), a, b] ∧ a ∈ xs ∧ b ∈ xs) ∨ (∃ a : Str, r = [("tree" : Str), a] ∧ a ∈ xs)
noncomputable def dh (xs : List Str) (rs : List (List Str)) : Prop := ∀ r ∈ rs, PartOf xs r
theorem cv (xs : List Str) {n : Nat} {i : Int} (hl : xs.length = n) (h0 : 0 < n) : ∃ v : Str, atI (xs.map V.str) (i % (n : Int)) = some (.str v) ∧ v ∈ xs := by
  obtain ⟨v, h1, h2⟩ := pi (xs := xs.map V.str) (m := (n : Int)) (i := i) (by rw [List.length_map, hl]) (by lia)
  obtain ⟨y, hy, rfl⟩ := List.mem_map.mp h2
  exact ⟨y, h1, hy⟩
inductive spAnyPartsS (K : PySem.W.Frag) (vs : List V) (H : Hp) (Q : VK) : Prop
  | mk (g nl : Addr) (n : Int) (xs : List Str) (h0 : vs = [.ref g, .ref nl]) (h1 : H g = some (.lst [.int n])) (h2 : H nl = some (.lst (xs.map V.str))) (h3 : xs.length = 8) (h4 : g ≠ nl) (h5 : ∀ l as rs H', Kp (· = g) H H' → H l = none → H' l = some (.lst ((as : List Addr).map V.ref)) → Paired (fun b r => RowAt K H' b r) as rs → rs.length ≤ 6 → dh (xs ++ [("nil" : Str)]) rs → Q (.ref l) H') : spAnyPartsS K vs H Q
noncomputable def qa (K : PySem.W.Frag) : Sp := fun vs H Q _ => spAnyPartsS K vs H Q
structure AP (K : PySem.W.Frag) (H : Hp) (g ev l : Addr) (ws : List Str) (as : List Addr) (rs : List (List Str)) (Hc : Hp) : Prop where
  kp : Kp (· = g) H Hc
  dg : ∃ z, Hc g = some (.lst [.int z])
  ev : Hc ev = some (.lst (ws.map V.str))
  l : Hc l = some (.lst (as.map V.ref))
  pr : Paired (fun b r => RowAt K Hc b r) as rs
theorem AP.dig {K : PySem.W.Frag} {H : Hp} {g ev l : Addr} {ws : List Str} {as : List Addr} {rs : List (List Str)} {Hc : Hp} (h : AP K H g ev l ws as rs Hc) (h1 : ev ≠ g) (h2 : l ≠ g) (y : Int) : AP K H g ev l ws as rs (upd Hc g (.lst [.int y])) := by
  obtain ⟨z, hz⟩ := h.dg
  exact ⟨h.kp.put (.inl rfl) _, ⟨y, aa⟩, by rw [ah h1]; exact h.ev, by rw [ah h2]; exact h.l, Paired.mapP h.pr fun _ _ z => cq hz z⟩
theorem AP.new {K : PySem.W.Frag} {H : Hp} {g ev l : Addr} {ws : List Str} {as : List Addr} {rs : List (List Str)} {Hc : Hp} (h : AP K H g ev l ws as rs Hc) {p : Addr} (hp : Hc p = none) (hg : H g ≠ none) (o : HO) : AP K H g ev l ws as rs (upd Hc p o) := by
  have s := ad hp o
  obtain ⟨z, hz⟩ := h.dg
  exact ⟨h.kp.trans (s.kp _), ⟨z, s _ _ hz⟩, s _ _ h.ev, s _ _ h.l, Paired.mapP h.pr fun _ _ z => s.seqT z⟩
theorem AP.oth {K : PySem.W.Frag} {H : Hp} {g ev l : Addr} {ws : List Str} {as : List Addr} {rs : List (List Str)} {Hc : Hp} (h : AP K H g ev l ws as rs Hc) {p : Addr} {xs : List V} (hp : Hc p = some (.lst xs)) (h0 : H p = none) (h1 : p ≠ g) (h2 : p ≠ ev) (h3 : p ≠ l) (ys : List V) : AP K H g ev l ws as rs (upd Hc p (.lst ys)) := by
  obtain ⟨z, hz⟩ := h.dg
  exact ⟨h.kp.put (.inr h0) _, ⟨z, by rw [ah (Ne.symm h1)]; exact hz⟩, by rw [ah (Ne.symm h2)]; exact h.ev, by rw [ah (Ne.symm h3)]; exact h.l, Paired.mapP h.pr fun _ _ z => cq hp z⟩
theorem AP.free {K : PySem.W.Frag} {H : Hp} {g ev l : Addr} {ws : List Str} {as : List Addr} {rs : List (List Str)} {Hc : Hp} (h : AP K H g ev l ws as rs Hc) {p : Addr} (hp : Hc p = none) : H p = none ∧ p ≠ g ∧ p ≠ ev ∧ p ≠ l := by
  obtain ⟨z, hz⟩ := h.dg
  have hpg : p ≠ g := fun e => by rw [e, hz] at hp; cases hp
  refine ⟨?_, hpg, fun e => (by rw [e, h.ev] at hp; cases hp), fun e => (by rw [e, h.l] at hp; cases hp)⟩
  cases hc : H p with
  | none => rfl
  | some o => rw [h.kp p o hc hpg] at hp; cases hp
section
variable {P : Program} {w : World} {K : PySem.W.Frag} {mg : Str → Option Value} {base : Heap} {f gD : Addr} {fd dD : FuncData}
theorem scAnyParts : FnScope ["_law_digits", "_law_names_here", "_law_every", "_law_parts", "_law_k", "_law_word", "_law_row_here"] ["_law_digits", "_law_names_here"] (ak fw) := ⟨rfl, rfl, rfl, by decide +kernel, rfl, by decide +kernel, by decide +kernel⟩
theorem wc (C : Con K mg w) (F : Fun K "_law_any_parts" "_law_any_parts" fw f fd) (GD : FnOk P w K mg base CX0 1 gD dD ["_law_digits", "_law_many"] i9) (cD : Cal K mg "_law_digit" gD dD ["_law_digits", "_law_many"]) : FnOk P w K mg base CX0 2 f fd ["_law_digits", "_law_names_here"] (qa K) := by
  refine F.okQ scAnyParts (fun vs H Q E h => ?_) (fun cdv A outer s0 H vs Q E hr h => ?_)
  · obtain ⟨g, nl, n, xs, rfl, _⟩ := h; rfl
  obtain ⟨g, nl, n, xs, rfl, hG, hN, hx8, hgn, q⟩ := h
  have nd := scAnyParts.nd
  have hr1 := hr.mono (j := 1) (by lia)
  refine ⟨_, ae (al (i := 2) nd rfl (Or.inl rfl) (ai cx (qv 1) (ay (bj ac))))
    (ae (al (i := 3) nd rfl (Or.inl rfl) (ay ac))
    (ae (cr PassesOwn.never rfl (bw rfl C.range (bh (ao GD hr1 rfl cD.name cD.keep cD.bind .nil aw (af (qv 0) (b8 ac))) ac)) (ba (i := 4) nd rfl (Or.inl rfl)) (ae (al (i := 5) nd rfl (Or.inl rfl) (aq (ixKk (K := K) rfl) (ay (bj (bj (bj ac)))) (ao GD hr1 rfl cD.name cD.keep cD.bind .nil aw (af (qv 0) (b8 ac))) (fun _ _ => rfl)))
    (ae (al (i := 6) nd rfl (Or.inl rfl) (ay (af (qv 5) (ax (aq (ixKk (K := K) rfl) (qv 2) (ao GD hr1 rfl cD.name cD.keep cD.bind .nil aw (af (qv 0) (b8 ac))) (fun _ _ => rfl)) ac))))
    (ae (bd (av bn (qv 5) cb (au _)) (am (bi (ce (K := K) rfl PySem.F.plainAttrs_list PySem.F.slot_list_append PySem.F.type_list_append bq (qv 6) (ax (aq (ixKk (K := K) rfl) (qv 2) (ao GD hr1 rfl cD.name cD.keep cD.bind .nil aw (af (qv 0) (b8 ac))) (fun _ _ => rfl)) ac)))) b9)
    (ae (bd (av bn (qv 5) cb (au _)) (ae (bi (ce (K := K) rfl PySem.F.plainAttrs_list PySem.F.slot_list_append PySem.F.type_list_append bq (qv 6) (ax (aq (ixKk (K := K) rfl) (ai cx (qv 2) (ay (bj ac))) (ao GD hr1 rfl cD.name cD.keep cD.bind .nil aw (af (qv 0) (b8 ac))) (fun _ _ => rfl)) ac)))
    (am (bi (ce (K := K) rfl PySem.F.plainAttrs_list PySem.F.slot_list_append PySem.F.type_list_append bq (qv 6) (ax (aq (ixKk (K := K) rfl) (ai cx (qv 2) (ay (bj ac))) (ao GD hr1 rfl cD.name cD.keep cD.bind .nil aw (af (qv 0) (b8 ac))) (fun _ _ => rfl)) ac))))) b9)
    (am (bi (ce (K := K) rfl PySem.F.plainAttrs_list PySem.F.slot_list_append PySem.F.type_list_append bq (qv 3) (bh (bt sj rfl C.tuple PyProof.Rows.boot_tuple (af (qv 6) ac)) ac)))))))))
    (am (az (qv 3))))), ?_⟩
  have hgN : H g ≠ none := by rw [hG]; simp
  refine ⟨_, rfl, (show 1 ≤ sizeLine by decide), fun l0 hl0 => ?_⟩
  have s0' := ad hl0 (.lst [.str "nil"])
  refine ⟨nl, l0, _, _, rfl, rfl, s0' _ _ hN, aa, ?_, fun ev hev => ?_⟩
  · rw [List.length_map, hx8]; exact (by decide : 8 + 1 ≤ sizeLine)
  have ews : xs.map V.str ++ [V.str "nil"] = (xs ++ [("nil" : Str)]).map V.str := by rw [List.map_append]; rfl
  rw [ews]
  have hw9 : (xs ++ [("nil" : Str)]).length = 9 := by rw [List.length_append, hx8]; rfl
  have hw10 : (xs ++ [("nil" : Str)] ++ [("any" : Str)]).length = 10 := by rw [List.length_append, hw9]; rfl
  generalize hws : xs ++ [("nil" : Str)] = ws at hw9 hw10 q ⊢
  have s1 := s0'.trans (ad hev (.lst (ws.map V.str)))
  refine ⟨Nat.zero_le _, fun l hl => ?_⟩
  have s2 := s1.trans (ad hl (.lst []))
  have hlg : l ≠ g := Ne.symm (aj (s1 _ _ hG) hl)
  have heg : ev ≠ g := Ne.symm (aj (s0' _ _ hG) hev)
  have hl0' : H l = none := s1.free hl
  have hle : ev ≠ l := aj (show (upd (upd H l0 (.lst [.str "nil"])) ev (.lst (ws.map V.str))) ev = _ from aa) hl
  have B0 : AP K H g ev l ws [] [] (upd (upd (upd H l0 (.lst [.str "nil"])) ev (.lst (ws.map V.str))) l (.lst [])) := ⟨s2.kp _, ⟨n, s2 _ _ hG⟩, (ad hl _) _ _ aa, aa, .nil⟩
  refine ⟨_, rfl, g, n, 7, rfl, s2 _ _ hG, by decide, by decide +kernel, ?_⟩
  have B1 := B0.dig heg hlg (n / 7)
  generalize upd (upd (upd (upd H l0 (.lst [.str "nil"])) ev (.lst (ws.map V.str))) l (.lst [])) g (.lst [.int (n / 7)]) = H1 at B1 ⊢
  have g0 := Int.emod_nonneg n (show (7 : Int) ≠ 0 by decide)
  have g7 := Int.emod_lt_of_pos n (show (0 : Int) < 7 by decide)
  refine ⟨_, rfl, (by lia), (by lia), ?_⟩
  refine cf (lo := 0) (n := (n % 7).toNat) (fun k σ H' => Ex5 fun (as : List Addr) (rs : List (List Str)) (z4 z5 z6 : Option V) => And4 (AP K H g ev l ws as rs H') (rs.length = k) (dh ws rs) (σ = [some (.ref g), some (.ref nl), some (.ref ev), some (.ref l), z4, z5, z6])) ⟨[], [], none, none, none, B1, rfl, fun r hr => by simp at hr, rfl⟩ ?_ ?_
  · rintro k σ H' hk ⟨as, rs, z4, z5, z6, B, hrl, hPs, rfl⟩
    have hal : as.length = rs.length := Paired.length B.pr
    have last : ∀ (Hc : Hp) (rw' : Addr) (r : List Str) (z4 z5 : Option V), AP K H g ev l ws as rs Hc → Hc rw' = some (.lst (r.map V.str)) → PartOf ws r → ∀ t, Hc t = none → AP K H g ev l ws (as ++ [t]) (rs ++ [r]) (upd (upd Hc t (.tup (r.map V.str))) l (.lst (as.map V.ref ++ [.ref t]))) ∧ dh ws (rs ++ [r]) ∧ (rs ++ [r]).length = k + 1 := by
      intro Hc rw' r z4 z5 B' hrw hp t ht
      have s3 := ad ht (.tup (r.map V.str))
      have B2 := B'.new ht hgN (.tup (r.map V.str))
      obtain ⟨z, hz⟩ := B2.dg
      refine ⟨⟨B2.kp.put (.inr hl0') _, ⟨z, by rw [ah (Ne.symm hlg)]; exact hz⟩, by rw [ah hle]; exact B2.ev, by rw [aa, List.map_append]; rfl, ?_⟩, fun r' hr' => ?_, by rw [List.length_append, hrl]; rfl⟩
      · exact Paired.snocP (Paired.mapP B2.pr fun _ _ z => cq B2.l z) (cq B2.l (SqT.of aa))
      · rcases List.mem_append.mp hr' with h | h
        · exact hPs r' h
        · simp only [List.mem_cons, List.not_mem_nil, or_false] at h; rw [h]; exact hp
    obtain ⟨z, hz⟩ := B.dg
    obtain ⟨wd, hwd, hwm⟩ := cv [("cell" : Str), "stretch", "tree"] (n := 3) (i := z) rfl (by decide)
    refine ⟨(show 3 ≤ sizeLine by decide), fun l3 hl3 => ?_⟩
    have B2 := B.new hl3 hgN (.lst [.str "cell", .str "stretch", .str "tree"])
    have s3 := ad hl3 (.lst [.str "cell", .str "stretch", .str "tree"])
    have hl3g := (B.free hl3).2.1
    refine ⟨_, rfl, g, z, 3, rfl, s3 _ _ hz, by decide, by decide +kernel, l3, _, _, .str wd, rfl, rfl, SqL.of (by rw [ah hl3g]; exact aa), hwd, ?_⟩
    have B3 := B2.dig heg hlg (z / 3)
    have hz3 : (upd (upd H' l3 (.lst [.str "cell", .str "stretch", .str "tree"])) g (.lst [.int (z / 3)])) g = some (.lst [.int (z / 3)]) := aa
    generalize upd (upd H' l3 (.lst [.str "cell", .str "stretch", .str "tree"])) g (.lst [.int (z / 3)]) = H3 at B3 hz3 ⊢
    obtain ⟨w1, hw1, hm1⟩ := cv ws (n := 9) (i := z / 3) hw9 (by decide)
    have B4 := B3.dig heg hlg (z / 3 / 9)
    refine ⟨_, rfl, _, rfl, _, rfl, g, z / 3, 9, rfl, hz3, by decide, by decide +kernel, ev, _, _, .str w1, rfl, rfl, SqL.of B4.ev, hw1, (show 2 ≤ sizeLine by decide), fun rw' hrw => ?_⟩
    have hz4 : (upd H3 g (.lst [.int (z / 3 / 9)])) g = some (.lst [.int (z / 3 / 9)]) := aa
    generalize upd H3 g (.lst [.int (z / 3 / 9)]) = H4 at B4 hrw hz4 ⊢
    have hf := B4.free hrw
    have B5 := B4.new hrw hgN (.lst ([wd, w1].map V.str))
    have hz5 := ad hrw (.lst ([wd, w1].map V.str)) _ _ hz4
    have hr5 : (upd H4 rw' (.lst ([wd, w1].map V.str))) rw' = some (.lst ([wd, w1].map V.str)) := aa
    generalize hH5 : upd H4 rw' (.lst ([wd, w1].map V.str)) = H5 at B5 hz5 hr5
    rw [show upd H4 rw' (.lst [.str wd, .str w1]) = H5 from hH5]
    simp only [List.mem_cons, List.not_mem_nil, or_false] at hwm
    rcases hwm with rfl | rfl | rfl
    · -- a cell
      refine ⟨_, rfl, rfl, _, rfl, iteF ?_⟩
      refine ⟨_, rfl, rfl, _, rfl, iteT ?_⟩
      obtain ⟨w2, hw2, hm2⟩ := cv (ws ++ [("any" : Str)]) (n := 10) (i := z / 3 / 9) hw10 (by decide)
      refine ⟨_, rfl, .inl ⟨rfl, _, SqL.of hr5⟩, _, rfl, (show 1 ≤ sizeLine by decide), fun l6 hl6 => ?_⟩
      have s6 := ad hl6 (.lst [.str "any"])
      have B6 := B5.new hl6 hgN (.lst [.str "any"])
      refine ⟨ev, l6, _, _, rfl, rfl, B6.ev, aa, ?_, fun l7 hl7 => ?_⟩
      · rw [List.length_map, hw9]; exact (by decide : 9 + 1 ≤ sizeLine)
      have ean : ws.map V.str ++ [V.str "any"] = (ws ++ [("any" : Str)]).map V.str := by rw [List.map_append]; rfl
      rw [ean]
      have s7 := s6.trans (ad hl7 (.lst ((ws ++ [("any" : Str)]).map V.str)))
      have B7 := B6.new hl7 hgN (.lst ((ws ++ [("any" : Str)]).map V.str))
      have hl7g := (B6.free hl7).2.1
      have B8 := B7.dig heg hlg (z / 3 / 9 / 10)
      refine ⟨_, rfl, g, z / 3 / 9, 10, rfl, s7 _ _ hz5, by decide, by decide +kernel, l7, _, _, .str w2, rfl, rfl, SqL.of (by rw [ah hl7g]; exact aa), hw2, ?_⟩
      have hr8 : (upd (upd (upd H5 l6 (.lst [.str "any"])) l7 (.lst ((ws ++ [("any" : Str)]).map V.str))) g (.lst [.int (z / 3 / 9 / 10)])) rw' = some (.lst ([("cell" : Str), w1].map V.str)) := by rw [ah hf.2.1]; exact s7 _ _ hr5
      have hz8 : (upd (upd (upd H5 l6 (.lst [.str "any"])) l7 (.lst ((ws ++ [("any" : Str)]).map V.str))) g (.lst [.int (z / 3 / 9 / 10)])) g = some (.lst [.int (z / 3 / 9 / 10)]) := aa
      generalize upd (upd (upd H5 l6 (.lst [.str "any"])) l7 (.lst ((ws ++ [("any" : Str)]).map V.str))) g (.lst [.int (z / 3 / 9 / 10)]) = H8 at B8 hr8 hz8 ⊢
      refine ⟨rw', _, .str w2, rfl, rfl, hr8, (show 2 < sizeLine by decide), ?_⟩
      have B9 := B8.oth hr8 hf.1 hf.2.1 hf.2.2.1 hf.2.2.2 ([("cell" : Str), w1, w2].map V.str)
      have hz9 : (upd H8 rw' (.lst ([("cell" : Str), w1, w2].map V.str))) g = some (.lst [.int (z / 3 / 9 / 10)]) := by rw [ah (Ne.symm hf.2.1)]; exact hz8
      have hr9 : (upd H8 rw' (.lst ([("cell" : Str), w1, w2].map V.str))) rw' = some (.lst ([("cell" : Str), w1, w2].map V.str)) := aa
      rw [show ([("cell" : Str), w1].map V.str ++ [V.str w2]) = [("cell" : Str), w1, w2].map V.str from rfl]
      generalize upd H8 rw' (.lst ([("cell" : Str), w1, w2].map V.str)) = H9 at B9 hr9 hz9 ⊢
      obtain ⟨w3, hw3, hm3⟩ := cv (ws ++ [("any" : Str)]) (n := 10) (i := z / 3 / 9 / 10) hw10 (by decide)
      refine ⟨_, rfl, .inl ⟨rfl, _, SqL.of hr9⟩, _, rfl, (show 1 ≤ sizeLine by decide), fun k6 hk6 => ?_⟩
      have s6 := ad hk6 (.lst [.str "any"])
      have B6 := B9.new hk6 hgN (.lst [.str "any"])
      refine ⟨ev, k6, _, _, rfl, rfl, B6.ev, aa, ?_, fun k7 hk7 => ?_⟩
      · rw [List.length_map, hw9]; exact (by decide : 9 + 1 ≤ sizeLine)
      rw [ean]
      have s7 := s6.trans (ad hk7 (.lst ((ws ++ [("any" : Str)]).map V.str)))
      have B7 := B6.new hk7 hgN (.lst ((ws ++ [("any" : Str)]).map V.str))
      have hk7g := (B6.free hk7).2.1
      have B8 := B7.dig heg hlg (z / 3 / 9 / 10 / 10)
      refine ⟨_, rfl, g, z / 3 / 9 / 10, 10, rfl, s7 _ _ hz9, by decide, by decide +kernel, k7, _, _, .str w3, rfl, rfl, SqL.of (by rw [ah hk7g]; exact aa), hw3, ?_⟩
      have hr8 : (upd (upd (upd H9 k6 (.lst [.str "any"])) k7 (.lst ((ws ++ [("any" : Str)]).map V.str))) g (.lst [.int (z / 3 / 9 / 10 / 10)])) rw' = some (.lst ([("cell" : Str), w1, w2].map V.str)) := by rw [ah hf.2.1]; exact s7 _ _ hr9
      generalize upd (upd (upd H9 k6 (.lst [.str "any"])) k7 (.lst ((ws ++ [("any" : Str)]).map V.str))) g (.lst [.int (z / 3 / 9 / 10 / 10)]) = H10 at B8 hr8 ⊢
      refine ⟨rw', _, .str w3, rfl, rfl, hr8, (show 3 < sizeLine by decide), ?_⟩
      have B9 := B8.oth hr8 hf.1 hf.2.1 hf.2.2.1 hf.2.2.2 ([("cell" : Str), w1, w2, w3].map V.str)
      have hr9 : (upd H10 rw' (.lst ([("cell" : Str), w1, w2, w3].map V.str))) rw' = some (.lst ([("cell" : Str), w1, w2, w3].map V.str)) := aa
      rw [show ([("cell" : Str), w1, w2].map V.str ++ [V.str w3]) = [("cell" : Str), w1, w2, w3].map V.str from rfl]
      generalize upd H10 rw' (.lst ([("cell" : Str), w1, w2, w3].map V.str)) = H11 at B9 hr9 ⊢
      have hin : ∀ y, y ∈ ws ++ [("any" : Str)] → y ∈ ws ∨ y = "any" := fun y hy => by
        rcases List.mem_append.mp hy with h | h
        · exact .inl h
        · exact .inr (by simpa using h)
      refine ⟨_, rfl, .inl ⟨rfl, _, SqL.of B9.l⟩, _, rfl, rw', _, rfl, .inl ⟨SqL.of hr9, fun t ht => ?_⟩⟩
      obtain ⟨L1, L2', L3⟩ := last H11 rw' [("cell" : Str), w1, w2, w3] none none B9 hr9 (.inl ⟨w1, w2, w3, rfl, hm1, hin _ hm2, hin _ hm3⟩) t ht
      refine ⟨l, _, .ref t, rfl, rfl, (ad ht _) _ _ B9.l, ?_, as ++ [t], rs ++ [[("cell" : Str), w1, w2, w3]], _, _, _, L1, L3, L2', rfl⟩
      rw [List.length_map]; exact Nat.lt_of_le_of_lt (show as.length ≤ 1000 by lia) (by decide)
    · -- a stretch
      obtain ⟨w2, hw2, hm2⟩ := cv ws (n := 9) (i := z / 3 / 9) hw9 (by decide)
      refine ⟨_, rfl, rfl, _, rfl, iteT ?_⟩
      have B6 := B5.dig heg hlg (z / 3 / 9 / 9)
      refine ⟨_, rfl, .inl ⟨rfl, _, SqL.of hr5⟩, _, rfl, _, rfl, g, z / 3 / 9, 9, rfl, hz5, by decide, by decide +kernel, ev, _, _, .str w2, rfl, rfl, SqL.of B6.ev, hw2, ?_⟩
      have hr6 : (upd H5 g (.lst [.int (z / 3 / 9 / 9)])) rw' = some (.lst ([("stretch" : Str), w1].map V.str)) := by rw [ah hf.2.1]; exact hr5
      generalize upd H5 g (.lst [.int (z / 3 / 9 / 9)]) = H6 at B6 hr6 ⊢
      refine ⟨rw', _, .str w2, rfl, rfl, hr6, (show 2 < sizeLine by decide), ?_⟩
      have B7 := B6.oth hr6 hf.1 hf.2.1 hf.2.2.1 hf.2.2.2 ([("stretch" : Str), w1, w2].map V.str)
      have hr7 : (upd H6 rw' (.lst ([("stretch" : Str), w1, w2].map V.str))) rw' = some (.lst ([("stretch" : Str), w1, w2].map V.str)) := aa
      rw [show ([("stretch" : Str), w1].map V.str ++ [V.str w2]) = [("stretch" : Str), w1, w2].map V.str from rfl]
      generalize upd H6 rw' (.lst ([("stretch" : Str), w1, w2].map V.str)) = H7 at B7 hr7 ⊢
      refine ⟨_, rfl, rfl, _, rfl, iteF ?_⟩
      refine ⟨_, rfl, .inl ⟨rfl, _, SqL.of B7.l⟩, _, rfl, rw', _, rfl, .inl ⟨SqL.of hr7, fun t ht => ?_⟩⟩
      obtain ⟨L1, L2', L3⟩ := last H7 rw' [("stretch" : Str), w1, w2] none none B7 hr7 (.inr (.inl ⟨w1, w2, rfl, hm1, hm2⟩)) t ht
      refine ⟨l, _, .ref t, rfl, rfl, (ad ht _) _ _ B7.l, ?_, as ++ [t], rs ++ [[("stretch" : Str), w1, w2]], _, _, _, L1, L3, L2', rfl⟩
      rw [List.length_map]; exact Nat.lt_of_le_of_lt (show as.length ≤ 1000 by lia) (by decide)
    · -- a tree
      refine ⟨_, rfl, rfl, _, rfl, iteF ?_⟩
      refine ⟨_, rfl, rfl, _, rfl, iteF ?_⟩
      refine ⟨_, rfl, .inl ⟨rfl, _, SqL.of B5.l⟩, _, rfl, rw', _, rfl, .inl ⟨SqL.of hr5, fun t ht => ?_⟩⟩
      obtain ⟨L1, L2', L3⟩ := last H5 rw' [("tree" : Str), w1] none none B5 hr5 (.inr (.inr ⟨w1, rfl, hm1⟩)) t ht
      refine ⟨l, _, .ref t, rfl, rfl, (ad ht _) _ _ B5.l, ?_, as ++ [t], rs ++ [[("tree" : Str), w1]], _, _, _, L1, L3, L2', rfl⟩
      rw [List.length_map]; exact Nat.lt_of_le_of_lt (show as.length ≤ 1000 by lia) (by decide)
  · rintro σ H' ⟨as, rs, z4, z5, z6, B, hrl, hPs, rfl⟩
    exact ⟨_, rfl, q l as rs H' B.kp hl0' B.l B.pr (by lia) hPs⟩
end
end K13
namespace K13
open PySem PySem.Spec L2 Mir
noncomputable abbrev sAny : Stmt := top 25
noncomputable def putM (m : List (Str × Int)) (x : Str) (z : Int) : List (Str × Int) := if (m.any fun p => decide (p.1 = x)) = true then m.map (fun p => if p.1 = x then (p.1, z) else p) else m ++ [(x, z)]
theorem ej (m : List (Str × Int)) (x : Str) (z : Int) : putK (dv m) (Sum.inr x) (.int z) = dv (putM m x z) := by
  unfold putK putM dv
  have ed : ∀ a b : Str, decide ((Sum.inr a : Key) = Sum.inr b) = decide (a = b) := fun a b => by
    by_cases h : a = b
    · subst h; simp
    · rw [decide_eq_false h, decide_eq_false (fun z => h (Sum.inr.inj z))]
  have e : (m.map (fun p => ((Sum.inr p.1, V.int p.2) : Key × V))).any (fun kv => decide (kv.1 = (Sum.inr x : Key))) = m.any fun p => decide (p.1 = x) := by
    rw [List.any_map]
    congr 1
    funext p
    exact ed p.1 x
  rw [e]
  split
  · rw [List.map_map, List.map_map]
    apply List.map_congr_left
    intro p _
    show (if (Sum.inr p.1 : Key) = Sum.inr x then _ else _) = _
    by_cases h : p.1 = x
    · rw [if_pos (by rw [h])]
      show _ = ((Sum.inr (if p.1 = x then (p.1, z) else p).1, V.int (if p.1 = x then (p.1, z) else p).2) : Key × V)
      rw [if_pos h]
    · rw [if_neg (fun z => h (Sum.inr.inj z))]
      show _ = ((Sum.inr (if p.1 = x then (p.1, z) else p).1, V.int (if p.1 = x then (p.1, z) else p).2) : Key × V)
      rw [if_neg h]
  · rw [List.map_append]; rfl
theorem a1i {x : Str} {z : Int} : ∀ (m : List (Str × Int)) (y : Str), lkI (m.map fun p => if p.1 = x then (p.1, z) else p) y = if y = x then (lkI m x).map (fun _ => z) else lkI m y
  | [], y => by unfold lkI; simp
  | p :: m, y => by
    have ih := a1i (x := x) (z := z) m y
    have c : ∀ (q : Str × Int) (l : List (Str × Int)) (w : Str), lkI (q :: l) w = if q.1 = w then some q.2 else lkI l w := fun q l w => by
      unfold lkI
      rw [List.find?_cons]
      by_cases h : q.1 = w
      · simp [h]
      · simp [h]
    rw [List.map_cons, c, c, c, ih]
    by_cases h1 : p.1 = x
    · by_cases h2 : y = x
      · subst h2; simp [h1]
      · have h3 : ¬ x = y := fun z => h2 z.symm
        simp [h1, h2, h3]
    · by_cases h2 : y = x
      · subst h2; simp [h1]
      · simp [h1, h2]
theorem d8 (m : List (Str × Int)) (x : Str) (z : Int) (y : Str) : lkI (putM m x z) y = if y = x then some z else lkI m y := by
  unfold putM
  split
  · rename_i h
    rw [a1i]
    by_cases h2 : y = x
    · rw [if_pos h2, if_pos h2]
      have : (lkI m x).isSome = true := by
        unfold lkI
        rw [Option.isSome_map]
        rw [List.find?_isSome]
        rw [List.any_eq_true] at h
        exact h
      cases hl : lkI m x with
      | none => rw [hl] at this; cases this
      | some v => rfl
    · rw [if_neg h2, if_neg h2]
  · rename_i h
    have hn : ∀ p ∈ m, ¬ p.1 = x := fun p hp z => h (List.any_eq_true.mpr ⟨p, hp, by simp [z]⟩)
    unfold lkI
    rw [List.find?_append]
    by_cases h2 : y = x
    · subst h2
      rw [if_pos rfl, List.find?_eq_none.mpr (fun p hp => by simp [hn p hp])]
      simp
    · have h3 : ¬ x = y := fun z => h2 z.symm
      rw [if_neg h2]
      simp [h3]
theorem dt (m : List (Str × Int)) (x : Str) (z : Int) : (putM m x z).length ≤ m.length + 1 := by
  unfold putM
  split
  · rw [List.length_map]; lia
  · rw [List.length_append, List.length_singleton]; lia
theorem SqL.kpD {K : PySem.W.Frag} {S : Addr → Prop} {H H' : Hp} {b : Addr} {zs : List V} (h : SqL K H b zs) (m : ∀ c, S c → ∃ kv, H c = some (.dK kv)) (e : Kp S H H') : SqL K H' b zs := by
  have key : ∀ o, H b = some o → (∀ kv, o ≠ .dK kv) → H' b = some o := fun o ho h2 => e b o ho fun z => by
    obtain ⟨kv, hx⟩ := m b z
    rw [ho] at hx; exact h2 kv (Option.some.inj hx)
  rcases h with (h | ⟨o, h⟩) | h
  · exact .inl (.inl (key _ h (fun _ z => by cases z)))
  · exact .inl (.inr ⟨o, key _ h (fun _ z => by cases z)⟩)
  · exact .inr h
theorem Kp.free {S : Addr → Prop} {H H' : Hp} (e : Kp S H H') {p : Addr} (hp : H' p = none) (hs : ∀ c, S c → H' c ≠ none) : H p = none := by
  cases hc : H p with
  | none => rfl
  | some o =>
    by_cases hn : S p
    · exact absurd hp (hs p hn)
    · rw [e p o hc hn] at hp; cases hp
theorem Kp.drop {S : Addr → Prop} {g : Addr} {H H1 H2 : Hp} (a : Kp S H H1) (b : Kp (· = g) H1 H2) (hg : H g = none) : Kp S H H2 := fun c o q n => b c o (a c o q n) fun z => by
  have z' : c = g := z
  rw [z', hg] at q; cases q
theorem CellsOk.dput {K : PySem.W.Frag} {H : Hp} {hp : List (Int × Addr)} {d : Addr} {kv kv' : List (Key × V)} (h : CellsOk K H hp) (hd : H d = some (.dK kv)) : CellsOk K (upd H d (.dK kv')) hp := fun p hp' => by
  obtain ⟨f, s, z⟩ := h p hp'
  exact ⟨f, s, ef hd z⟩
structure Made (K : PySem.W.Frag) (H' : Hp) (h fl pl : Addr) (ws : List Str) (hp : List (Int × Addr)) (fs ps : List (List Str)) : Prop where
  heap : H' h = some (.dK (hv hp))
  cells : CellsOk K H' hp
  nd : (hp.map (·.1)).Nodup
  few : hp.length ≤ 60
  facts : RowsAt K H' fl fs
  parts : RowsAt K H' pl ps
  fof : er ws fs
  pof : dh ws ps
  f8 : fs.length ≤ 8
  p6 : ps.length ≤ 6
inductive spAnyS (K : PySem.W.Frag) (vs : List V) (H : Hp) (Q : VK) : Prop
  | mk (a d : Addr) (ns : List Int) (h0 : vs = [.ref a, .ref d]) (h1 : SqL K H a (ns.map V.int)) (h2 : H d = some (.dK (dv []))) (h3 : ∀ t h fl pl xs m hp fs ps H', Kp (· = d) H H' → H h = none → H fl = none → H pl = none → H' t = some (.tup [.ref h, .ref fl, .ref pl]) → H' d = some (.dK (dv m)) → m.length ≤ 20 → (xs : List Str).length = 8 → (∀ x ∈ xs, NameG x) → (∀ x ∈ xs ++ [("nil" : Str)], (lkI m x).isSome = true) → lkI m "nil" = some 0 → Made K H' h fl pl (xs ++ [("nil" : Str)]) hp fs ps → h ≠ fl → h ≠ pl → fl ≠ pl → Q (.ref t) H') : spAnyS K vs H Q
noncomputable def a3z (K : PySem.W.Frag) : Sp := fun vs H Q _ => spAnyS K vs H Q
section
variable {P : Program} {w : World} {K : PySem.W.Frag} {mg : Str → Option Value} {base : Heap} {f gC gN gH gM gD gP : Addr} {fd dC dN dH dM dD dP : FuncData}
theorem scAny : FnScope ["_law_script", "_law_values", "_law_names_here", "_law_heap", "_law_spots", "_law_k", "_law_digits", "_law_facts_here", "_law_word", "_law_one"] ["_law_script", "_law_values"] (ak sAny) := ⟨rfl, rfl, rfl, by decide +kernel, rfl, by decide +kernel, by decide +kernel⟩
theorem a6e (C : Con K mg w) (F : Fun K "_law_any" "_law_any" sAny f fd) (GC : FnOk P w K mg base CX0 1 gC dC ["_law_script", "_law_k"] (jk K)) (cC : Cal K mg "_law_cell_at" gC dC ["_law_script", "_law_k"])
    (GN : FnOk P w K mg base CX0 2 gN dN ["_law_cell"] a08) (cN : Cal K mg "_law_name" gN dN ["_law_cell"])
    (GH : FnOk P w K mg base CX0 3 gH dH ["_law_script"] (qq K)) (cH : Cal K mg "_law_any_heap" gH dH ["_law_script"])
    (GM : FnOk P w K mg base CX0 2 gM dM ["_law_digits", "_law_spots"] tw) (cM : Cal K mg "_law_number" gM dM ["_law_digits", "_law_spots"])
    (GD : FnOk P w K mg base CX0 1 gD dD ["_law_digits", "_law_many"] i9) (cD : Cal K mg "_law_digit" gD dD ["_law_digits", "_law_many"])
    (GP : FnOk P w K mg base CX0 2 gP dP ["_law_digits", "_law_names_here"] (qa K)) (cP : Cal K mg "_law_any_parts" gP dP ["_law_digits", "_law_names_here"]) : FnOk P w K mg base CX0 4 f fd ["_law_script", "_law_values"] (a3z K) := by
  refine F.okQ scAny (fun vs H Q E h => ?_) (fun cdv A outer s0 H vs Q E hr h => ?_)
  · obtain ⟨a, d, ns, rfl, _⟩ := h; rfl
  obtain ⟨a, d, ns, rfl, hS, hD, q⟩ := h
  have nd := scAny.nd
  have hr1 := hr.mono (j := 1) (by lia)
  have hr2 := hr.mono (j := 2) (by lia)
  have hu1 := dw hr
  refine ⟨_, ae (kq ["_law_k", "_law_script"] [0] (i := 2) nd rfl (Or.inl rfl) (bw rfl C.range (b8 ac)) (fun _ _ _ _ => ga) (fun _ _ _ _ => (ao GN hr2 rfl cN.name cN.keep cN.bind .nil aw (bh (ao GC hr1 rfl cC.name cC.keep cC.bind .nil aw (af (qv 1) (cz (ai bp ag (qv 0)) ac))) ac))))
    (ae (fh (ao GH hr rfl cH.name cH.keep cH.bind .nil aw (af (qv 0) ac)) (ng (ba (i := 3) nd rfl (Or.inl rfl)) (ba (i := 4) nd rfl (Or.inl rfl))))
    (ae (cr PassesOwn.never rfl (bw rfl C.range (b8 ac)) (ba (i := 5) nd rfl (Or.inl rfl)) (am (cj hu1 (qv 1) (aq (ixKk (K := K) rfl) (qv 2) (qv 5) (fun _ _ => rfl)) (ao GM hr2 rfl cM.name cM.keep cM.bind .nil aw (ku (bh (ao GC hr1 rfl cC.name cC.keep cC.bind .nil aw (af (qv 0) (cz (ai bp ag (qv 5)) ac))) ac) (af (qv 4) ac))))))
    (ae (cj hu1 (qv 1) cb ag)
    (ae (al (i := 6) nd rfl (Or.inl rfl) (ay (bh (ao GC hr1 rfl cC.name cC.keep cC.bind .nil aw (af (qv 0) (b8 ac))) ac)))
    (ae (al (i := 7) nd rfl (Or.inl rfl) (ay ac))
    (ae (cr PassesOwn.never rfl (bw rfl C.range (bh (ao GD hr1 rfl cD.name cD.keep cD.bind .nil aw (af (qv 6) (b8 ac))) ac)) (ba (i := 5) nd rfl (Or.inl rfl)) (ae (al (i := 8) nd rfl (Or.inl rfl) (aq (ixKk (K := K) rfl) (ay (bj (bj ac))) (ao GD hr1 rfl cD.name cD.keep cD.bind .nil aw (af (qv 6) (b8 ac))) (fun _ _ => rfl)))
    (ae (al (i := 9) nd rfl (Or.inl rfl) (aq (ixKk (K := K) rfl) (ai cx (qv 2) (ay (bj ac))) (ao GD hr1 rfl cD.name cD.keep cD.bind .nil aw (af (qv 6) (b8 ac))) (fun _ _ => rfl)))
    (am (bi (ce (K := K) rfl PySem.F.plainAttrs_list PySem.F.slot_list_append PySem.F.type_list_append bq (qv 7) (fu (af (qv 8) (af (qv 9) (ax (aq (ixKk (K := K) rfl) (ai cx (qv 2) (ay (bj ac))) (ao GD hr1 rfl cD.name cD.keep cD.bind .nil aw (af (qv 6) (b8 ac))) (fun _ _ => rfl)) ac))) ac)))))))
    (am (az (d0 (af (qv 3) (af (qv 7) (bh (ao GP hr2 rfl cP.name cP.keep cP.bind .nil aw (ku (bh (ao GC hr1 rfl cC.name cC.keep cC.bind .nil aw (af (qv 0) (b8 ac))) ac) (af (qv 2) ac))) ac)))))))))))), ?_⟩
  refine ⟨_, rfl, (by decide), (by decide), ?_⟩
  refine oq (nums 0 (8 : Int).toNat) (List.range 8) (fun D H' y _ => ∃ x, y = .str x ∧ NameG x) (fun k => k) om trivial (by decide) (by decide) (fun D H1 H2 y r h e => h) (fun D i x r hx hr' H2 e2 hD' Q' q' => ?_) fun D H1 ys hD' e1 hd1 hp => ?_
  · unfold nums at hx
    rw [show (8 : Int).toNat = 8 from rfl, List.getElem?_map, hr'] at hx
    have hx' : x = .int (0 + (r : Int)) := (Option.some.inj hx).symm
    subst hx'
    exact ⟨_, rfl, _, rfl, _, _, rfl, rfl, a, ns, 1 + r, (by show [V.ref a, V.int (1 + (0 + (r : Int)))] = [V.ref a, V.int ((1 + r : Nat) : Int)]; rw [show (1 : Int) + (0 + (r : Int)) = ((1 + r : Nat) : Int) by lia]), e2.seq hS, _, rfl, fun x H3 e3 hx => q' _ _ e3 ⟨x, rfl, hx⟩⟩
  obtain ⟨xs, rfl, hxn, hx8⟩ : ∃ xs : List Str, ys = xs.map V.str ∧ (∀ x ∈ xs, NameG x) ∧ xs.length = 8 := by
    have hl : ys.length = 8 := by have := Paired.length hp; rw [List.length_map, List.length_range] at this; exact this
    clear hd1 hD' e1
    generalize (List.range 8).map (fun k => k) = rs at hp
    generalize 8 = n8 at hl ⊢
    induction hp generalizing n8 with
    | nil => exact ⟨[], rfl, fun r hr => by simp at hr, hl⟩
    | cons h t ih =>
      obtain ⟨x, rfl, h2⟩ := h
      obtain ⟨xs, rfl, k2, k3⟩ := ih _ rfl
      refine ⟨x :: xs, rfl, fun r hr => ?_, by simpa using hl⟩
      rcases List.mem_cons.mp hr with rfl | hr
      · exact h2
      · exact k2 r hr
  refine ⟨_, rfl, a, ns, rfl, e1.seq hS, fun t h sl hp ss H2 e2 hh0 ht hh hok hnd hpl hss hss0 hss1 => ?_⟩
  refine ⟨t, [.ref h, .ref sl], rfl, SqT.of ht, rfl, _, _, rfl, _, _, rfl, rfl, ?_⟩
  have e12 := e1.trans e2
  have hD2 := e12 _ _ hD
  have hX2 := e2 _ _ hd1
  have hDd : D ≠ d := Ne.symm (aj hD hD')
  have hhd : h ≠ d := Ne.symm (aj (e1 _ _ hD) hh0)
  have hsd : sl ≠ d := fun z => by rw [z] at hss; rw [hss] at hD2; cases hD2
  have hH0 : H h = none := e1.free hh0
  refine ⟨_, rfl, (by decide), (by decide), ?_⟩
  refine cf (lo := 0) (n := (8 : Int).toNat) (fun k σ H' => Kp (· = d) H H' ∧ Ex2 fun (m : List (Str × Int)) (z5 : Option V) => And8 (H' d = some (.dK (dv m))) (m.length ≤ k) ((∀ j (hj : j < xs.length), j < k → (lkI m xs[j]).isSome = true)) (H' D = some (.lst (xs.map V.str))) (H' sl = some (.lst (ss.map V.int))) (H' h = some (.dK (hv hp))) (CellsOk K H' hp) (σ = [some (.ref a), some (.ref d), some (.ref D), some (.ref h), some (.ref sl), z5, none, none, none, none])) ⟨e12.kp _, [], none, hD2, by simp, fun j hj h0 => absurd h0 (by lia), hX2, hss, hh, hok, rfl⟩ ?_ ?_
  · rintro k σ H' hk ⟨e, m, z5, hDm, hml, hin, hX, hS2, hh2, hok2, rfl⟩
    have hk8 : k < xs.length := by lia
    have hSa : SqL K H' a (ns.map V.int) := SqL.kpD hS (fun c z => by have z' : c = d := z; rw [z']; exact ⟨_, hD⟩) e
    refine ⟨_, rfl, _, rfl, _, _, rfl, rfl, a, ns, 9 + k, (by show [V.ref a, V.int (9 + (0 + (k : Int)))] = [V.ref a, V.int ((9 + k : Nat) : Int)]; rw [show (9 : Int) + (0 + (k : Int)) = ((9 + k : Nat) : Int) by lia]), hSa, (show 1 ≤ sizeLine by decide), fun g hg => ?_⟩
    have s3 := ad hg (.lst [.int (ap ns (9 + k))])
    have hg0 : H g = none := e.free hg (fun c z => by have z' : c = d := z; rw [z', hDm]; simp)
    have hgd : g ≠ d := Ne.symm (aj hDm hg)
    refine ⟨_, rfl, g, sl, _, ss, rfl, aa, s3 _ _ hS2, hss0, by lia, Ne.symm (aj hS2 hg), fun v n' => ?_⟩
    rw [eu]
    have s4 := ad hg (.lst [.int n'])
    have hat : atI (xs.map V.str) (0 + (k : Int)) = some (.str xs[k]) := by rw [Int.zero_add]; exact bu (by rw [List.getElem?_map, List.getElem?_eq_getElem hk8]; rfl)
    refine ⟨_, rfl, _, rfl, _, rfl, D, _, _, .str xs[k], rfl, rfl, SqL.of (s4 _ _ hX), hat, d, _, rfl, DPut.k (k := Sum.inr xs[k]) (s4 _ _ hDm) ?_, ?_⟩
    · unfold dv; rw [List.length_map]; exact Nat.lt_of_le_of_lt (show m.length ≤ 1000 by lia) (by decide)
    rw [ej]
    have hlen := dt m xs[k] v
    refine ⟨(e.trans (s4.kp _)).put (.inl rfl) _, putM m xs[k] v, _, aa, by lia, fun j hj h0 => ?_, ?_, ?_, ?_, ?_, rfl⟩
    · rw [d8]
      by_cases hx : xs[j] = xs[k]
      · rw [if_pos hx]; rfl
      · rw [if_neg hx]
        have : j ≠ k := fun z => by subst z; exact hx rfl
        exact hin j hj (by lia)
    · rw [ah hDd]; exact s4 _ _ hX
    · rw [ah hsd]; exact s4 _ _ hS2
    · rw [ah hhd]; exact s4 _ _ hh2
    · exact (hok2.same s4).dput (s4 _ _ hDm)
  rintro σ H3 ⟨e3, m, z5, hDm, hml, hin, hX, hS2, hh2, hok2, rfl⟩
  refine ⟨_, rfl, d, _, rfl, DPut.k (k := Sum.inr "nil") hDm ?_, ?_⟩
  · unfold dv; rw [List.length_map]; exact Nat.lt_of_le_of_lt (show m.length ≤ 1000 by lia) (by decide)
  rw [ej]
  have hlen := dt m "nil" 0
  have hin4 : ∀ x ∈ xs ++ [("nil" : Str)], (lkI (putM m "nil" 0) x).isSome = true := fun x hx => by
    rw [d8]
    rcases List.mem_append.mp hx with h | h
    · obtain ⟨j, hj, rfl⟩ := List.getElem_of_mem h
      by_cases hn : xs[j] = "nil"
      · rw [if_pos hn]; rfl
      · rw [if_neg hn]; exact hin j hj (by rw [show (8 : Int).toNat = 8 from rfl]; lia)
    · have : x = "nil" := by simpa using h
      rw [if_pos this]; rfl
  have e4 : Kp (· = d) H (upd H3 d (.dK (dv (putM m "nil" 0)))) := e3.put (.inl rfl) _
  have hX4 : (upd H3 d (.dK (dv (putM m "nil" 0)))) D = some (.lst (xs.map V.str)) := by rw [ah hDd]; exact hX
  have hh4 : (upd H3 d (.dK (dv (putM m "nil" 0)))) h = some (.dK (hv hp)) := by rw [ah hhd]; exact hh2
  have hok4 : CellsOk K (upd H3 d (.dK (dv (putM m "nil" 0)))) hp := hok2.dput hDm
  have hD4 : (upd H3 d (.dK (dv (putM m "nil" 0)))) d = some (.dK (dv (putM m "nil" 0))) := aa
  generalize upd H3 d (.dK (dv (putM m "nil" 0))) = H4 at e4 hX4 hh4 hok4 hD4 ⊢
  have hfr : ∀ c, c = d → H4 c ≠ none := fun c z => by rw [z, hD4]; simp
  have hSa : SqL K H4 a (ns.map V.int) := SqL.kpD hS (fun c z => by have z' : c = d := z; rw [z']; exact ⟨_, hD⟩) e4
  have hz4 : lkI (putM m "nil" 0) "nil" = some 0 := by rw [d8, if_pos rfl]
  generalize putM m "nil" 0 = m4 at hD4 hin4 hlen hz4
  refine ⟨_, rfl, a, ns, 59, rfl, hSa, (show 1 ≤ sizeLine by decide), fun g hg => ?_⟩
  have s5 := ad hg (.lst [.int (ap ns 59)])
  have hg0 : H g = none := e4.free hg hfr
  have hG5 : (upd H4 g (.lst [.int (ap ns 59)])) g = some (.lst [.int (ap ns 59)]) := aa
  have hgN : (upd H4 g (.lst [.int (ap ns 59)])) g ≠ none := by rw [hG5]; simp
  have hDg : D ≠ g := aj hX4 hg
  have hX5 := s5 _ _ hX4
  generalize hH5 : upd H4 g (.lst [.int (ap ns 59)]) = H5 at hG5 hgN s5 hX5 ⊢
  refine ⟨Nat.zero_le _, fun fl hfl => ?_⟩
  have hflg : fl ≠ g := Ne.symm (aj hG5 hfl)
  have hfl4 : H4 fl = none := s5.free hfl
  have hfl0 : H fl = none := e4.free hfl4 hfr
  have hDfl : D ≠ fl := aj hX5 hfl
  have s6 := ad hfl (.lst [])
  have B0 : AP K H5 g D fl xs [] [] (upd H5 fl (.lst [])) := ⟨s6.kp _, ⟨_, s6 _ _ hG5⟩, s6 _ _ hX5, aa, .nil⟩
  refine ⟨_, rfl, g, _, 9, rfl, s6 _ _ hG5, by decide, by decide +kernel, ?_⟩
  have B1 := B0.dig hDg hflg (ap ns 59 / 9)
  generalize upd (upd H5 fl (.lst [])) g (.lst [.int (ap ns 59 / 9)]) = H6 at B1 ⊢
  have g0 := Int.emod_nonneg (ap ns 59) (show (9 : Int) ≠ 0 by decide)
  have g9 := Int.emod_lt_of_pos (ap ns 59) (show (0 : Int) < 9 by decide)
  refine ⟨_, rfl, (by lia), (by lia), ?_⟩
  have ews : xs.map V.str ++ [V.str "nil"] = (xs ++ [("nil" : Str)]).map V.str := by rw [List.map_append]; rfl
  have hw9 : (xs ++ [("nil" : Str)]).length = 9 := by rw [List.length_append, hx8]; rfl
  have hz8 : (xs.map V.str).length + 1 ≤ sizeLine := by rw [List.length_map, hx8]; exact (by decide : 8 + 1 ≤ sizeLine)
  refine cf (lo := 0) (n := (ap ns 59 % 9).toNat) (fun k σ H' => Ex5 fun (as : List Addr) (rs : List (List Str)) (z5 z8 z9 : Option V) => And4 (AP K H5 g D fl xs as rs H') (rs.length = k) (er (xs ++ [("nil" : Str)]) rs) (σ = [some (.ref a), some (.ref d), some (.ref D), some (.ref h), some (.ref sl), z5, some (.ref g), some (.ref fl), z8, z9])) ⟨[], [], z5, none, none, B1, rfl, fun r hr => by simp at hr, rfl⟩ ?_ ?_
  · rintro k σ H' hk ⟨as, rs, z5', z8, z9, B, hrl, hFs, rfl⟩
    have hal : as.length = rs.length := Paired.length B.pr
    obtain ⟨z, hz⟩ := B.dg
    obtain ⟨wd, hwd, hwm⟩ := cv [("is" : Str), "not"] (n := 2) (i := z) rfl (by decide)
    refine ⟨(show 2 ≤ sizeLine by decide), fun l3 hl3 => ?_⟩
    have B2 := B.new hl3 hgN (.lst [.str "is", .str "not"])
    have s3 := ad hl3 (.lst [.str "is", .str "not"])
    have hl3g := (B.free hl3).2.1
    refine ⟨_, rfl, g, z, 2, rfl, s3 _ _ hz, by decide, by decide +kernel, l3, _, _, .str wd, rfl, rfl, SqL.of (by rw [ah hl3g]; exact aa), hwd, ?_⟩
    have B3 := B2.dig hDg hflg (z / 2)
    have hz3 : (upd (upd H' l3 (.lst [.str "is", .str "not"])) g (.lst [.int (z / 2)])) g = some (.lst [.int (z / 2)]) := aa
    generalize upd (upd H' l3 (.lst [.str "is", .str "not"])) g (.lst [.int (z / 2)]) = H3' at B3 hz3 ⊢
    obtain ⟨w1, hw1, hm1⟩ := cv (xs ++ [("nil" : Str)]) (n := 9) (i := z / 2) hw9 (by decide)
    refine ⟨_, rfl, (show 1 ≤ sizeLine by decide), fun l6 hl6 => ?_⟩
    have s6 := ad hl6 (.lst [.str "nil"])
    have B6 := B3.new hl6 hgN (.lst [.str "nil"])
    refine ⟨D, l6, _, _, rfl, rfl, B6.ev, aa, hz8, fun l7 hl7 => ?_⟩
    rw [ews]
    have s7 := s6.trans (ad hl7 (.lst ((xs ++ [("nil" : Str)]).map V.str)))
    have B7 := B6.new hl7 hgN (.lst ((xs ++ [("nil" : Str)]).map V.str))
    have hl7g := (B6.free hl7).2.1
    have B8 := B7.dig hDg hflg (z / 2 / 9)
    refine ⟨_, rfl, g, z / 2, 9, rfl, s7 _ _ hz3, by decide, by decide +kernel, l7, _, _, .str w1, rfl, rfl, SqL.of (by rw [ah hl7g]; exact aa), hw1, ?_⟩
    have hz8' : (upd (upd (upd H3' l6 (.lst [.str "nil"])) l7 (.lst ((xs ++ [("nil" : Str)]).map V.str))) g (.lst [.int (z / 2 / 9)])) g = some (.lst [.int (z / 2 / 9)]) := aa
    generalize upd (upd (upd H3' l6 (.lst [.str "nil"])) l7 (.lst ((xs ++ [("nil" : Str)]).map V.str))) g (.lst [.int (z / 2 / 9)]) = H8 at B8 hz8' ⊢
    obtain ⟨w2, hw2, hm2⟩ := cv (xs ++ [("nil" : Str)]) (n := 9) (i := z / 2 / 9) hw9 (by decide)
    refine ⟨_, rfl, .inl ⟨rfl, _, SqL.of B8.l⟩, _, rfl, _, rfl, _, rfl, (show 1 ≤ sizeLine by decide), fun k6 hk6 => ?_⟩
    have s6 := ad hk6 (.lst [.str "nil"])
    have B6 := B8.new hk6 hgN (.lst [.str "nil"])
    refine ⟨D, k6, _, _, rfl, rfl, B6.ev, aa, hz8, fun k7 hk7 => ?_⟩
    rw [ews]
    have s7 := s6.trans (ad hk7 (.lst ((xs ++ [("nil" : Str)]).map V.str)))
    have B7 := B6.new hk7 hgN (.lst ((xs ++ [("nil" : Str)]).map V.str))
    have hk7g := (B6.free hk7).2.1
    have B9 := B7.dig hDg hflg (z / 2 / 9 / 9)
    refine ⟨_, rfl, g, z / 2 / 9, 9, rfl, s7 _ _ hz8', by decide, by decide +kernel, k7, _, _, .str w2, rfl, rfl, SqL.of (by rw [ah hk7g]; exact aa), hw2, ?_⟩
    generalize upd (upd (upd H8 k6 (.lst [.str "nil"])) k7 (.lst ((xs ++ [("nil" : Str)]).map V.str))) g (.lst [.int (z / 2 / 9 / 9)]) = H9 at B9 ⊢
    refine ⟨(show 3 ≤ sizeLine by decide), fun t ht => ?_⟩
    have s3 := ad ht (.tup [.str wd, .str w1, .str w2])
    have B2 := B9.new ht hgN (.tup [.str wd, .str w1, .str w2])
    refine ⟨fl, _, .ref t, rfl, rfl, B2.l, ?_, ?_⟩
    · rw [List.length_map]; exact Nat.lt_of_le_of_lt (show as.length ≤ 1000 by lia) (by decide)
    obtain ⟨y, hy⟩ := B2.dg
    refine ⟨as ++ [t], rs ++ [[wd, w1, w2]], _, _, _, ⟨B2.kp.put (.inr hfl) _, ⟨y, by rw [ah (Ne.symm hflg)]; exact hy⟩, by rw [ah hDfl]; exact B2.ev, by rw [aa, List.map_append]; rfl, ?_⟩, by rw [List.length_append, hrl]; rfl, fun r hr => ?_, rfl⟩
    · exact Paired.snocP (Paired.mapP B2.pr fun _ _ z => cq B2.l z) (cq B2.l (SqT.of aa))
    · rcases List.mem_append.mp hr with h | h
      · exact hFs r h
      · simp only [List.mem_cons, List.not_mem_nil, or_false] at h hwm
        exact ⟨wd, w1, w2, h, hwm, hm1, hm2⟩
  rintro σ H7 ⟨as, rs, z5', z8, z9, B, hrl, hFs, rfl⟩
  have k7 : Kp (· = g) H5 H7 := B.kp
  have e7 : Kp (· = d) H H7 := (e4.trans (s5.kp _)).drop k7 hg0
  have hD7 : H7 d = some (.dK (dv m4)) := k7 _ _ (s5 _ _ hD4) (fun z => by have z' : d = g := z; rw [z'] at hD4; rw [hD4] at hg; cases hg)
  have hSa7 : SqL K H7 a (ns.map V.int) := SqL.kpD hS (fun c z => by have z' : c = d := z; rw [z']; exact ⟨_, hD⟩) e7
  have hh7 : H7 h = some (.dK (hv hp)) := k7 _ _ (s5 _ _ hh4) (fun z => by have z' : h = g := z; rw [z'] at hh4; rw [hh4] at hg; cases hg)
  have hok7 : CellsOk K H7 hp := (hok4.same s5).kp (S := (· = g)) (fun b z => by have z' : b = g := z; rw [z']; exact .inl ⟨_, hG5⟩) k7
  refine ⟨_, rfl, _, rfl, _, rfl, a, ns, 60, rfl, hSa7, (show 1 ≤ sizeLine by decide), fun g2 hg2 => ?_⟩
  have s8 := ad hg2 (.lst [.int (ap ns 60)])
  have hfr7 : ∀ c, c = d → H7 c ≠ none := fun c z => by rw [z, hD7]; simp
  refine ⟨_, rfl, g2, D, _, xs, rfl, aa, s8 _ _ B.ev, hx8, Ne.symm (aj B.ev hg2), fun pl pas ps H9 k9 hpl0 hpl hpp hp6 hpo => ?_⟩
  have k79 : Kp (· = g2) H7 H9 := (s8.kp _).trans k9
  have nm : ∀ b o, H7 b = some o → H9 b = some o := fun b o hb => k79 b o hb fun z => by have z' : b = g2 := z; rw [z', hg2] at hb; cases hb
  have hpl7 : H7 pl = none := s8.free hpl0
  refine ⟨(show 3 ≤ sizeLine by decide), fun t3 ht3 => ?_⟩
  have s10 := (show Same H7 H9 from nm).trans (ad ht3 (.tup [.ref h, .ref fl, .ref pl]))
  have s11 := ad ht3 (.tup [.ref h, .ref fl, .ref pl])
  refine q t3 h fl pl xs m4 hp rs ps _ (e7.trans (s10.kp _)) hH0 hfl0 (e7.free hpl7 hfr7) aa (s10 _ _ hD7) (by rw [show (8 : Int).toNat = 8 from rfl] at hml; lia) hx8 hxn hin4 hz4 ⟨s10 _ _ hh7, hok7.same s10, hnd, by lia, ⟨as, s10 _ _ B.l, Paired.mapP B.pr fun _ _ z => s10.seqT z⟩, ⟨pas, s11 _ _ hpl, Paired.mapP hpp fun _ _ z => s11.seqT z⟩, hFs, hpo, by lia, hp6⟩ (fun z => by have := B.l; rw [← z, hh7] at this; cases this) (fun z => by rw [z, hpl7] at hh7; cases hh7) (fun z => by have := B.l; rw [z, hpl7] at this; cases this)
end
end K13
namespace K13
open PySem PySem.Spec L2 Mir
noncomputable abbrev jg : Stmt := top 26
noncomputable abbrev n9 : Stmt := top 27
noncomputable abbrev sRow : Stmt := top 28
theorem j6 {X : Cx} : cw X (.type "int") (fun xs H Q => ∃ b : Bool, xs = [.bl b] ∧ Q (.int (if b = true then 1 else 0)) H) := by
  intro pins s σ H xs us Q I r h
  obtain ⟨b, rfl, q⟩ := h
  obtain ⟨u, rfl, ru⟩ := r.one
  cases ru
  exact PySem.call_int_bool ⟨.int _, H, I.tok _, ⟨_, rfl⟩, q⟩
theorem a4d {c : TT} {tb : TS} {D : Ends} {σ : St} {H : Hp} (Pv : Nat → St → Hp → Prop) {m0 : Nat} (h0 : Pv m0 σ H)
    (hs : ∀ m σ H, Pv m σ H → c σ H fun b H1 => if b = true then tb { D with nx := fun σ' H' => ∃ m', m' < m ∧ Pv m' σ' H', ct := fun σ' H' => ∃ m', m' < m ∧ Pv m' σ' H', bk := D.nx } σ H1 else D.nx σ H1)
    (mono : ∀ σ H Q Q', (∀ b H1, Q b H1 → Q' b H1) → c σ H Q → c σ H Q') : pj c tb D σ H := by
  refine ⟨Pv, ⟨_, h0⟩, ?_⟩
  intro m σ H p
  refine mono σ H _ _ (fun b H1 q => ?_) (hs m σ H p)
  cases b with
  | true => exact ⟨_, fun σ' H' ⟨m', l, p'⟩ => ⟨m', l, p'⟩, q⟩
  | false => exact q
theorem x5 {n l : Nat} (h : n < l) : seqIndex? (n : Int) l = some n := by
  unfold seqIndex?
  simp
  lia
theorem ff {α : Type} {l : List α} (h : l.Nodup) {i j : Nat} (hi : i < l.length) (hj : j < l.length) (e : l[i] = l[j]) : i = j := by
  have p := List.pairwise_iff_getElem.mp h
  rcases Nat.lt_trichotomy i j with z | z | z
  · exact absurd e (p i j hi hj z)
  · exact z
  · exact absurd e.symm (p j i hj hi z)
theorem mf {α β : Type} (g : α → β) : ∀ (l : List α) (j : Nat), (l.map g).eraseIdx j = (l.eraseIdx j).map g
  | [], _ => rfl
  | x :: l, 0 => rfl
  | x :: l, j + 1 => by simp only [List.map_cons, List.eraseIdx_cons_succ, mf g l j]
section
variable {P : Program} {w : World} {K : PySem.W.Frag} {mg : Str → Option Value} {base : Heap} {f : Addr} {fd : FuncData}
theorem scNames : FnScope ["_law_base", "_law_place", "_law_many", "_law_some", "_law_more", "_law_long", "_law_at", "_law_names_here", "_law_k", "_law_name_here", "_law_j", "_law_turn", "_law_number_here"] ["_law_base", "_law_place", "_law_many"] (ak jg) := ⟨rfl, rfl, rfl, by decide +kernel, rfl, by decide +kernel, by decide +kernel⟩
theorem scTree : FnScope ["_law_xs", "_law_spots", "_law_heap", "_law_free", "_law_rows", "_law_k", "_law_above", "_law_side"] ["_law_xs", "_law_spots", "_law_heap"] (ak n9) := ⟨rfl, rfl, rfl, by decide +kernel, rfl, by decide +kernel, by decide +kernel⟩
end
end K13
namespace K13
open PySem PySem.Spec L2 Mir
theorem lv (l : List Int) : PyData.eqv (.list (l.map PyData.int)) (.list []) = l.isEmpty := by
  cases l with
  | nil => rfl
  | cons x l => rfl
section
variable {P : Program} {w : World} {K : PySem.W.Frag} {mg : Str → Option Value} {base : Heap} {f : Addr} {fd : FuncData}
theorem scRow : FnScope ["_law_heap", "_law_top", "_law_row_here", "_law_coming", "_law_here"] ["_law_heap", "_law_top"] (ak sRow) := ⟨rfl, rfl, rfl, by decide +kernel, rfl, by decide +kernel, by decide +kernel⟩
end
end K13
namespace K13
open PySem PySem.Spec L2 Mir
noncomputable abbrev nb : Stmt := top 29
theorem fm {xs : List Int} {i : Int} {j : Nat} (e : i = (j : Int)) (h1 : j < xs.length) : atI (xs.map V.int) i = some (.int xs[j]) := by
  rw [e]; exact bu (by rw [List.getElem?_map, List.getElem?_eq_getElem h1]; rfl)
theorem sf (xs : List Int) (n : Nat) (hn : n ≤ xs.length) : cutV (xs.map V.int) none (some (n : Int)) = (xs.take n).map V.int := by
  unfold cutV
  rw [HT.sIx_nat, HT.sIx_none, List.length_map, Nat.min_eq_left hn, List.drop_zero, Nat.sub_zero, List.map_take]
theorem a02 (xs : List Int) (n : Nat) (hn : n ≤ xs.length) : cutV (xs.map V.int) (some (n : Int)) none = (xs.drop n).map V.int := by
  unfold cutV
  rw [HT.sIx_nat, HT.sIx_none, List.length_map, Nat.min_eq_left hn, List.map_drop]
  exact List.take_of_length_le (by rw [List.length_drop, List.length_map]; exact Nat.le_refl _)
theorem dget {H : Hp} {d : Addr} {m : List (Str × Int)} {x : Str} (hD : H d = some (.dK (dv m))) (h : (lkI m x).isSome = true) : ∃ v, lkI m x = some v ∧ DGet H d (.str x) (some (.int v)) := by
  obtain ⟨v, hv⟩ := Option.isSome_iff_exists.mp h
  have g := DGet.k (k := Sum.inr x) hD
  rw [et, hv] at g
  exact ⟨v, hv, g⟩
theorem u7 {m : List (Str × Int)} {x : Str} {v : Int} {y : Str} (h : (lkI m y).isSome = true) : (lkI (putM m x v) y).isSome = true := by
  rw [d8]
  split
  · rfl
  · exact h
inductive tTopS (D : Ends) (σ : St) (H : Hp) : Prop
  | mk (d : Addr) (m : List (Str × Int)) (x : Str) (n : Nat) (h0 : σ[11]? = some (some (.int (n : Int)))) (h1 : σ[3]? = some (some (.ref d))) (h2 : σ[7]? = some (some (.str x))) (h3 : H d = some (.dK (dv m))) (h4 : m.length ≤ 200) (h5 : ∀ H2 m2, ((H2 = H ∧ m2 = m ∧ n ≠ 0) ∨ (H2 = upd H d (.dK (dv (putM m x 0))) ∧ m2 = putM m x 0 ∧ n = 0)) → D.nx σ H2) : tTopS D σ H
noncomputable def tTop : TS := fun D σ H => tTopS D σ H
section
variable {P : Program} {w : World} {K : PySem.W.Frag} {mg : Str → Option Value} {base : Heap} {f gS gT gR : Addr} {fd dS dT dR : FuncData}
theorem scLaid : FnScope ["_law_cell", "_law_k", "_law_names_here", "_law_values", "_law_heap", "_law_spots", "_law_xs", "_law_name_here", "_law_ends", "_law_first", "_law_second", "_law_many", "_law_end", "_law_row_here", "_law_j"] ["_law_cell", "_law_k", "_law_names_here", "_law_values", "_law_heap", "_law_spots"] (ak nb) := ⟨rfl, rfl, rfl, by decide +kernel, rfl, by decide +kernel, by decide +kernel⟩
end
end K13
namespace K13
open PySem PySem.Spec L2 Mir
noncomputable abbrev js : Stmt := top 30
noncomputable abbrev ii : Stmt := top 31
section
variable {P : Program} {w : World} {K : PySem.W.Frag} {mg : Str → Option Value} {base : Heap} {f gC gL : Addr} {fd dC dL : FuncData}
theorem scFactsL : FnScope ["_law_script", "_law_names_here", "_law_values", "_law_facts_here", "_law_cell", "_law_one", "_law_other"] ["_law_script", "_law_names_here", "_law_values"] (ak ii) := ⟨rfl, rfl, rfl, by decide +kernel, rfl, by decide +kernel, by decide +kernel⟩
end
end K13
namespace K13
open PySem PySem.Spec L2 Mir
theorem a1n (xs : List Int) (a b : Nat) (ha : a ≤ xs.length) (hb : b ≤ xs.length) (hab : a ≤ b) : cutV (xs.map V.int) (some (a : Int)) (some (b : Int)) = ((xs.drop a).take (b - a)).map V.int := by
  unfold cutV
  rw [HT.sIx_nat, HT.sIx_nat, List.length_map, Nat.min_eq_left ha, Nat.min_eq_left hb, List.map_take, List.map_drop]
noncomputable def a3e (t : TS) : TS := fun D σ H => t { D with nx := fun σ' H' => ∀ τ, τ = σ' → D.nx τ H' } σ H
theorem jv {X : Cx} {st : Stmt} {t : TS} (h : QS X st t) : QS X st (a3e t) := cu h fun D σ H h => by
  have e : (fun σ' H' => ∀ τ, τ = σ' → D.nx τ H') = D.nx := by
    funext σ' H'
    exact propext ⟨fun h => h _ rfl, fun h τ e => e ▸ h⟩
  unfold a3e at h
  rw [e] at h
  exact h
section
variable {P : Program} {w : World} {K : PySem.W.Frag} {mg : Str → Option Value} {base : Heap} {f gC gL : Addr} {fd dC dL : FuncData}
theorem scBuilt : FnScope ["_law_script", "_law_names_here", "_law_values", "_law_heap", "_law_cell", "_law_step", "_law_base", "_law_spots", "_law_k", "_law_parts", "_law_rows", "_law_part", "_law_row_here"] ["_law_script", "_law_names_here", "_law_values", "_law_heap"] (ak js) := ⟨rfl, rfl, rfl, by decide +kernel, rfl, by decide +kernel, by decide +kernel⟩
end
end K13
namespace K13
open PySem PySem.Spec L2 Mir
noncomputable abbrev nu : Stmt := top 32
theorem qe {X : Cx} {i j l : Nat} {x y z : Str} {px py pz pos : Pos} {k : Nat} (h1 : QG X (.Name x px) (du i)) (h2 : QG X (.Name y py) (du j)) (h3 : QG X (.Name z pz) (du l)) (hc : X.calm = true := by rfl)
    (a1 : (assignEach [.Name x px, .Name y py, .Name z pz] X.env).map (·.2) = assign (.Name x px) X.env :: (assignEach [.Name y py, .Name z pz] X.env).map (·.2) := by rfl) (a2 : (assignEach [.Name y py, .Name z pz] X.env).map (·.2) = assign (.Name y py) X.env :: (assignEach [.Name z pz] X.env).map (·.2) := by rfl) (a3 : (assignEach [.Name z pz] X.env).map (·.2) = assign (.Name z pz) X.env :: (assignEach [] X.env).map (·.2) := by rfl)
    (hn : (assignEach [.Name x px, .Name y py, .Name z pz] X.env).length = 3 := by rfl) (hst : (assignEach [.Name x px, .Name y py, .Name z pz] X.env).findIdx? (·.1) = none := by rfl) : QG X (.Tuple [.Name x px, .Name y py, .Name z pz] k pos) (gTup X.K 3 (o3 (du i) (o3 (du j) (o3 (du l) gNil)))) :=
  ⟨a0o hc (ij h1.run (ij h2.run (ij h3.run wz a3) a2) a1) hn hst⟩
theorem la {rs : List (List Str)} (h : ∀ r ∈ rs, ∀ y ∈ r, Ok y) : EqOk (.list (rs.map dRow)) := by
  have h1 : ∀ r : List Str, (∀ y ∈ r, Ok y) → PyData.canLayAll0 (mz r) = true := fun r h => by
    unfold mz
    induction r with
    | nil => simp only [List.map_nil, PyData.canLayAll0]
    | cons x l ih =>
      simp only [List.map_cons, PyData.canLayAll0, Bool.and_eq_true]
      exact ⟨h x (List.mem_cons_self ..), ih fun y hy => h y (List.mem_cons_of_mem _ hy)⟩
  have h2 : ∀ r : List Str, PyData.depthAll (mz r) ≤ 0 := fun r => by
    unfold mz
    induction r with
    | nil => simp only [List.map_nil, PyData.depthAll]; exact Nat.le_refl _
    | cons x l ih => simp only [List.map_cons, PyData.depthAll, PyData.depth]; exact Nat.max_le.mpr ⟨Nat.le_refl _, ih⟩
  have h3 : ∀ rs : List (List Str), (∀ r ∈ rs, ∀ y ∈ r, Ok y) → PyData.canLayAll0 (rs.map dRow) = true := fun rs h => by
    induction rs with
    | nil => simp only [List.map_nil, PyData.canLayAll0]
    | cons r l ih =>
      simp only [List.map_cons, PyData.canLayAll0, Bool.and_eq_true, dRow, PyData.canLay0]
      exact ⟨h1 r (h r (List.mem_cons_self ..)), ih fun r' hr' => h r' (List.mem_cons_of_mem _ hr')⟩
  have h4 : ∀ rs : List (List Str), PyData.depthAll (rs.map dRow) ≤ 1 := fun rs => by
    induction rs with
    | nil => simp only [List.map_nil, PyData.depthAll]; lia
    | cons r l ih =>
      have := h2 r
      simp only [List.map_cons, PyData.depthAll, dRow, PyData.depth]
      lia
  constructor
  · simp only [PyData.canLay0]
    exact h3 rs h
  · have := h4 rs
    simp only [PyData.depth]
    lia
noncomputable def FactOf (xs : List Str) (r : List Str) : Prop := ∃ k u v : Str, r = [k, u, v] ∧ (k = "is" ∨ k = "not") ∧ u ∈ xs ∧ v ∈ xs
theorem mx {K : PySem.W.Frag} {H : Hp} {W : List Str → Prop} : ∀ {as : List Addr}, (∀ c ∈ as, ∃ r, RowAt K H c r ∧ W r) → ∃ rs, Paired (fun b r => RowAt K H b r) as rs ∧ ∀ r ∈ rs, W r
  | [], _ => ⟨[], .nil, fun r hr => by simp at hr⟩
  | c :: as, h => by
    obtain ⟨r, h1, h2⟩ := h c (List.mem_cons_self ..)
    obtain ⟨rs, h3, h4⟩ := mx (as := as) fun c' hc => h c' (List.mem_cons_of_mem _ hc)
    exact ⟨r :: rs, .cons h1 h3, fun r' hr' => by
      rcases List.mem_cons.mp hr' with rfl | z
      · exact h2
      · exact h4 r' z⟩
theorem qo {K : PySem.W.Frag} {H : Hp} {W : List Str → Prop} : ∀ {as : List Addr} {rs : List (List Str)}, Paired (fun b r => RowAt K H b r) as rs → (∀ r ∈ rs, W r) → ∀ c ∈ as, ∃ r, RowAt K H c r ∧ W r
  | _, _, .nil, _, c, hc => by simp at hc
  | _, _, .cons h t, hw, c, hc => by
    rcases List.mem_cons.mp hc with rfl | z
    · exact ⟨_, h, hw _ (List.mem_cons_self ..)⟩
    · exact qo t (fun r hr => hw r (List.mem_cons_of_mem _ hr)) c z
theorem tm {xs : List Str} (hx : ∀ x ∈ xs, NameG x) : ∀ y ∈ xs ++ [("nil" : Str)], Ok y := fun y hy => by
  rcases List.mem_append.mp hy with h | h
  · exact (hx y h).ok
  · have : y = "nil" := by simpa using h
    rw [this]; exact (by decide +kernel : (PyData.str "nil").canLay0 = true)
theorem PartOf.ok {ws r : List Str} (h : PartOf ws r) (hw : ∀ y ∈ ws, Ok y) : ∀ y ∈ r, Ok y := by
  have ha : ∀ y, (y ∈ ws ∨ y = "any") → Ok y := fun y h => by
    rcases h with h | h
    · exact hw y h
    · rw [h]; exact (by decide +kernel : (PyData.str "any").canLay0 = true)
  rcases h with ⟨a, f, s, rfl, h1, h2, h3⟩ | ⟨a, b, rfl, h1, h2⟩ | ⟨a, rfl, h1⟩
  · intro y hy
    simp only [List.mem_cons, List.not_mem_nil, or_false] at hy
    rcases hy with rfl | rfl | rfl | rfl
    · exact (by decide +kernel : (PyData.str "cell").canLay0 = true)
    · exact hw _ h1
    · exact ha _ h2
    · exact ha _ h3
  · intro y hy
    simp only [List.mem_cons, List.not_mem_nil, or_false] at hy
    rcases hy with rfl | rfl | rfl
    · exact (by decide +kernel : (PyData.str "stretch").canLay0 = true)
    · exact hw _ h1
    · exact hw _ h2
  · intro y hy
    simp only [List.mem_cons, List.not_mem_nil, or_false] at hy
    rcases hy with rfl | rfl
    · exact (by decide +kernel : (PyData.str "tree").canLay0 = true)
    · exact hw _ h1
theorem FactOf.ok {ws r : List Str} (h : FactOf ws r) (hw : ∀ y ∈ ws, Ok y) : ∀ y ∈ r, Ok y := by
  obtain ⟨k, u, v, rfl, hk, h1, h2⟩ := h
  intro y hy
  simp only [List.mem_cons, List.not_mem_nil, or_false] at hy
  rcases hy with rfl | rfl | rfl
  · rcases hk with rfl | rfl
    · exact (by decide +kernel : (PyData.str "is").canLay0 = true)
    · exact (by decide +kernel : (PyData.str "not").canLay0 = true)
  · exact hw _ h1
  · exact hw _ h2
theorem t7 (l : List PyData) : PyData.eqv (.list l) (.list []) = l.isEmpty := by
  cases l with
  | nil => rfl
  | cons x l => rfl
noncomputable def RowsIn (K : PySem.W.Frag) (Hc : Hp) (W : List Str → Prop) (l : Addr) (n : Nat) : Prop := ∃ as : List Addr, Hc l = some (.lst (as.map V.ref)) ∧ as.length ≤ n ∧ ∀ c ∈ as, ∃ r, RowAt K Hc c r ∧ W r
structure BI (K : PySem.W.Frag) (H0 : Hp) (nl fl pl h : Addr) (xs : List Str) (a b : Nat) (Hc : Hp) : Prop where
  kp : Kp (fun c => c = fl ∨ c = pl ∨ c = h) H0 Hc
  nl : Hc nl = some (.lst (xs.map V.str))
  facts : RowsIn K Hc (FactOf (xs ++ [("nil" : Str)])) fl 8
  parts : RowsIn K Hc (PartOf (xs ++ [("nil" : Str)])) pl a
  heap : ∃ hp, Hc h = some (.dK (hv hp)) ∧ CellsOk K Hc hp ∧ (hp.map (·.1)).Nodup ∧ hp.length ≤ b
structure BD (nl fl pl h : Addr) : Prop where
  hf : h ≠ fl
  hp : h ≠ pl
  fp : fl ≠ pl
  nf : nl ≠ fl
  np : nl ≠ pl
  nh : nl ≠ h
theorem RowsIn.mono {K : PySem.W.Frag} {H H' : Hp} {W : List Str → Prop} {l : Addr} {n : Nat} (h : RowsIn K H W l n) (hl : ∀ xs, H l = some (.lst xs) → H' l = some (.lst xs)) (hs : ∀ c xs, SqT K H c xs → SqT K H' c xs) : RowsIn K H' W l n := by
  obtain ⟨as, h1, h2, h3⟩ := h
  exact ⟨as, hl _ h1, h2, fun c hc => by obtain ⟨r, h4, h5⟩ := h3 c hc; exact ⟨r, hs _ _ h4, h5⟩⟩
theorem BI.new {K : PySem.W.Frag} {H0 : Hp} {nl fl pl h : Addr} {xs : List Str} {a b : Nat} {Hc H' : Hp} (B : BI K H0 nl fl pl h xs a b Hc) (s : Same Hc H') : BI K H0 nl fl pl h xs a b H' := by
  obtain ⟨hp, h1, h2, h3⟩ := B.heap
  exact ⟨B.kp.trans (s.kp _), s _ _ B.nl, B.facts.mono (fun _ z => s _ _ z) (fun _ _ z => s.seqT z), B.parts.mono (fun _ z => s _ _ z) (fun _ _ z => s.seqT z), hp, s _ _ h1, h2.same s, h3⟩
theorem BI.pput {K : PySem.W.Frag} {H0 : Hp} {nl fl pl h : Addr} {xs : List Str} {a a' b : Nat} {Hc : Hp} (B : BI K H0 nl fl pl h xs a b Hc) (d : BD nl fl pl h) (as : List Addr) (hl : as.length ≤ a') (hr : ∀ c ∈ as, ∃ r, RowAt K Hc c r ∧ PartOf (xs ++ [("nil" : Str)]) r) : BI K H0 nl fl pl h xs a' b (upd Hc pl (.lst (as.map V.ref))) := by
  obtain ⟨hp, h1, h2, h3⟩ := B.heap
  obtain ⟨as0, p1, _⟩ := B.parts
  refine ⟨B.kp.put (.inl (.inr (.inl rfl))) _, by rw [ah d.np]; exact B.nl, B.facts.mono (fun _ z => by rw [ah d.fp]; exact z) (fun _ _ z => cq p1 z), ⟨as, aa, hl, fun c hc => ?_⟩, hp, by rw [ah d.hp]; exact h1, h2.lput p1, h3⟩
  obtain ⟨r, h4, h5⟩ := hr c hc
  exact ⟨r, cq p1 h4, h5⟩
theorem BI.fput {K : PySem.W.Frag} {H0 : Hp} {nl fl pl h : Addr} {xs : List Str} {a b : Nat} {Hc : Hp} (B : BI K H0 nl fl pl h xs a b Hc) (d : BD nl fl pl h) (as : List Addr) (hl : as.length ≤ 8) (hr : ∀ c ∈ as, ∃ r, RowAt K Hc c r ∧ FactOf (xs ++ [("nil" : Str)]) r) : BI K H0 nl fl pl h xs a b (upd Hc fl (.lst (as.map V.ref))) := by
  obtain ⟨hp, h1, h2, h3⟩ := B.heap
  obtain ⟨as0, p1, _⟩ := B.facts
  refine ⟨B.kp.put (.inl (.inl rfl)) _, by rw [ah d.nf]; exact B.nl, ⟨as, aa, hl, fun c hc => ?_⟩, B.parts.mono (fun _ z => by rw [ah (Ne.symm d.fp)]; exact z) (fun _ _ z => cq p1 z), hp, by rw [ah d.hf]; exact h1, h2.lput p1, h3⟩
  obtain ⟨r, h4, h5⟩ := hr c hc
  exact ⟨r, cq p1 h4, h5⟩
theorem BI.hput {K : PySem.W.Frag} {H0 : Hp} {nl fl pl h : Addr} {xs : List Str} {a b b' : Nat} {Hc : Hp} (B : BI K H0 nl fl pl h xs a b Hc) (d : BD nl fl pl h) (hp : List (Int × Addr)) (hok : CellsOk K Hc hp) (hnd : (hp.map (·.1)).Nodup) (hl : hp.length ≤ b') : BI K H0 nl fl pl h xs a b' (upd Hc h (.dK (hv hp))) := by
  obtain ⟨hp0, h1, h2, h3⟩ := B.heap
  exact ⟨B.kp.put (.inl (.inr (.inr rfl))) _, by rw [ah d.nh]; exact B.nl, B.facts.mono (fun _ z => by rw [ah (Ne.symm d.hf)]; exact z) (fun _ _ z => ef h1 z), B.parts.mono (fun _ z => by rw [ah (Ne.symm d.hp)]; exact z) (fun _ _ z => ef h1 z), hp, aa, hok.dput h1, hnd, hl⟩
noncomputable def tBI (K : PySem.W.Frag) (H0 : Hp) (nl fl pl h : Addr) (xs : List Str) (c : Int) (a b a' b' : Nat) : TS := fun D σ H => ∃ z7 z8 z9 z10, σ = [some (.int c), some (.ref nl), some (.ref fl), some (.ref pl), some (.ref h), some (.int (c % 9)), some (.int (c / 9)), z7, z8, z9, z10] ∧ BI K H0 nl fl pl h xs a b H ∧ ∀ z7 z8 z9 z10 H2, BI K H0 nl fl pl h xs a' b' H2 → D.nx [some (.int c), some (.ref nl), some (.ref fl), some (.ref pl), some (.ref h), some (.int (c % 9)), some (.int (c / 9)), z7, z8, z9, z10] H2
inductive spBentS (K : PySem.W.Frag) (vs : List V) (H : Hp) (Q : VK) : Prop
  | mk (c : Int) (nl fl pl h : Addr) (xs : List Str) (h0 : vs = [.int c, .ref nl, .ref fl, .ref pl, .ref h]) (h1 : xs.length = 8) (h2 : (∀ x ∈ xs, NameG x)) (h3 : BD nl fl pl h) (h4 : BI K H nl fl pl h xs 5 59 H) (h5 : ∀ H', BI K H nl fl pl h xs 6 60 H' → Q .non H') : spBentS K vs H Q
noncomputable def a0x (K : PySem.W.Frag) : Sp := fun vs H Q _ => spBentS K vs H Q
theorem BI.le {K : PySem.W.Frag} {H0 : Hp} {nl fl pl h : Addr} {xs : List Str} {a a' b b' : Nat} {Hc : Hp} (B : BI K H0 nl fl pl h xs a b Hc) (ha : a ≤ a') (hb : b ≤ b') : BI K H0 nl fl pl h xs a' b' Hc := by
  obtain ⟨hp, h1, h2, h3, h4⟩ := B.heap
  obtain ⟨as, p1, p2, p3⟩ := B.parts
  exact ⟨B.kp, B.nl, B.facts, ⟨as, p1, by lia, p3⟩, hp, h1, h2, h3, by lia⟩
theorem ju {K : PySem.W.Frag} {σ : St} {H1 : Hp} {i : Nat} {l : Addr} {W : List Str → Prop} {n : Nat} (hσ : σ[i]? = some (some (.ref l))) (hR : RowsIn K H1 W l n) (hok : ∀ r, W r → ∀ y ∈ r, Ok y) {Q : Bool → Hp → Prop}
    (q : ∀ (H2 : Hp) (as : List Addr), Same H1 H2 → H2 l = some (.lst (as.map V.ref)) → as.length ≤ n → (∀ c ∈ as, ∃ r, RowAt K H2 c r ∧ W r) → Q (decide (0 < as.length)) H2) : sv (tOp (rNeD K) (tVar i) (tLst tNil)) σ H1 Q := by
  obtain ⟨as, hP, hal, has⟩ := hR
  obtain ⟨rs, hrs, hrw⟩ := mx has
  have hl : as.length = rs.length := Paired.length hrs
  refine ⟨_, hσ, Nat.zero_le _, fun ln hln => ?_⟩
  have s1 := ad hln (.lst [])
  refine ⟨.list (rs.map dRow), .list [], .lst (SqL.of (s1 _ _ hP)) (qm (Paired.mapP hrs fun _ _ z => s1.seqT z)), .lst (SqL.of aa) .nil, la (fun r hr => hok r (hrw r hr)), iz [], _, rfl, ?_⟩
  have := q _ as s1 (s1 _ _ hP) hal (fun c hc => by obtain ⟨r, h1, h2⟩ := has c hc; exact ⟨r, s1.seqT h1, h2⟩)
  rw [t7]
  have e : (!(rs.map dRow).isEmpty) = decide (0 < as.length) := by
    rw [hl]
    cases rs with
    | nil => rfl
    | cons r rs => simp
  rw [e]
  exact this
theorem a2l (hp : List (Int × Addr)) (z : Int) : i8 (hv hp) (Sum.inl z) = hv (hp.filter fun p => !decide (p.1 = z)) := by
  unfold i8 hv
  rw [List.filter_map]
  congr 1
  apply List.filter_congr
  intro p _
  show decide ((Sum.inl p.1 : Key) ≠ Sum.inl z) = !decide (p.1 = z)
  by_cases h : p.1 = z
  · have h2 : (Sum.inl p.1 : Key) = Sum.inl z := by rw [h]
    simp [h, h2]
  · have h2 : ¬ (Sum.inl p.1 : Key) = Sum.inl z := fun e => h (Sum.inl.inj e)
    simp [h]
theorem jx {n l : Nat} (h : n < l) : ixN l (n : Int) = some n := by
  unfold ixN
  simp
  lia
theorem ly {as : List Addr} {i : Int} (h : 0 < as.length) : ∃ j x, ∃ hj : j < as.length, as[j] = x ∧ i % (((as.map V.ref).length : Nat) : Int) = (j : Int) ∧ atI (as.map V.ref) (i % (((as.map V.ref).length : Nat) : Int)) = some (.ref x) := by
  have h0 : (0 : Int) < (((as.map V.ref).length : Nat) : Int) := by rw [List.length_map]; lia
  obtain ⟨j, hj⟩ := Int.eq_ofNat_of_zero_le (Int.emod_nonneg i (Int.ne_of_gt h0))
  have h1 := Int.emod_lt_of_pos i h0
  rw [hj, List.length_map] at h1
  have hjl : j < as.length := by lia
  exact ⟨j, as[j], hjl, rfl, hj, by rw [hj]; exact bu (by rw [List.getElem?_map, List.getElem?_eq_getElem hjl]; rfl)⟩
section
variable {P : Program} {w : World} {K : PySem.W.Frag} {mg : Str → Option Value} {base : Heap} {f : Addr} {fd : FuncData}
theorem scBent : FnScope ["_law_cell", "_law_names_here", "_law_facts_here", "_law_parts", "_law_heap", "_law_way", "_law_pick", "_law_word", "_law_one", "_law_other", "_law_part"] ["_law_cell", "_law_names_here", "_law_facts_here", "_law_parts", "_law_heap"] (ak nu) := ⟨rfl, rfl, rfl, by decide +kernel, rfl, by decide +kernel, by decide +kernel⟩
theorem a4m (C : Con K mg w) (F : Fun K "_law_bent" "_law_bent" nu f fd) : FnOk P w K mg base CX0 1 f fd ["_law_cell", "_law_names_here", "_law_facts_here", "_law_parts", "_law_heap"] (a0x K) := by
  refine F.okQ scBent (fun vs H Q E h => ?_) (fun cdv A outer s0 H vs Q E hr h => ?_)
  · obtain ⟨c, nl, fl, pl, h, xs, rfl, _⟩ := h; rfl
  obtain ⟨c, nl, fl, pl, h, xs, rfl, hx8, hxn, dis, B0, q⟩ := h
  have nd := scBent.nd
  have hu1 := dw hr
  have hu := Nat.lt_of_le_of_lt (Nat.add_le_add_left (show 32 ≤ 64 by decide) _) hr.units
  have hok := tm hxn
  refine ⟨_, ae (al (i := 5) nd rfl (Or.inl rfl) (ai b0 (qv 0) ag))
    (ae (al (i := 6) nd rfl (Or.inl rfl) (ai df (qv 0) ag))
    (ae (cu (t' := tBI K H nl fl pl h xs c 5 59 6 59) (bd (QW.qt (gw (av bn (qv 5) ag (au _)) (gb (av (neDk (K := K) rfl hu) (qv 3) (ay ac) (au _))))) (am (bi (ce (K := K) rfl PySem.F.plainAttrs_list PySem.F.slot_list_insert PySem.F.type_list_insert zw (qv 3) (cz (ai b0 (qv 6) (ai bp (b7 (dk (K := K) rfl) rfl C.len PySem.boot_len (af (qv 3) ac)) ag)) (ax (aq (ixKk (K := K) rfl) (qv 3) (ai b0 (ai df (qv 6) ag) (b7 (dk (K := K) rfl) rfl C.len PySem.boot_len (af (qv 3) ac))) (fun _ _ => rfl)) ac))))) b9) (fun D σ H1 hh => by
      obtain ⟨z7, z8, z9, z10, rfl, B, go⟩ := hh
      refine ⟨_, rfl, rfl, _, rfl, iteB (fun _ => ?_) (fun _ => go _ _ _ _ _ (B.le (by lia) (by lia)))⟩
      refine ju (K := K) (l := pl) rfl B.parts (fun r hr => hr.ok hok) fun H2 as s1 hP hal has => ?_
      have B2 := B.new s1
      refine iteB (fun c1 => ?_) (fun _ => go _ _ _ _ _ (B2.le (by lia) (by lia)))
      have hne : 0 < as.length := of_decide_eq_true c1
      have hpos : (0 : Int) < (((as.map V.ref).length : Nat) : Int) := by rw [List.length_map]; lia
      obtain ⟨j, x, hj, hjx, _, hat⟩ := ly (i := c / 9 / 7) hne
      have hpos1 : (0 : Int) < (((as.map V.ref).length : Nat) : Int) + 1 := by lia
      obtain ⟨i, hi⟩ := Int.eq_ofNat_of_zero_le (Int.emod_nonneg (c / 9) (Int.ne_of_gt hpos1))
      have hi1 := Int.emod_lt_of_pos (c / 9) hpos1
      rw [hi, List.length_map] at hi1
      have hil : i ≤ as.length := by lia
      refine ⟨_, rfl, .inl ⟨rfl, _, SqL.of hP⟩, _, rfl, _, rfl, pl, _, rfl, .inl (SqL.of hP), _, _, rfl, rfl, _, _, rfl, rfl, hpos1, _, rfl, _, rfl, _, _, rfl, rfl, (show CDiv _ 7 from ⟨by decide, by decide⟩), _, rfl, pl, _, rfl, .inl (SqL.of hP), _, _, rfl, rfl, hpos, pl, _, _, .ref x, rfl, rfl, SqL.of hP, hat, pl, _, i, .ref x, rfl, (by show [V.int (c / 9 % ((((as.map V.ref).length : Nat) : Int) + 1)), V.ref x] = _; rw [hi]), hP, (by rw [List.length_map]; exact hil), (by rw [List.length_map]; lia), ?_⟩
      have e : insV (as.map V.ref) i (.ref x) = (as.take i ++ x :: as.drop i).map V.ref := by unfold insV; rw [List.map_append, List.map_cons, List.map_take, List.map_drop]
      rw [e]
      refine go _ _ _ _ _ (B2.pput dis _ ?_ fun b hb => ?_)
      · rw [List.length_append, List.length_take, List.length_cons, List.length_drop]; lia
      · rcases List.mem_append.mp hb with h' | h'
        · exact has b (List.mem_of_mem_take h')
        · rcases List.mem_cons.mp h' with h' | h'
          · rw [h', ← hjx]; exact has _ (List.getElem_mem hj)
          · exact has b (List.mem_of_mem_drop h')))
    (ae (cu (t' := tBI K H nl fl pl h xs c 6 59 6 59) (bd (QW.qt (gw (av bn (qv 5) ag (au _)) (gb (av (neDk (K := K) rfl hu) (qv 3) (ay ac) (au _))))) (am (bi (ce (K := K) rfl PySem.F.plainAttrs_list PySem.F.slot_list_pop PySem.F.type_list_pop tz (qv 3) (cz (ai b0 (qv 6) (b7 (dk (K := K) rfl) rfl C.len PySem.boot_len (af (qv 3) ac))) ac)))) b9) (fun D σ H1 hh => by
      obtain ⟨z7, z8, z9, z10, rfl, B, go⟩ := hh
      refine ⟨_, rfl, rfl, _, rfl, iteB (fun _ => ?_) (fun _ => go _ _ _ _ _ (B.le (by lia) (by lia)))⟩
      refine ju (K := K) (l := pl) rfl B.parts (fun r hr => hr.ok hok) fun H2 as s1 hP hal has => ?_
      have B2 := B.new s1
      refine iteB (fun c1 => ?_) (fun _ => go _ _ _ _ _ (B2.le (by lia) (by lia)))
      have hne : 0 < as.length := of_decide_eq_true c1
      have hpos : (0 : Int) < (((as.map V.ref).length : Nat) : Int) := by rw [List.length_map]; lia
      obtain ⟨j, x, hj, hjx, hji, _⟩ := ly (i := c / 9) hne
      refine ⟨_, rfl, .inl ⟨rfl, _, SqL.of hP⟩, _, rfl, _, rfl, pl, _, rfl, .inl (SqL.of hP), _, _, rfl, rfl, hpos, pl, _, _, j, .ref x, rfl, rfl, hP, ?_, ?_, ?_, ?_, ?_⟩
      · show -(2 ^ 63) ≤ c / 9 % _
        rw [hji]; lia
      · show c / 9 % _ < 2 ^ 63
        rw [hji]; lia
      · show seqIndex? (c / 9 % _) _ = _
        rw [hji, List.length_map]; exact x5 hj
      · rw [List.getElem?_map, List.getElem?_eq_getElem hj, hjx]; rfl
      rw [mf]
      refine go _ _ _ _ _ (B2.pput dis _ ?_ fun b hb => has b (List.mem_of_mem_eraseIdx hb))
      have := List.length_eraseIdx_le as j
      lia))
    (ae (cu (t' := tBI K H nl fl pl h xs c 6 59 6 59) (bd (QW.qt (gw (av bn (qv 5) ag (au _)) (gb (av (neDk (K := K) rfl hu) (qv 2) (ay ac) (au _))))) (ae (fh (aq (ixKk (K := K) rfl) (qv 2) (ai b0 (qv 6) (b7 (dk (K := K) rfl) rfl C.len PySem.boot_len (af (qv 2) ac))) (fun _ _ => rfl)) (qe (ba (i := 7) nd rfl (Or.inl rfl)) (ba (i := 8) nd rfl (Or.inl rfl)) (ba (i := 9) nd rfl (Or.inl rfl))))
    (am (fh (d0 (ax (ck hu1 (a2d cb cb cb cb) (qv 7) (fun _ _ => rfl)) (af (qv 8) (af (qv 9) ac)))) (mh (qv 2) (ai b0 (qv 6) (b7 (dk (K := K) rfl) rfl C.len PySem.boot_len (af (qv 2) ac))) ir)))) b9) (fun D σ H1 hh => by
      obtain ⟨z7, z8, z9, z10, rfl, B, go⟩ := hh
      refine ⟨_, rfl, rfl, _, rfl, iteB (fun _ => ?_) (fun _ => go _ _ _ _ _ (B.le (by lia) (by lia)))⟩
      refine ju (K := K) (l := fl) rfl B.facts (fun r hr => hr.ok hok) fun H2 as s1 hP hal has => ?_
      have B2 := B.new s1
      refine iteB (fun c1 => ?_) (fun _ => go _ _ _ _ _ (B2.le (by lia) (by lia)))
      have hne : 0 < as.length := of_decide_eq_true c1
      have hpos : (0 : Int) < (((as.map V.ref).length : Nat) : Int) := by rw [List.length_map]; lia
      obtain ⟨j, x, hj, hjx, hji, hat⟩ := ly (i := c / 9) hne
      obtain ⟨r, hrow, k, u, v, rfl, hk, hu', hv'⟩ := has x (by rw [← hjx]; exact List.getElem_mem hj)
      refine ⟨_, rfl, _, rfl, _, rfl, fl, _, rfl, .inl (SqL.of hP), _, _, rfl, rfl, hpos, fl, _, _, .ref x, rfl, rfl, SqL.of hP, hat, x, _, rfl, hrow, rfl, _, _, rfl, _, _, rfl, _, _, rfl, rfl, ?_⟩
      refine fun dd hdd => ⟨aa, [(Sum.inr "is", .str "not"), (Sum.inr "not", .str "is")], rfl, (show 2 ≤ 15 by decide), ?_⟩
      rw [eu]
      have s2 := ad hdd (.dK [(Sum.inr "is", .str "not"), (Sum.inr "not", .str "is")])
      obtain ⟨w', hw', hwk⟩ : ∃ w' : Str, valV [((Sum.inr "is" : Key), V.str "not"), (Sum.inr "not", .str "is")] (Sum.inr k) = some (.str w') ∧ (w' = "is" ∨ w' = "not") := by
        rcases hk with rfl | rfl
        · exact ⟨"not", by decide +kernel, .inr rfl⟩
        · exact ⟨"is", by decide +kernel, .inl rfl⟩
      have g := DGet.k (k := Sum.inr k) (show (upd H2 dd (.dK [(Sum.inr "is", .str "not"), (Sum.inr "not", .str "is")])) dd = _ from aa)
      rw [hw'] at g
      refine ⟨_, rfl, dd, .str w', rfl, g, _, rfl, _, rfl, (show 3 ≤ sizeLine by decide), fun t ht => ?_⟩
      have s3 := s2.trans (ad ht (.tup [.str w', .str u, .str v]))
      have B3 := B2.new s3
      have hP3 := s3 _ _ hP
      refine ⟨_, rfl, _, rfl, _, rfl, fl, _, rfl, .inl (SqL.of hP3), _, _, rfl, rfl, hpos, fl, _, _, j, rfl, rfl, hP3, (by show ixN _ (c / 9 % _) = _; rw [hji, List.length_map]; exact jx hj), ?_⟩
      rw [show (as.map V.ref).set j (.ref t) = (as.set j t).map V.ref by rw [List.map_set]]
      refine go _ _ _ _ _ (B3.fput dis _ (by rw [List.length_set]; exact hal) fun b hb => ?_)
      rcases List.mem_or_eq_of_mem_set hb with h' | h'
      · obtain ⟨r, h1, h2⟩ := has b h'; exact ⟨r, s3.seqT h1, h2⟩
      · rw [h']; exact ⟨[w', u, v], SqT.of aa, w', u, v, rfl, hwk, hu', hv'⟩))
    (ae (cu (t' := tBI K H nl fl pl h xs c 6 59 6 59) (bd (QW.qt (gw (av bn (qv 5) ag (au _)) (gb (av (neDk (K := K) rfl hu) (qv 3) (ay ac) (au _))))) (ae (al (i := 10) nd rfl (Or.inl rfl) (aq (ixKk (K := K) rfl) (qv 3) (ai b0 (qv 6) (b7 (dk (K := K) rfl) rfl C.len PySem.boot_len (af (qv 3) ac))) (fun _ _ => rfl)))
    (am (fh (ai a4o (d0 (ax (aq (ixTk (K := K) rfl) (qv 10) ag (fun _ _ => rfl)) (ax (aq (ixKk (K := K) rfl) (qv 1) (ai b0 (ai df (qv 6) ag) ag) (fun _ _ => rfl)) ac))) (cn (slTk (K := K) rfl) (qv 10) (cg ag) dz)) (mh (qv 3) (ai b0 (qv 6) (b7 (dk (K := K) rfl) rfl C.len PySem.boot_len (af (qv 3) ac))) ir)))) b9) (fun D σ H1 hh => by
      obtain ⟨z7, z8, z9, z10, rfl, B, go⟩ := hh
      refine ⟨_, rfl, rfl, _, rfl, iteB (fun _ => ?_) (fun _ => go _ _ _ _ _ (B.le (by lia) (by lia)))⟩
      refine ju (K := K) (l := pl) rfl B.parts (fun r hr => hr.ok hok) fun H2 as s1 hP hal has => ?_
      have B2 := B.new s1
      refine iteB (fun c1 => ?_) (fun _ => go _ _ _ _ _ (B2.le (by lia) (by lia)))
      have hne : 0 < as.length := of_decide_eq_true c1
      have hpos : (0 : Int) < (((as.map V.ref).length : Nat) : Int) := by rw [List.length_map]; lia
      obtain ⟨j, x, hj, hjx, hji, hat⟩ := ly (i := c / 9) hne
      obtain ⟨r, hrow, hpo⟩ := has x (by rw [← hjx]; exact List.getElem_mem hj)
      obtain ⟨w', hw', hwm⟩ := cv xs (n := 8) (i := c / 9 / 7) hx8 (by decide)
      have hww : w' ∈ xs ++ [("nil" : Str)] := List.mem_append.mpr (.inl hwm)
      refine ⟨_, rfl, _, rfl, _, rfl, pl, _, rfl, .inl (SqL.of hP), _, _, rfl, rfl, hpos, pl, _, _, .ref x, rfl, rfl, SqL.of hP, hat, ?_⟩
      have put : ∀ (H3 : Hp) (p : Addr) (r' : List Str) z7 z8 z9 z10, Same H2 H3 → H3 p = some (.tup (r'.map V.str)) → PartOf (xs ++ [("nil" : Str)]) r' → D.nx [some (.int c), some (.ref nl), some (.ref fl), some (.ref pl), some (.ref h), some (.int (c % 9)), some (.int (c / 9)), z7, z8, z9, z10] (upd H3 pl (.lst ((as.map V.ref).set j (.ref p)))) := fun H3 p r' z7 z8 z9 z10 s3 hp3 ho => by
        rw [show (as.map V.ref).set j (.ref p) = (as.set j p).map V.ref by rw [List.map_set]]
        refine go _ _ _ _ _ ((B2.new s3).pput dis _ (by rw [List.length_set]; exact hal) fun b hb => ?_)
        rcases List.mem_or_eq_of_mem_set hb with h' | h'
        · obtain ⟨r, h1, h2⟩ := has b h'; exact ⟨r, s3.seqT h1, h2⟩
        · rw [h']; exact ⟨r', SqT.of hp3, ho⟩
      rcases hpo with ⟨a', f', s', rfl, _, hf', hs'⟩ | ⟨a', b', rfl, _, hb'⟩ | ⟨a', rfl, _⟩
      · refine ⟨_, rfl, x, _, 0, .str "cell", rfl, rfl, hrow, rfl, _, rfl, _, rfl, _, _, rfl, rfl, (show CDiv _ 7 from ⟨by decide, by decide⟩), _, _, rfl, rfl, (show (0 : Int) < 8 by decide), nl, _, _, .str w', rfl, rfl, SqL.of B2.nl, hw', (show 2 ≤ sizeLine by decide), fun t1 ht1 => ?_⟩
        have s2 := ad ht1 (.tup [.str "cell", .str w'])
        refine ⟨_, rfl, _, rfl, x, _, rfl, s2.seqT hrow, (fun z => absurd z.1 (by show ¬ HT.sIx 4 0 (some 2) = 0; decide)), fun t2 ht2 => ?_⟩
        have s3 := s2.trans (ad ht2 (.tup [.str f', .str s']))
        refine ⟨t1, t2, _, _, rfl, rfl, SqT.of (ad ht2 _ _ _ aa), SqT.of aa, by simp, (show 2 + 2 ≤ sizeLine by decide), (fun z => by cases z), fun _ p hp => ?_⟩
        have s4 := s3.trans (ad hp (.tup ([("cell" : Str), w', f', s'].map V.str)))
        have hP4 := s4 _ _ hP
        refine ⟨_, rfl, _, rfl, _, rfl, pl, _, rfl, .inl (SqL.of hP4), _, _, rfl, rfl, hpos, pl, _, _, j, rfl, rfl, hP4, (by show ixN _ (c / 9 % _) = _; rw [hji, List.length_map]; exact jx hj), ?_⟩
        exact put _ p [("cell" : Str), w', f', s'] _ _ _ _ s4 aa (.inl ⟨_, _, _, rfl, hww, hf', hs'⟩)
      · refine ⟨_, rfl, x, _, 0, .str "stretch", rfl, rfl, hrow, rfl, _, rfl, _, rfl, _, _, rfl, rfl, (show CDiv _ 7 from ⟨by decide, by decide⟩), _, _, rfl, rfl, (show (0 : Int) < 8 by decide), nl, _, _, .str w', rfl, rfl, SqL.of B2.nl, hw', (show 2 ≤ sizeLine by decide), fun t1 ht1 => ?_⟩
        have s2 := ad ht1 (.tup [.str "stretch", .str w'])
        refine ⟨_, rfl, _, rfl, x, _, rfl, s2.seqT hrow, (fun z => absurd z.1 (by show ¬ HT.sIx 3 0 (some 2) = 0; decide)), fun t2 ht2 => ?_⟩
        have s3 := s2.trans (ad ht2 (.tup [.str b']))
        refine ⟨t1, t2, _, _, rfl, rfl, SqT.of (ad ht2 _ _ _ aa), SqT.of aa, by simp, (show 2 + 1 ≤ sizeLine by decide), (fun z => by cases z), fun _ p hp => ?_⟩
        have s4 := s3.trans (ad hp (.tup ([("stretch" : Str), w', b'].map V.str)))
        have hP4 := s4 _ _ hP
        refine ⟨_, rfl, _, rfl, _, rfl, pl, _, rfl, .inl (SqL.of hP4), _, _, rfl, rfl, hpos, pl, _, _, j, rfl, rfl, hP4, (by show ixN _ (c / 9 % _) = _; rw [hji, List.length_map]; exact jx hj), ?_⟩
        exact put _ p [("stretch" : Str), w', b'] _ _ _ _ s4 aa (.inr (.inl ⟨_, _, rfl, hww, hb'⟩))
      · refine ⟨_, rfl, x, _, 0, .str "tree", rfl, rfl, hrow, rfl, _, rfl, _, rfl, _, _, rfl, rfl, (show CDiv _ 7 from ⟨by decide, by decide⟩), _, _, rfl, rfl, (show (0 : Int) < 8 by decide), nl, _, _, .str w', rfl, rfl, SqL.of B2.nl, hw', (show 2 ≤ sizeLine by decide), fun t1 ht1 => ?_⟩
        have s2 := ad ht1 (.tup [.str "tree", .str w'])
        refine ⟨_, rfl, _, rfl, x, _, rfl, s2.seqT hrow, (fun z => absurd z.1 (by show ¬ HT.sIx 2 0 (some 2) = 0; decide)), fun t2 ht2 => ?_⟩
        have s3 := s2.trans (ad ht2 (.tup []))
        refine ⟨t1, t2, _, _, rfl, rfl, SqT.of (ad ht2 _ _ _ aa), SqT.of aa, by simp, (show 2 + 0 ≤ sizeLine by decide), (fun _ => ?_), fun z => absurd rfl z⟩
        have hP4 := s3 _ _ hP
        refine ⟨_, rfl, _, rfl, _, rfl, pl, _, rfl, .inl (SqL.of hP4), _, _, rfl, rfl, hpos, pl, _, _, j, rfl, rfl, hP4, (by show ixN _ (c / 9 % _) = _; rw [hji, List.length_map]; exact jx hj), ?_⟩
        exact put _ t1 [("tree" : Str), w'] _ _ _ _ s3 (ad ht2 _ _ _ aa) (.inr (.inr ⟨_, rfl, hww⟩))))
    (ae (cu (t' := tBI K H nl fl pl h xs c 6 59 6 59) (bd (QW.qt (gw (av bn (qv 5) ag (au _)) (gb (av (neDk (K := K) rfl hu) (qv 3) (ay ac) (au _))))) (ae (al (i := 10) nd rfl (Or.inl rfl) (aq (ixKk (K := K) rfl) (qv 3) (ai b0 (qv 6) (b7 (dk (K := K) rfl) rfl C.len PySem.boot_len (af (qv 3) ac))) (fun _ _ => rfl)))
    (am (bd (av bn (aq (ixTk (K := K) rfl) (qv 10) ag (fun _ _ => rfl)) cb (au _)) (am (fh (d0 (bj (ax (aq (ixTk (K := K) rfl) (qv 10) ag (fun _ _ => rfl)) (ax (aq (ixKk (K := K) rfl) (qv 1) (ai b0 (ai df (qv 6) ag) ag) (fun _ _ => rfl)) ac)))) (mh (qv 3) (ai b0 (qv 6) (b7 (dk (K := K) rfl) rfl C.len PySem.boot_len (af (qv 3) ac))) ir))) b9))) b9) (fun D σ H1 hh => by
      obtain ⟨z7, z8, z9, z10, rfl, B, go⟩ := hh
      refine ⟨_, rfl, rfl, _, rfl, iteB (fun _ => ?_) (fun _ => go _ _ _ _ _ (B.le (by lia) (by lia)))⟩
      refine ju (K := K) (l := pl) rfl B.parts (fun r hr => hr.ok hok) fun H2 as s1 hP hal has => ?_
      have B2 := B.new s1
      refine iteB (fun c1 => ?_) (fun _ => go _ _ _ _ _ (B2.le (by lia) (by lia)))
      have hne : 0 < as.length := of_decide_eq_true c1
      have hpos : (0 : Int) < (((as.map V.ref).length : Nat) : Int) := by rw [List.length_map]; lia
      obtain ⟨j, x, hj, hjx, hji, hat⟩ := ly (i := c / 9) hne
      obtain ⟨r, hrow, hpo⟩ := has x (by rw [← hjx]; exact List.getElem_mem hj)
      obtain ⟨w', hw', hwm⟩ := cv xs (n := 8) (i := c / 9 / 7) hx8 (by decide)
      have hww : w' ∈ xs ++ [("nil" : Str)] := List.mem_append.mpr (.inl hwm)
      refine ⟨_, rfl, _, rfl, _, rfl, pl, _, rfl, .inl (SqL.of hP), _, _, rfl, rfl, hpos, pl, _, _, .ref x, rfl, rfl, SqL.of hP, hat, ?_⟩
      have put : ∀ (H3 : Hp) (p : Addr) (r' : List Str) z7 z8 z9 z10, Same H2 H3 → H3 p = some (.tup (r'.map V.str)) → PartOf (xs ++ [("nil" : Str)]) r' → D.nx [some (.int c), some (.ref nl), some (.ref fl), some (.ref pl), some (.ref h), some (.int (c % 9)), some (.int (c / 9)), z7, z8, z9, z10] (upd H3 pl (.lst ((as.map V.ref).set j (.ref p)))) := fun H3 p r' z7 z8 z9 z10 s3 hp3 ho => by
        rw [show (as.map V.ref).set j (.ref p) = (as.set j p).map V.ref by rw [List.map_set]]
        refine go _ _ _ _ _ ((B2.new s3).pput dis _ (by rw [List.length_set]; exact hal) fun b hb => ?_)
        rcases List.mem_or_eq_of_mem_set hb with h' | h'
        · obtain ⟨r, h1, h2⟩ := has b h'; exact ⟨r, s3.seqT h1, h2⟩
        · rw [h']; exact ⟨r', SqT.of hp3, ho⟩
      rcases hpo with ⟨a', f', s', rfl, _, hf', hs'⟩ | ⟨a', b', rfl, ha', hb'⟩ | ⟨a', rfl, _⟩
      · exact ⟨_, rfl, x, _, 0, .str "cell", rfl, rfl, hrow, rfl, rfl, _, rfl, iteF (go _ _ _ _ _ B2)⟩
      · refine ⟨_, rfl, x, _, 0, .str "stretch", rfl, rfl, hrow, rfl, rfl, _, rfl, iteT ?_⟩
        refine ⟨_, rfl, x, _, 1, .str a', rfl, rfl, hrow, rfl, _, rfl, _, rfl, _, _, rfl, rfl, (show CDiv _ 7 from ⟨by decide, by decide⟩), _, _, rfl, rfl, (show (0 : Int) < 8 by decide), nl, _, _, .str w', rfl, rfl, SqL.of B2.nl, hw', (show 3 ≤ sizeLine by decide), fun p hp => ?_⟩
        have s4 := ad hp (.tup ([("stretch" : Str), a', w'].map V.str))
        have hP4 := s4 _ _ hP
        refine ⟨_, rfl, _, rfl, _, rfl, pl, _, rfl, .inl (SqL.of hP4), _, _, rfl, rfl, hpos, pl, _, _, j, rfl, rfl, hP4, (by show ixN _ (c / 9 % _) = _; rw [hji, List.length_map]; exact jx hj), ?_⟩
        exact put _ p [("stretch" : Str), a', w'] _ _ _ _ s4 aa (.inr (.inl ⟨_, _, rfl, ha', hww⟩))
      · exact ⟨_, rfl, x, _, 0, .str "tree", rfl, rfl, hrow, rfl, rfl, _, rfl, iteF (go _ _ _ _ _ B2)⟩))
    (ae (cu (t' := tBI K H nl fl pl h xs c 6 59 6 59) (bd (QW.qt (gw (av bn (qv 5) ag (au _)) (gb (av (yo hu1) (qv 4) ib (au _))))) (am (bi (ot (qv 4) (aq (ixKk (K := K) rfl) (b7 (o4 rfl) rfl C.sorted PyProof.Rows.boot_sorted (af (qv 4) ac)) (ai b0 (qv 6) (b7 mo rfl C.len PySem.boot_len (af (qv 4) ac))) (fun _ _ => rfl))))) b9) (fun D σ H1 hh => by
      obtain ⟨z7, z8, z9, z10, rfl, B, go⟩ := hh
      refine ⟨_, rfl, rfl, _, rfl, iteB (fun _ => ?_) (fun _ => go _ _ _ _ _ B)⟩
      obtain ⟨hp, hH, hcs, hnd, hpl⟩ := B.heap
      refine ⟨_, rfl, fun dd hdd => ?_⟩
      have s1 := ad hdd (.dK [])
      have B2 := B.new s1
      refine ⟨h, dd, _, rfl, rfl, s1 _ _ hH, aa, _, rfl, iteB (fun c1 => ?_) (fun _ => go _ _ _ _ _ B2)⟩
      have hne : 0 < hp.length := by
        cases hp with
        | nil => cases c1
        | cons p l => simp
      have hH2 := s1 _ _ hH
      have hks : (hv hp).map (·.1) = (hp.map (·.1)).map Sum.inl := by unfold hv; rw [List.map_map, List.map_map]; rfl
      refine ⟨_, rfl, h, rfl, .inl ⟨_, .inl hH2⟩, _, rfl, h, _, hp.map (·.1), rfl, hH2, hks, (by rw [List.length_map]; lia), fun p zs hp' hperm => ?_⟩
      have s2 := s1.trans (ad hp' (.lst (zs.map V.int)))
      have hzl : zs.length = hp.length := by rw [hperm.length_eq, List.length_map]
      have hkl : (hv hp).length = hp.length := by unfold hv; rw [List.length_map]
      have hpos : (0 : Int) < (((hv hp).length : Nat) : Int) := by lia
      obtain ⟨z, hz, hzm⟩ := m3 (xs := zs) (n := (hv hp).length) (i := c / 9) (by lia) (by lia)
      have hzk : z ∈ hp.map (·.1) := hperm.mem_iff.mp hzm
      obtain ⟨e, he, rfl⟩ := List.mem_map.mp hzk
      obtain ⟨v, hv'⟩ : ∃ v, valV (hv hp) (Sum.inl e.1) = some v := by
        cases hc : valV (hv hp) (Sum.inl e.1) with
        | some v => exact ⟨v, rfl⟩
        | none => exact absurd (by rw [hks]; exact List.mem_map.mpr ⟨e.1, hzk, rfl⟩) (a2h hc)
      refine ⟨_, rfl, _, rfl, h, _, rfl, s2 _ _ hH, _, _, rfl, rfl, hpos, p, _, _, .int e.1, rfl, rfl, SqL.of aa, hz, _, Sum.inl e.1, v, s2 _ _ hH, rfl, hv', ?_⟩
      rw [a2l]
      refine go _ _ _ _ _ ((B.new s2).hput dis _ (fun q hq => hcs.same s2 q (List.mem_filter.mp hq).1) ?_ ?_)
      · exact List.Nodup.sublist (List.Sublist.map _ List.filter_sublist) hnd
      · exact Nat.le_trans (List.length_filter_le _ _) hpl))
    (am (cu (t' := tBI K H nl fl pl h xs c 6 59 6 60) (bd (av bn (qv 5) ag (au _)) (am (cj hu1 (qv 4) (ai bp (ai bp (b7 (sq rfl) rfl C.max PyProof.Rows.Boot.max (cz (ai cx (ay (b8 ac)) (bt (gs rfl) rfl C.list PyProof.Rows.boot_list (af (qv 4) ac))) ac)) ag) (ai b0 (qv 6) ag)) (d0 (cz (ai b0 (qv 6) (ai io ag ag)) (b8 ac))))) b9) (fun D σ H1 hh => by
      obtain ⟨z7, z8, z9, z10, rfl, B, go⟩ := hh
      refine ⟨_, rfl, rfl, _, rfl, iteB (fun _ => ?_) (fun _ => go _ _ _ _ _ (B.le (by lia) (by lia)))⟩
      obtain ⟨hp, hH, hcs, hnd, hpl⟩ := B.heap
      refine ⟨_, rfl, _, _, rfl, rfl, (show CPow 10 9 from ⟨by decide, by decide, by decide⟩), _, _, rfl, rfl, (show (0 : Int) < 10 ^ (9 : Int).toNat by decide +kernel), (show 2 ≤ sizeLine by decide), fun t ht => ?_⟩
      have s1 := ad ht (.tup [.int (c / 9 % 10 ^ (9 : Int).toNat), .int 0])
      refine ⟨_, rfl, (show 1 ≤ sizeLine by decide), fun l1 hl1 => ?_⟩
      have s2 := s1.trans (ad hl1 (.lst [.int 0]))
      refine ⟨_, rfl, h, _, rfl, s2 _ _ hH, fun l2 hl2 => ?_⟩
      have ek : (hv hp).map (fun kv => kV kv.1) = (hp.map (·.1)).map V.int := by unfold hv; rw [List.map_map, List.map_map]; rfl
      rw [ek]
      have s3 := s2.trans (ad hl2 (.lst ((hp.map (·.1)).map V.int)))
      refine ⟨l1, l2, _, _, rfl, rfl, ad hl2 _ _ _ aa, aa, (by rw [List.length_map, List.length_map]; exact Nat.le_trans (show 1 + hp.length ≤ 1000 by lia) (by decide)), fun l3 hl3 => ?_⟩
      have s4 := s3.trans (ad hl3 (.lst ([.int 0] ++ (hp.map (·.1)).map V.int)))
      refine ⟨l3, 0 :: hp.map (·.1), rfl, SqL.of aa, by simp, fun M hM hle => ?_⟩
      refine ⟨_, _, rfl, rfl, _, rfl, _, _, rfl, rfl, (show (0 : Int) < 9 by decide), _, _, rfl, rfl, h, _, rfl, DPut.k (k := Sum.inl (M + 1 + c / 9 % 9)) (s4 _ _ hH) ?_, ?_⟩
      · unfold hv; rw [List.length_map]; exact Nat.lt_of_le_of_lt (show hp.length ≤ 1000 by lia) (by decide)
      rw [jp]
      have ht4 := ad hl3 (.lst ([.int 0] ++ (hp.map (·.1)).map V.int)) _ _ (ad hl2 (.lst ((hp.map (·.1)).map V.int)) _ _ (ad hl1 (.lst [.int 0]) _ _ (show (upd H1 t (.tup [.int (c / 9 % 10 ^ (9 : Int).toNat), .int 0])) t = _ from aa)))
      refine go _ _ _ _ _ ((B.new s4).hput dis _ (fun q hq => ?_) (ww hnd) ?_)
      · rcases ui hq with h' | h'
        · exact hcs.same s4 q h'
        · rw [h']; exact ⟨_, _, SqT.of ht4⟩
      · have := v5 hp (M + 1 + c / 9 % 9) t; lia)))))))))), ?_⟩
  refine ⟨_, rfl, _, _, rfl, rfl, (show (0 : Int) < 9 by decide), ?_⟩
  refine ⟨_, rfl, _, _, rfl, rfl, (show CDiv _ 9 from ⟨by decide, by decide⟩), ?_⟩
  refine ⟨none, none, none, none, rfl, B0, fun z7 z8 z9 z10 H1 B1 => ?_⟩
  refine ⟨z7, z8, z9, z10, rfl, B1, fun z7 z8 z9 z10 H1 B1 => ?_⟩
  refine ⟨z7, z8, z9, z10, rfl, B1, fun z7 z8 z9 z10 H1 B1 => ?_⟩
  refine ⟨z7, z8, z9, z10, rfl, B1, fun z7 z8 z9 z10 H1 B1 => ?_⟩
  refine ⟨z7, z8, z9, z10, rfl, B1, fun z7 z8 z9 z10 H1 B1 => ?_⟩
  refine ⟨z7, z8, z9, z10, rfl, B1, fun z7 z8 z9 z10 H1 B1 => ?_⟩
  exact ⟨z7, z8, z9, z10, rfl, B1, fun z7 z8 z9 z10 H1 B1 => q H1 B1⟩
end
end K13
namespace L2
open PySem PySem.Spec PyProof.Rows
section
variable {X : Cx}
end
section
set_option autoImplicit true
set_option relaxedAutoImplicit true
end
end L2
namespace L2
open PySem PySem.Spec PyProof.Rows
section
variable {X : Cx}
theorem a44 : OpR X (compareOp .IsNot) (fun x y H Q => ∃ a b, x = .bl a ∧ y = .bl b ∧ Q (.bl (!decide (a = b))) H) := by
  intro pins s σ H x y v u Q I rx ry h
  obtain ⟨a, b, rfl, rfl, q⟩ := h
  cases rx
  cases ry
  exact isnot_bool (bg I q (by cases a <;> cases b <;> rfl))
end
end L2
namespace K13
open PySem PySem.Spec L2 Mir
noncomputable def putC (cs : ar) (x : Int) (z : Int × Int) : ar := if (cs.any fun p => decide (p.1 = x)) = true then cs.map (fun p => if p.1 = x then (p.1, z) else p) else cs ++ [(x, z)]
theorem og (q : Int × Int × Int) (l : ar) (w : Int) : atc (q :: l) w = if q.1 = w then some q.2 else atc l w := by
  unfold atc
  rw [List.find?_cons]
  by_cases h : q.1 = w
  · simp [h]
  · simp [h]
theorem x4 {x : Int} {z : Int × Int} : ∀ (m : ar) (y : Int), atc (m.map fun p => if p.1 = x then (p.1, z) else p) y = if y = x then (atc m x).map (fun _ => z) else atc m y
  | [], y => by unfold atc; simp
  | p :: m, y => by
    have ih := x4 (x := x) (z := z) m y
    rw [List.map_cons, og, og, og, ih]
    by_cases h1 : p.1 = x
    · by_cases h2 : y = x
      · subst h2; simp [h1]
      · have h3 : ¬ x = y := fun z => h2 z.symm
        simp [h1, h2, h3]
    · by_cases h2 : y = x
      · subst h2; simp [h1]
      · simp [h1, h2]
theorem xx {m : ar} {x : Int} : (m.any fun p => decide (p.1 = x)) = (atc m x).isSome := by
  unfold atc
  rw [Option.isSome_map, Bool.eq_iff_iff, List.find?_isSome, List.any_eq_true]
theorem ig (m : ar) (x : Int) (z : Int × Int) (y : Int) : atc (putC m x z) y = if y = x then some z else atc m y := by
  unfold putC
  split
  · rename_i h
    rw [x4]
    by_cases h2 : y = x
    · rw [if_pos h2, if_pos h2]
      rw [xx] at h
      cases hl : atc m x with
      | none => rw [hl] at h; cases h
      | some v => rfl
    · rw [if_neg h2, if_neg h2]
  · rename_i h
    have hn : ∀ p ∈ m, ¬ p.1 = x := fun p hp z => h (List.any_eq_true.mpr ⟨p, hp, by simp [z]⟩)
    unfold atc
    rw [List.find?_append]
    by_cases h2 : y = x
    · subst h2
      rw [if_pos rfl, List.find?_eq_none.mpr (fun p hp => by simp [hn p hp])]
      simp
    · have h3 : ¬ x = y := fun z => h2 z.symm
      rw [if_neg h2]
      simp [h3]
theorem oe (m : ar) (x : Int) (z : Int × Int) : (putC m x z).length = m.length + if (atc m x).isSome = true then 0 else 1 := by
  unfold putC
  rw [xx]
  split
  · rw [List.length_map]; lia
  · rw [List.length_append, List.length_singleton]
theorem a5z {K : PySem.W.Frag} {H : Hp} {hp : List (Int × Addr)} {cs : ar} (h : CellsAt K H hp cs) (x : Int) : (hp.any fun p => decide (p.1 = x)) = (cs.any fun p => decide (p.1 = x)) := by
  unfold CellsAt at h
  induction h with
  | nil => rfl
  | cons h t ih => rw [List.any_cons, List.any_cons, ih, h.1]
theorem CellsAt.put {K : PySem.W.Frag} {H : Hp} {hp : List (Int × Addr)} {cs : ar} (h : CellsAt K H hp cs) {x : Int} {t : Addr} {z : Int × Int} (ht : SqT K H t [.int z.1, .int z.2]) : CellsAt K H (putH hp x t) (putC cs x z) := by
  unfold putH putC
  rw [a5z h]
  split
  · unfold CellsAt at h ⊢
    rename_i hx
    clear hx
    induction h with
    | nil => exact .nil
    | @cons p c _ _ h t ih =>
      refine .cons ?_ ih
      dsimp only
      by_cases e : p.1 = x
      · rw [if_pos e, if_pos (by rw [← h.1, e])]; exact ⟨h.1, ht⟩
      · rw [if_neg e, if_neg (fun z => e (by rw [h.1, z]))]; exact h
  · exact Paired.app h (.cons ⟨rfl, ht⟩ .nil)
theorem rh {cs : ar} {e : Int} : ∀ (n : Nat) (p : Int) (tk ns : List Int), dl cs e n p tk = some ns → ∃ r, ns = tk ++ r
  | 0, _, _, _, h => by cases h
  | n + 1, p, tk, ns, h => by
    have h' : (if p = e then some tk else if p ∈ tk then none else match atc cs p with | none => none | some c => dl cs e n c.2 (tk ++ [p])) = some ns := h
    by_cases h1 : p = e
    · rw [if_pos h1] at h'; cases h'; exact ⟨[], by simp⟩
    · rw [if_neg h1] at h'
      by_cases h2 : p ∈ tk
      · rw [if_pos h2] at h'; cases h'
      · rw [if_neg h2] at h'
        cases ha : atc cs p with
        | none => rw [ha] at h'; cases h'
        | some c =>
          rw [ha] at h'
          obtain ⟨r, hr⟩ := rh n c.2 _ ns h'
          exact ⟨p :: r, by rw [hr, List.append_assoc]; rfl⟩
theorem pw {cs : ar} {e : Int} : ∀ (n : Nat) (p : Int) (tk ns : List Int), Went cs tk → dl cs e n p tk = some ns → Went cs ns
  | 0, _, _, _, _, h => by cases h
  | n + 1, p, tk, ns, hW, h => by
    have h' : (if p = e then some tk else if p ∈ tk then none else match atc cs p with | none => none | some c => dl cs e n c.2 (tk ++ [p])) = some ns := h
    by_cases h1 : p = e
    · rw [if_pos h1] at h'; cases h'; exact hW
    · rw [if_neg h1] at h'
      by_cases h2 : p ∈ tk
      · rw [if_pos h2] at h'; cases h'
      · rw [if_neg h2] at h'
        cases ha : atc cs p with
        | none => rw [ha] at h'; cases h'
        | some c => rw [ha] at h'; exact pw n c.2 _ ns (hW.more h2 (by rw [ha]; rfl)) h'
theorem pk {cs cs' : ar} {e : Int} : ∀ (n : Nat) (p : Int) (tk ns : List Int), dl cs e n p tk = some ns → (∀ x ∈ ns, ∀ c, atc cs x = some c → ∃ c', atc cs' x = some c' ∧ c'.2 = c.2) → ∀ n', ns.length + 1 ≤ n' + tk.length → dl cs' e n' p tk = some ns
  | 0, _, _, _, h, _, _, _ => by cases h
  | n + 1, p, tk, ns, h, hl, n', hn => by
    have h' : (if p = e then some tk else if p ∈ tk then none else match atc cs p with | none => none | some c => dl cs e n c.2 (tk ++ [p])) = some ns := h
    have hgo : ∀ k, dl cs' e (k + 1) p tk = (if p = e then some tk else if p ∈ tk then none else match atc cs' p with | none => none | some c => dl cs' e k c.2 (tk ++ [p])) := fun _ => rfl
    by_cases h1 : p = e
    · rw [if_pos h1] at h'; cases h'
      obtain ⟨k, rfl⟩ : ∃ k, n' = k + 1 := ⟨n' - 1, by lia⟩
      rw [hgo, if_pos h1]
    · rw [if_neg h1] at h'
      by_cases h2 : p ∈ tk
      · rw [if_pos h2] at h'; cases h'
      · rw [if_neg h2] at h'
        cases ha : atc cs p with
        | none => rw [ha] at h'; cases h'
        | some c =>
          rw [ha] at h'
          obtain ⟨r, hr⟩ := rh n c.2 _ ns h'
          have hlen : ns.length = tk.length + 1 + r.length := by rw [hr, List.length_append, List.length_append, List.length_singleton]
          obtain ⟨c', hc1, hc2⟩ := hl p (by rw [hr]; simp) c ha
          obtain ⟨k, rfl⟩ : ∃ k, n' = k + 1 := ⟨n' - 1, by lia⟩
          rw [hgo, if_neg h1, if_neg h2, hc1]
          show dl cs' e k c'.2 (tk ++ [p]) = some ns
          rw [hc2]
          refine pk n c.2 _ ns h' hl k ?_
          rw [List.length_append, List.length_singleton]; lia
theorem i5 {cs : ar} : ∀ (n : Nat) (co tk ns : List Int), bx cs n co tk = some ns → ∃ r, ns = tk ++ r
  | 0, _, _, _, h => by cases h
  | n + 1, [], tk, ns, h => by
    have h' : some tk = some ns := h
    cases h'; exact ⟨[], by simp⟩
  | n + 1, p :: co, tk, ns, h => by
    have h' : (if p = 0 then bx cs n co tk else if p ∈ tk then none else match atc cs p with | none => none | some c => bx cs n (c.1 :: c.2 :: co) (tk ++ [p])) = some ns := h
    by_cases h1 : p = 0
    · rw [if_pos h1] at h'; exact i5 n co tk ns h'
    · rw [if_neg h1] at h'
      by_cases h2 : p ∈ tk
      · rw [if_pos h2] at h'; cases h'
      · rw [if_neg h2] at h'
        cases ha : atc cs p with
        | none => rw [ha] at h'; cases h'
        | some c =>
          rw [ha] at h'
          obtain ⟨r, hr⟩ := i5 n _ _ ns h'
          exact ⟨p :: r, by rw [hr, List.append_assoc]; rfl⟩
theorem j2 {cs : ar} : ∀ (n : Nat) (co tk ns : List Int), Went cs tk → bx cs n co tk = some ns → Went cs ns
  | 0, _, _, _, _, h => by cases h
  | n + 1, [], tk, ns, hW, h => by
    have h' : some tk = some ns := h
    cases h'; exact hW
  | n + 1, p :: co, tk, ns, hW, h => by
    have h' : (if p = 0 then bx cs n co tk else if p ∈ tk then none else match atc cs p with | none => none | some c => bx cs n (c.1 :: c.2 :: co) (tk ++ [p])) = some ns := h
    by_cases h1 : p = 0
    · rw [if_pos h1] at h'; exact j2 n co tk ns hW h'
    · rw [if_neg h1] at h'
      by_cases h2 : p ∈ tk
      · rw [if_pos h2] at h'; cases h'
      · rw [if_neg h2] at h'
        cases ha : atc cs p with
        | none => rw [ha] at h'; cases h'
        | some c => rw [ha] at h'; exact j2 n _ _ ns (hW.more h2 (by rw [ha]; rfl)) h'
theorem j7 {cs cs' : ar} : ∀ (n : Nat) (co tk ns : List Int), bx cs n co tk = some ns → (∀ x ∈ ns, ∀ c, atc cs x = some c → atc cs' x = some c) → ∀ n', 2 * ns.length + co.length + 1 ≤ n' + 2 * tk.length → bx cs' n' co tk = some ns
  | 0, _, _, _, h, _, _, _ => by cases h
  | n + 1, [], tk, ns, h, hl, n', hn => by
    have h' : some tk = some ns := h
    cases h'
    obtain ⟨k, rfl⟩ : ∃ k, n' = k + 1 := ⟨n' - 1, by lia⟩
    rfl
  | n + 1, p :: co, tk, ns, h, hl, n', hn => by
    have h' : (if p = 0 then bx cs n co tk else if p ∈ tk then none else match atc cs p with | none => none | some c => bx cs n (c.1 :: c.2 :: co) (tk ++ [p])) = some ns := h
    have hgo : ∀ k, bx cs' (k + 1) (p :: co) tk = (if p = 0 then bx cs' k co tk else if p ∈ tk then none else match atc cs' p with | none => none | some c => bx cs' k (c.1 :: c.2 :: co) (tk ++ [p])) := fun _ => rfl
    have hlen0 : tk.length ≤ ns.length := by
      obtain ⟨r, hr⟩ := i5 (n + 1) (p :: co) tk ns h
      rw [hr, List.length_append]; lia
    rw [List.length_cons] at hn
    obtain ⟨k, rfl⟩ : ∃ k, n' = k + 1 := ⟨n' - 1, by lia⟩
    by_cases h1 : p = 0
    · rw [if_pos h1] at h'
      rw [hgo, if_pos h1]
      exact j7 n co tk ns h' hl k (by lia)
    · rw [if_neg h1] at h'
      by_cases h2 : p ∈ tk
      · rw [if_pos h2] at h'; cases h'
      · rw [if_neg h2] at h'
        cases ha : atc cs p with
        | none => rw [ha] at h'; cases h'
        | some c =>
          rw [ha] at h'
          obtain ⟨r, hr⟩ := i5 n _ _ ns h'
          have hc1 := hl p (by rw [hr]; simp) c ha
          rw [hgo, if_neg h1, if_neg h2, hc1]
          refine j7 n _ _ ns h' hl k ?_
          rw [List.length_append, List.length_singleton, List.length_cons, List.length_cons]; lia
theorem gz {m : List (Str × Int)} {cs : ar} {r : List Str} {ns : List Int} (h : be m cs r = some ns) : Went cs ns := by
  unfold be at h
  split at h
  · unfold ei at h
    split at h
    · cases h
    · rename_i c hc
      split at h
      · cases h
        exact ⟨by simp, fun k hk => by rw [List.mem_singleton.mp hk, hc]; rfl⟩
      · cases h
  · split at h
    · exact pw _ _ _ _ (ky cs) h
    · exact j2 _ _ _ _ (ky cs) h
noncomputable def LikeC (m : List (Str × Int)) (r : List Str) (c c' : Int × Int) : Prop := (r.getD 0 "" = "cell" → (mayB m (r.getD 2 "") c.1 = true → mayB m (r.getD 2 "") c'.1 = true) ∧ (mayB m (r.getD 3 "") c.2 = true → mayB m (r.getD 3 "") c'.2 = true)) ∧ (r.getD 0 "" = "stretch" → c'.2 = c.2) ∧ (¬ r.getD 0 "" = "cell" → ¬ r.getD 0 "" = "stretch" → c' = c)
theorem LikeC.refl (m : List (Str × Int)) (r : List Str) (c : Int × Int) : LikeC m r c c := ⟨fun _ => ⟨id, id⟩, fun _ => rfl, fun _ _ => rfl⟩
theorem yl {m : List (Str × Int)} {cs cs' : ar} {r : List Str} {ns : List Int} (h : be m cs r = some ns) (hl : ∀ x ∈ ns, ∀ c, atc cs x = some c → ∃ c', atc cs' x = some c' ∧ LikeC m r c c') : be m cs' r = some ns := by
  have hW := gz h
  have hW' : Went cs' ns := ⟨hW.nd, fun k hk => by
    have := hW.there k hk
    cases hc : atc cs k with
    | none => rw [hc] at this; cases this
    | some c => obtain ⟨c', e, _⟩ := hl k hk c hc; rw [e]; rfl⟩
  have hlen := hW'.len
  unfold be at h ⊢
  by_cases h1 : r.getD 0 "" = "cell"
  · rw [if_pos h1] at h ⊢
    unfold ei at h ⊢
    cases hc : atc cs (num m (r.getD 1 "")) with
    | none => rw [hc] at h; cases h
    | some c =>
      rw [hc] at h
      have h' : (if mayB m (r.getD 2 "") c.1 = true ∧ mayB m (r.getD 3 "") c.2 = true then some [num m (r.getD 1 "")] else none) = some ns := h
      by_cases h2 : mayB m (r.getD 2 "") c.1 = true ∧ mayB m (r.getD 3 "") c.2 = true
      · rw [if_pos h2] at h'
        cases h'
        obtain ⟨c', e, L⟩ := hl _ (List.mem_singleton.mpr rfl) c hc
        rw [e]
        show (if mayB m (r.getD 2 "") c'.1 = true ∧ mayB m (r.getD 3 "") c'.2 = true then some [num m (r.getD 1 "")] else none) = _
        rw [if_pos ⟨(L.1 h1).1 h2.1, (L.1 h1).2 h2.2⟩]
      · rw [if_neg h2] at h'; cases h'
  · rw [if_neg h1] at h ⊢
    by_cases h2 : r.getD 0 "" = "stretch"
    · rw [if_pos h2] at h ⊢
      refine pk _ _ _ _ h (fun x hx c hc => ?_) _ (by simpa using hlen)
      obtain ⟨c', e, L⟩ := hl x hx c hc
      exact ⟨c', e, L.2.1 h2⟩
    · rw [if_neg h2] at h ⊢
      refine j7 _ _ _ _ h (fun x hx c hc => ?_) _ (by simp only [List.length_cons, List.length_nil]; lia)
      obtain ⟨c', e, L⟩ := hl x hx c hc
      rw [e, L.2.2 h1 h2]
theorem j5 {m : List (Str × Int)} {cs : ar} {fs ps : List (List Str)} {rows : List (List Int)} (h : bc m cs fs ps = some rows) : fs.all (bv m) = true ∧ Paired (fun r ns => be m cs r = some ns) ps rows ∧ rows.flatten.Nodup := by
  unfold bc at h
  split at h
  · rename_i hf
    split at h
    · cases h
    · rename_i rws hr
      split at h
      · rename_i hn
        cases h
        refine ⟨hf, ?_, hn⟩
        clear hf hn
        induction ps generalizing rows with
        | nil => cases hr; exact .nil
        | cons r ps ih =>
          cases hp : be m cs r with
          | none => rw [List.map_cons, hp] at hr; cases hr
          | some ns =>
            rw [List.map_cons, hp] at hr
            have hr' : (ci (ps.map (be m cs))).map (ns :: ·) = some rows := hr
            cases ha : ci (ps.map (be m cs)) with
            | none => rw [ha] at hr'; cases hr'
            | some bs =>
              rw [ha] at hr'
              cases hr'
              exact .cons hp (ih ha)
      · cases h
  · cases h
theorem ox {m : List (Str × Int)} {cs : ar} {fs ps : List (List Str)} {rows : List (List Int)} (hf : fs.all (bv m) = true) (hp : Paired (fun r ns => be m cs r = some ns) ps rows) (hn : rows.flatten.Nodup) : bc m cs fs ps = some rows := by
  have : ci (ps.map (be m cs)) = some rows := by
    clear hn
    induction hp with
    | nil => rfl
    | cons h t ih =>
      rw [List.map_cons, h]
      show (ci _).map _ = _
      rw [ih]; rfl
  unfold bc
  rw [if_pos hf, this]
  show (if rows.flatten.Nodup then some rows else none) = some rows
  rw [if_pos hn]
theorem wm {m : List (Str × Int)} {cs : ar} {fs ps : List (List Str)} {rows : List (List Int)} (h : bc m cs fs ps = some rows) : ∀ x ∈ rows.flatten, (atc cs x).isSome = true := fun x hx => by
  obtain ⟨_, hp, hq⟩ := j5 h
  obtain ⟨ns, h1, h2⟩ := List.mem_flatten.mp hx
  clear h hx hq
  induction hp with
  | nil => cases h1
  | cons h t ih =>
    rcases List.mem_cons.mp h1 with z | z
    · subst z; exact (gz h).there x h2
    · exact ih z
theorem nc {m : List (Str × Int)} {cs : ar} {fs ps : List (List Str)} {rows : List (List Int)} (h : bc m cs fs ps = some rows) : fk m cs fs ps = decide (rows.flatten.length = cs.length) := by
  unfold fk
  rw [h, uj]
theorem ll {m : List (Str × Int)} {cs : ar} {fs ps : List (List Str)} (h : bc m cs fs ps = none) : fk m cs fs ps = false := by
  unfold fk
  rw [h]
end K13
namespace K13
open PySem PySem.Spec L2 Mir
noncomputable def sgn (b a : Int) (k j : Nat) : Nat := if j = 0 then some22.cps.toList.getD ((b / 8 + (k : Int) * (if a = 0 then 1 else 0)) % 22).toNat 0 else more32.cps.toList.getD ((b / (9 + (j : Int)) + 3 * (j : Int) * (j : Int) + (k : Int) * (if (j : Int) = a then 1 else 0)) % 32).toNat 0
noncomputable def eh (b a : Int) (k n : Nat) : Str := ⟨((List.range n).map (sgn b a k)).toArray⟩
theorem ze (b a : Int) (k n : Nat) : eh b a k (n + 1) = eh b a k n ++ ⟨#[sgn b a k n]⟩ := by
  apply Str.ext'
  show ((List.range (n + 1)).map (sgn b a k)).toArray = ((List.range n).map (sgn b a k)).toArray ++ #[sgn b a k n]
  rw [List.range_succ, List.map_append]
  apply Array.toList_inj.mp
  simp
theorem rc (b a : Int) (k n : Nat) : (eh b a k n).length = n := by
  show ((List.range n).map (sgn b a k)).toArray.size = n
  rw [List.size_toArray, List.length_map, List.length_range]
theorem wx {l : List Nat} {i : Nat} (h : i < l.length) : l.getD i 0 ∈ l := by
  rw [List.getD_eq_getElem?_getD, List.getElem?_eq_getElem h]; exact List.getElem_mem h
theorem a2o (b a : Int) (k j : Nat) : sgn b a k j ∈ more32.cps.toList := by
  unfold sgn
  split
  · refine a1e _ (wx ?_)
    rw [i6]
    have h0 := Int.emod_nonneg (b / 8 + (k : Int) * (if a = 0 then 1 else 0)) (show (22 : Int) ≠ 0 by decide)
    have h1 := Int.emod_lt_of_pos (b / 8 + (k : Int) * (if a = 0 then 1 else 0)) (show (0 : Int) < 22 by decide)
    lia
  · refine wx ?_
    rw [i3]
    have h0 := Int.emod_nonneg (b / (9 + (j : Int)) + 3 * (j : Int) * (j : Int) + (k : Int) * (if (j : Int) = a then 1 else 0)) (show (32 : Int) ≠ 0 by decide)
    have h1 := Int.emod_lt_of_pos (b / (9 + (j : Int)) + 3 * (j : Int) * (j : Int) + (k : Int) * (if (j : Int) = a then 1 else 0)) (show (0 : Int) < 32 by decide)
    lia
theorem a2v (b a : Int) (k : Nat) {n : Nat} (h : n ≤ 8) : NameL (eh b a k n) := by
  refine ⟨by rw [rc]; exact h, fun c hc => ?_⟩
  have hc' : c ∈ (List.range n).map (sgn b a k) := by simpa [eh] using hc
  obtain ⟨j, _, rfl⟩ := List.mem_map.mp hc'
  exact a2o b a k j
theorem a0g : some22.cps.toList.Nodup := by decide +kernel
theorem a1j : more32.cps.toList.Nodup := by decide +kernel
theorem vd {l : List Nat} {i j : Nat} (hn : l.Nodup) (hi : i < l.length) (hj : j < l.length) (h : l.getD i 0 = l.getD j 0) : i = j := by
  rw [List.getD_eq_getElem?_getD, List.getD_eq_getElem?_getD, List.getElem?_eq_getElem hi, List.getElem?_eq_getElem hj] at h
  exact (List.getElem_inj hn).mp h
theorem a32 (b a : Int) {n k k' : Nat} (h0 : 0 ≤ a) (hn : a < n) (hk : k < 22) (hk' : k' < 22) (hne : k ≠ k') : eh b a k n ≠ eh b a k' n := fun z => by
  obtain ⟨i, rfl⟩ := Int.eq_ofNat_of_zero_le h0
  have hi : i < n := by lia
  have z2 : (List.range n).map (sgn b i k) = (List.range n).map (sgn b i k') := by
    have := congrArg (fun x : Str => x.cps.toList) z
    simpa [eh] using this
  have z3 : sgn b i k i = sgn b i k' i := by
    have := congrArg (fun l : List Nat => l[i]?) z2
    simp only [List.getElem?_map, List.getElem?_range hi] at this
    exact Option.some.inj this
  unfold sgn at z3
  by_cases hz : i = 0
  · subst hz
    have q1 : (if ((0 : Nat) : Int) = 0 then (1 : Int) else 0) = 1 := if_pos rfl
    rw [if_pos rfl, if_pos rfl, q1, Int.mul_one, Int.mul_one] at z3
    generalize b / 8 = y at z3
    have g1 := Int.emod_nonneg (y + k) (show (22 : Int) ≠ 0 by decide)
    have g2 := Int.emod_lt_of_pos (y + k) (show (0 : Int) < 22 by decide)
    have g3 := Int.emod_nonneg (y + k') (show (22 : Int) ≠ 0 by decide)
    have g4 := Int.emod_lt_of_pos (y + k') (show (0 : Int) < 22 by decide)
    have := vd a0g (by rw [i6]; lia) (by rw [i6]; lia) z3
    lia
  · have q1 : (if (i : Int) = (i : Int) then (1 : Int) else 0) = 1 := if_pos rfl
    rw [if_neg hz, if_neg hz, q1, Int.mul_one, Int.mul_one] at z3
    generalize b / (9 + (i : Int)) + 3 * (i : Int) * (i : Int) = y at z3
    have g1 := Int.emod_nonneg (y + k) (show (32 : Int) ≠ 0 by decide)
    have g2 := Int.emod_lt_of_pos (y + k) (show (0 : Int) < 32 by decide)
    have g3 := Int.emod_nonneg (y + k') (show (32 : Int) ≠ 0 by decide)
    have g4 := Int.emod_lt_of_pos (y + k') (show (0 : Int) < 32 by decide)
    have := vd a1j (by rw [i3]; lia) (by rw [i3]; lia) z3
    lia
theorem a1o (b a : Int) {n m : Nat} (h0 : 0 ≤ a) (hn : a < n) (hm : m ≤ 22) : ((List.range m).map fun k => eh b a k n).Nodup := by
  induction m with
  | zero => exact List.nodup_nil
  | succ m ih =>
    rw [List.range_succ, List.map_append]
    refine g5 (ih (by lia)) fun z => ?_
    obtain ⟨k, hk, e⟩ := List.mem_map.mp z
    have hk' := List.mem_range.mp hk
    exact a32 b a h0 hn (by lia) (by lia) (Nat.ne_of_lt hk') e
theorem vc {l : List Nat} {i : Int} {m : Nat} (hl : l.length = m) (hm : 0 < m) : atI l (i % (m : Int)) = some (l.getD (i % (m : Int)).toNat 0) := by
  have h0 := Int.emod_nonneg i (show (m : Int) ≠ 0 by lia)
  have h1 := Int.emod_lt_of_pos i (show (0 : Int) < m by lia)
  generalize i % (m : Int) = j at h0 h1
  obtain ⟨k, rfl⟩ := Int.eq_ofNat_of_zero_le h0
  have hk : k < l.length := by lia
  refine bu ?_
  rw [List.getD_eq_getElem?_getD, Int.toNat_natCast, List.getElem?_eq_getElem hk]; rfl
end K13
namespace K13
open PySem PySem.Spec L2 Mir
inductive spNames4S (vs : List V) (H : Hp) (Q : VK) : Prop
  | mk (b p : Int) (m : Nat) (h0 : vs = [.int b, .int p, .int (m : Int)]) (h1 : m ≤ 10) (h2 : ∀ l xs H', Same H H' → H l = none → H' l = some (.lst ((xs : List Str).map V.str)) → xs.length = m → (∀ x ∈ xs, NameG x) → xs.Nodup → Q (.ref l) H') : spNames4S vs H Q
noncomputable def vq : Sp := fun vs H Q _ => spNames4S vs H Q
section
variable {P : Program} {w : World} {K : PySem.W.Frag} {mg : Str → Option Value} {base : Heap} {f : Addr} {fd : FuncData}
theorem a0w (C : Con K mg w) (F : Fun K "_law_names" "_law_names" jg f fd) : FnOk P w K mg base CX0 1 f fd ["_law_base", "_law_place", "_law_many"] vq := by
  refine F.okQ scNames (fun vs H Q E h => ?_) (fun cdv A outer s0 H vs Q E hr h => ?_)
  · obtain ⟨b, p, m, rfl, _⟩ := h; rfl
  obtain ⟨b, p, m, rfl, hm, q⟩ := h
  have nd := scNames.nd
  refine ⟨_, ae (al (i := 3) nd rfl (Or.inl rfl) cb)
    (ae (al (i := 4) nd rfl (Or.inl rfl) (ai gi (qv 3) cb))
    (ae (al (i := 5) nd rfl (Or.inl rfl) (ai bp ag (ai b0 (qv 0) ag)))
    (ae (al (i := 6) nd rfl (Or.inl rfl) (ai b0 (qv 1) (qv 5)))
    (ae (al (i := 7) nd rfl (Or.inl rfl) (ay ac))
    (ae (cr PassesOwn.never rfl (bw rfl C.range (af (qv 2) ac)) (ba (i := 8) nd rfl (Or.inl rfl)) (ae (al (i := 9) nd rfl (Or.inl rfl) (aq q0 (qv 3) (ai b0 (ai bp (ai df (qv 0) ag) (ai fq (qv 8) (bt j6 rfl C.int PyProof.Rows.boot_int (fv (de bn (qv 6) ag (au _)) ac)))) ag) (fun _ _ => rfl)))
    (ae (cr PassesOwn.never rfl (a1a rfl C.range (b8 (af (qv 5) ac))) (ba (i := 10) nd rfl (Or.inl rfl)) (ae (al (i := 11) nd rfl (Or.inl rfl) (ai fq (qv 8) (bt j6 rfl C.int PyProof.Rows.boot_int (fv (de bn (qv 10) (qv 6) (au _)) ac))))
    (ae (al (i := 12) nd rfl (Or.inl rfl) (ai bp (ai bp (ai df (qv 0) (ai bp ag (qv 10))) (ai fq (ai fq ag (qv 10)) (qv 10))) (qv 11)))
    (am (al (i := 9) nd rfl (Or.inl rfl) (ai gi (qv 9) (aq q0 (qv 4) (ai b0 (qv 12) ag) (fun _ _ => rfl))))))))
    (am (bi (ce (K := K) rfl PySem.F.plainAttrs_list PySem.F.slot_list_append PySem.F.type_list_append bq (qv 7) (af (qv 9) ac)))))))
    (am (az (qv 7)))))))), ?_⟩
  have g0 := Int.emod_nonneg b (show (8 : Int) ≠ 0 by decide)
  have g8 := Int.emod_lt_of_pos b (show (0 : Int) < 8 by decide)
  have a0 := Int.emod_nonneg p (show 1 + b % 8 ≠ 0 by lia)
  have a1 := Int.emod_lt_of_pos p (show 0 < 1 + b % 8 by lia)
  refine ⟨_, rfl, some22, _, rfl, rfl, by decide +kernel, ?_⟩
  refine ⟨_, rfl, _, _, rfl, rfl, (show (0 : Int) < 8 by decide), _, _, rfl, rfl, ?_⟩
  refine ⟨_, rfl, _, rfl, _, _, rfl, rfl, (show (0 : Int) < 1 + b % 8 by lia), ?_⟩
  refine ⟨Nat.zero_le _, fun nl hnl => ?_⟩
  have s1 := ad hnl (.lst [])
  refine ⟨_, rfl, _, rfl, (by lia), (by lia), ?_⟩
  refine cf (lo := 0) (n := (m : Int).toNat) (fun k σ H' => Same H H' ∧ ∃ z8 z9 z10 z11 z12, H' nl = some (.lst (((List.range k).map fun k => eh b (p % (1 + b % 8)) k (1 + b % 8).toNat).map V.str)) ∧
      σ = [some (.int b), some (.int p), some (.int (m : Int)), some (.str some22), some (.str more32), some (.int (1 + b % 8)), some (.int (p % (1 + b % 8))), some (.ref nl), z8, z9, z10, z11, z12]) ⟨s1, none, none, none, none, none, aa, rfl⟩ ?_ ?_
  · rintro k σ H' hk ⟨e, z8, z9, z10, z11, z12, hN, rfl⟩
    have hk10 : k < 10 := by lia
    have e0 : (0 + (k : Int)) = (k : Int) := by lia
    rw [e0]
    have ha := vc (l := some22.cps.toList) (i := b / 8 + (k : Int) * (if p % (1 + b % 8) = 0 then 1 else 0)) i6 (by decide)
    have eif : ∀ x y : Int, (if decide (V.int x = V.int y) = true then (1 : Int) else 0) = if x = y then 1 else 0 := fun x y => by
      by_cases h : x = y
      · subst h; simp
      · rw [if_neg h, if_neg]; simpa using h
    refine ⟨_, rfl, _, rfl, _, _, rfl, rfl, (show CDiv _ 8 from ⟨by decide, by decide⟩), _, rfl, _, rfl, rfl, _, rfl, _, _, rfl, rfl, .inl ⟨by lia, by lia⟩, _, _, rfl, rfl, _, _, rfl, rfl, (show (0 : Int) < 22 by decide), some22, _, some22.cps.toList.getD ((b / 8 + (k : Int) * (if p % (1 + b % 8) = 0 then 1 else 0)) % 22).toNat 0, rfl, rfl, w6, ?_, ?_⟩
    · rw [eif]
      exact ha
    have e1 : (⟨#[some22.cps.toList.getD ((b / 8 + (k : Int) * (if p % (1 + b % 8) = 0 then 1 else 0)) % 22).toNat 0]⟩ : Str) = eh b (p % (1 + b % 8)) k 1 := by
      unfold eh
      simp [sgn]
    rw [e1]
    refine ⟨_, rfl, 1, 1 + b % 8, rfl, ⟨by decide, by decide, by lia, by lia⟩, ?_⟩
    refine cf (lo := 1) (n := (1 + b % 8 - 1).toNat) (fun j σ H2 => H2 = H' ∧ ∃ z10 z11 z12, σ = [some (.int b), some (.int p), some (.int (m : Int)), some (.str some22), some (.str more32), some (.int (1 + b % 8)), some (.int (p % (1 + b % 8))), some (.ref nl), some (.int (k : Int)), some (.str (eh b (p % (1 + b % 8)) k (1 + j))), z10, z11, z12]) ⟨rfl, z10, z11, z12, rfl⟩ ?_ ?_
    · rintro j σ H2 hj ⟨rfl, z10, z11, z12, rfl⟩
      have hj8 : j < 8 := by lia
      have e2 : (1 + (j : Int)) = ((1 + j : Nat) : Int) := by lia
      rw [e2]
      have hb := vc (l := more32.cps.toList) (i := b / (9 + ((1 + j : Nat) : Int)) + 3 * ((1 + j : Nat) : Int) * ((1 + j : Nat) : Int) + (k : Int) * (if ((1 + j : Nat) : Int) = p % (1 + b % 8) then 1 else 0)) i3 (by decide)
      have e3 : (⟨#[more32.cps.toList.getD ((b / (9 + ((1 + j : Nat) : Int)) + 3 * ((1 + j : Nat) : Int) * ((1 + j : Nat) : Int) + (k : Int) * (if ((1 + j : Nat) : Int) = p % (1 + b % 8) then 1 else 0)) % 32).toNat 0]⟩ : Str) = ⟨#[sgn b (p % (1 + b % 8)) k (1 + j)]⟩ := by
        simp only [sgn, if_neg (show ¬ (1 + j = 0) by lia)]
      refine ⟨_, rfl, _, rfl, _, rfl, rfl, _, rfl, _, _, rfl, rfl, .inl ⟨by lia, by lia⟩, ?_⟩
      rw [eif]
      refine ⟨_, rfl, _, rfl, _, _, rfl, rfl, _, _, rfl, rfl, (show CDiv _ (9 + ((1 + j : Nat) : Int)) from ⟨by lia, by lia⟩), _, rfl, _, _, rfl, rfl, .inl ⟨by decide, by decide⟩, _, rfl, _, _, rfl, rfl, .inl ⟨by lia, by lia⟩, _, _, rfl, rfl, _, rfl, _, _, rfl, rfl, ?_⟩
      refine ⟨_, rfl, _, rfl, _, rfl, _, _, rfl, rfl, (show (0 : Int) < 32 by decide), more32, _, _, rfl, rfl, wb, hb, eh b (p % (1 + b % 8)) k (1 + j), _, rfl, rfl, ?_, ?_⟩
      · show (eh b (p % (1 + b % 8)) k (1 + j)).length + 1 ≤ _
        rw [rc]
        exact Nat.le_trans (show 1 + j + 1 ≤ 1000 by lia) (by decide)
      · rw [show ((32 : Nat) : Int) = 32 from rfl, e3, ← ze]
        exact ⟨rfl, _, _, _, rfl⟩
    · rintro σ H2 ⟨rfl, z10, z11, z12, rfl⟩
      have e4 : 1 + (1 + b % 8 - 1).toNat = (1 + b % 8).toNat := by lia
      rw [e4]
      refine ⟨_, rfl, .inl ⟨rfl, _, SqL.of hN⟩, _, rfl, nl, _, .str _, rfl, rfl, hN, ?_, ?_⟩
      · rw [List.length_map, List.length_map, List.length_range]; exact Nat.lt_of_le_of_lt (show k ≤ 1000 by lia) (by decide)
      refine ⟨br hnl e _, _, _, _, _, _, ?_, rfl⟩
      rw [aa, List.range_succ, List.map_append, List.map_append]
      rfl
  · rintro σ H' ⟨e, z8, z9, z10, z11, z12, hN, rfl⟩
    have e5 : ((m : Int).toNat) = m := by lia
    rw [e5] at hN
    refine ⟨_, rfl, q nl _ H' e hnl hN (by rw [List.length_map, List.length_range]) (fun x hx => ?_) (a1o b _ a0 (by lia) (by lia))⟩
    obtain ⟨k, _, rfl⟩ := List.mem_map.mp hx
    exact NameL.g (a2v b _ k (by lia))
end
end K13
namespace Tre
inductive Tr where
  | nil
  | node (x : Int) (l r : Tr)
noncomputable def tip : Tr → Int
  | .nil => 0
  | .node x _ _ => x
noncomputable def pre : Tr → List Int
  | .nil => []
  | .node x l r => x :: (pre l ++ pre r)
noncomputable def Sl (g : Int → Int × Int) : Tr → Prop
  | .nil => True
  | .node x l r => g x = (tip l, tip r) ∧ Sl g l ∧ Sl g r
noncomputable def ins (p : Int) (s : Bool) (y : Int) : Tr → Tr
  | .nil => .nil
  | .node x l r => if x = p then (if s = true then .node x l (.node y .nil .nil) else .node x (.node y .nil .nil) r) else .node x (ins p s y l) (ins p s y r)
theorem qf (p : Int) (s : Bool) (y : Int) : ∀ t, tip (ins p s y t) = tip t
  | .nil => rfl
  | .node x l r => by
    unfold ins
    split
    · split <;> rfl
    · rfl
theorem mw {p : Int} {s : Bool} {y : Int} : ∀ {t : Tr}, ¬ p ∈ pre t → ins p s y t = t
  | .nil, _ => rfl
  | .node x l r, h => by
    have h' : ¬ p = x ∧ ¬ p ∈ pre l ∧ ¬ p ∈ pre r := by
      refine ⟨fun z => h (by rw [z]; exact List.mem_cons_self ..), fun z => h ?_, fun z => h ?_⟩
      · exact List.mem_cons_of_mem _ (List.mem_append.mpr (.inl z))
      · exact List.mem_cons_of_mem _ (List.mem_append.mpr (.inr z))
    unfold ins
    rw [if_neg (fun z => h'.1 z.symm), mw h'.2.1, mw h'.2.2]
noncomputable def sd (s : Bool) (c : Int × Int) : Int := if s = true then c.2 else c.1
noncomputable def put (s : Bool) (c : Int × Int) (y : Int) : Int × Int := if s = true then (c.1, y) else (y, c.2)
theorem xg {t : Tr} (h0 : ∀ x ∈ pre t, x ≠ 0) (h : tip t = 0) : t = .nil := by
  cases t with
  | nil => rfl
  | node x l r => exact absurd h (h0 x (List.mem_cons_self ..))
theorem qk {p : Int} {s : Bool} {y : Int} {g : Int → Int × Int} : ∀ {t : Tr}, p ∈ pre t → (pre t).Nodup → (∀ x ∈ pre t, x ≠ 0) → Sl g t → sd s (g p) = 0 → (pre (ins p s y t)).Perm (y :: pre t)
  | .nil, h, _, _, _, _ => by cases h
  | .node x l r, h, hn, h0, hs, hf => by
    obtain ⟨hx, hn2⟩ := List.nodup_cons.mp hn
    obtain ⟨nl, nr, nlr⟩ := List.nodup_append.mp hn2
    have hl0 : ∀ z ∈ pre l, z ≠ 0 := fun z hz => h0 z (List.mem_cons_of_mem _ (List.mem_append.mpr (.inl hz)))
    have hr0 : ∀ z ∈ pre r, z ≠ 0 := fun z hz => h0 z (List.mem_cons_of_mem _ (List.mem_append.mpr (.inr hz)))
    obtain ⟨hg, sl, sr⟩ := hs
    unfold ins
    by_cases e : x = p
    · rw [if_pos e]
      rw [← e, hg] at hf
      cases s with
      | true =>
        have hr : r = .nil := xg hr0 hf
        subst hr
        rw [if_pos rfl]
        show (x :: (pre l ++ [y])).Perm (y :: x :: (pre l ++ []))
        rw [List.append_nil]
        exact (List.Perm.cons x (List.perm_append_singleton y (pre l))).trans (List.Perm.swap ..)
      | false =>
        have hl : l = .nil := xg hl0 hf
        subst hl
        rw [if_neg (by decide)]
        exact List.Perm.swap ..
    · rw [if_neg e]
      show (x :: (pre (ins p s y l) ++ pre (ins p s y r))).Perm (y :: x :: (pre l ++ pre r))
      have hm : p ∈ pre l ++ pre r := by
        rcases List.mem_cons.mp h with z | z
        · exact absurd z.symm e
        · exact z
      refine List.Perm.trans (List.Perm.cons x ?_) (List.Perm.swap ..)
      rcases List.mem_append.mp hm with z | z
      · have ho : ¬ p ∈ pre r := fun w => nlr p z p w rfl
        rw [mw ho]
        exact (List.Perm.append_right _ (qk z nl hl0 sl hf))
      · have ho : ¬ p ∈ pre l := fun w => nlr p w p z rfl
        rw [mw ho]
        exact (List.Perm.append_left _ (qk z nr hr0 sr hf)).trans List.perm_middle
theorem ik {g g' : Int → Int × Int} : ∀ {t : Tr}, Sl g t → (∀ x ∈ pre t, g' x = g x) → Sl g' t
  | .nil, _, _ => trivial
  | .node x l r, h, e => by
    refine ⟨by rw [e x (List.mem_cons_self ..)]; exact h.1, ik h.2.1 fun z hz => e z ?_, ik h.2.2 fun z hz => e z ?_⟩
    · exact List.mem_cons_of_mem _ (List.mem_append.mpr (.inl hz))
    · exact List.mem_cons_of_mem _ (List.mem_append.mpr (.inr hz))
theorem uv {p : Int} {s : Bool} {y : Int} {g g' : Int → Int × Int} : ∀ {t : Tr}, (pre t).Nodup → (∀ x ∈ pre t, x ≠ 0) → Sl g t → sd s (g p) = 0 → (∀ x ∈ pre t, x ≠ p → g' x = g x) → g' p = put s (g p) y → g' y = (0, 0) → Sl g' (ins p s y t)
  | .nil, _, _, _, _, _, _, _ => trivial
  | .node x l r, hn, h0, hs, hf, hg', hp, hy => by
    obtain ⟨hx, hn2⟩ := List.nodup_cons.mp hn
    obtain ⟨nl, nr, nlr⟩ := List.nodup_append.mp hn2
    have hl0 : ∀ z ∈ pre l, z ≠ 0 := fun z hz => h0 z (List.mem_cons_of_mem _ (List.mem_append.mpr (.inl hz)))
    have hr0 : ∀ z ∈ pre r, z ≠ 0 := fun z hz => h0 z (List.mem_cons_of_mem _ (List.mem_append.mpr (.inr hz)))
    have gl : ∀ z ∈ pre l, z ≠ p → g' z = g z := fun z hz => hg' z (List.mem_cons_of_mem _ (List.mem_append.mpr (.inl hz)))
    have gr : ∀ z ∈ pre r, z ≠ p → g' z = g z := fun z hz => hg' z (List.mem_cons_of_mem _ (List.mem_append.mpr (.inr hz)))
    obtain ⟨hg, sl, sr⟩ := hs
    have hxl : ∀ z ∈ pre l, z ≠ x := fun z hz e => hx (List.mem_append.mpr (.inl (e ▸ hz)))
    have hxr : ∀ z ∈ pre r, z ≠ x := fun z hz e => hx (List.mem_append.mpr (.inr (e ▸ hz)))
    unfold ins
    by_cases e : x = p
    · rw [if_pos e]
      subst e
      have sl' : Sl g' l := ik sl fun z hz => gl z hz (hxl z hz)
      have sr' : Sl g' r := ik sr fun z hz => gr z hz (hxr z hz)
      rw [hg] at hp
      cases s with
      | true => rw [if_pos rfl]; exact ⟨hp, sl', hy, trivial, trivial⟩
      | false => rw [if_neg (by decide)]; exact ⟨hp, ⟨hy, trivial, trivial⟩, sr'⟩
    · rw [if_neg e]
      refine ⟨?_, uv nl hl0 sl hf gl hp hy, uv nr hr0 sr hf gr hp hy⟩
      rw [qf, qf, hg' x (List.mem_cons_self ..) e]
      exact hg
end Tre
namespace K13
open PySem PySem.Spec L2 Mir Tre
structure InC (cs : ar) (t : Tr) : Prop where
  sl : Sl (fun x => (atc cs x).getD (0, 0)) t
  nz : ∀ x ∈ pre t, x ≠ 0
  there : ∀ x ∈ pre t, (atc cs x).isSome = true
noncomputable def fuel (ts : List Tr) : Nat := (ts.map fun t => 2 * (pre t).length + 1).sum
theorem ca (t : Tr) (ts : List Tr) : fuel (t :: ts) = 2 * (pre t).length + 1 + fuel ts := by unfold fuel; rw [List.map_cons, List.sum_cons]
theorem im {cs : ar} : ∀ (n : Nat) (ts : List Tr) (tk : List Int), (∀ t ∈ ts, InC cs t) → (tk ++ (ts.map pre).flatten).Nodup → fuel ts + 1 ≤ n → bx cs n (ts.map tip) tk = some (tk ++ (ts.map pre).flatten)
  | 0, _, _, _, _, h => absurd h (by lia)
  | n + 1, [], tk, _, _, _ => by
    show some tk = _
    simp
  | n + 1, .nil :: ts, tk, hi, hn, hf => by
    have ih := im n ts tk (fun t ht => hi t (List.mem_cons_of_mem _ ht)) hn (by rw [ca] at hf; simp only [pre, List.length_nil] at hf; lia)
    show (if (0 : Int) = 0 then bx cs n (ts.map tip) tk else _) = _
    rw [if_pos rfl, ih]
    rfl
  | n + 1, .node x l r :: ts, tk, hi, hn, hf => by
    have h1 := hi _ (List.mem_cons_self ..)
    have hx0 : ¬ x = 0 := h1.nz x (List.mem_cons_self ..)
    have hxs := h1.there x (List.mem_cons_self ..)
    have e : ((.node x l r :: ts).map pre).flatten = x :: (((l :: r :: ts).map pre).flatten) := by
      show (x :: (pre l ++ pre r)) ++ (ts.map pre).flatten = x :: (pre l ++ (pre r ++ (ts.map pre).flatten))
      rw [List.cons_append, List.append_assoc]
    rw [e] at hn ⊢
    have hnt : ¬ x ∈ tk := fun z => (List.nodup_append.mp hn).2.2 x z x (List.mem_cons_self ..) rfl
    have e2 : tk ++ x :: ((l :: r :: ts).map pre).flatten = (tk ++ [x]) ++ ((l :: r :: ts).map pre).flatten := by rw [List.append_assoc]; rfl
    rw [e2] at hn ⊢
    have inl : InC cs l := ⟨h1.sl.2.1, fun z hz => h1.nz z (List.mem_cons_of_mem _ (List.mem_append.mpr (.inl hz))), fun z hz => h1.there z (List.mem_cons_of_mem _ (List.mem_append.mpr (.inl hz)))⟩
    have inr : InC cs r := ⟨h1.sl.2.2, fun z hz => h1.nz z (List.mem_cons_of_mem _ (List.mem_append.mpr (.inr hz))), fun z hz => h1.there z (List.mem_cons_of_mem _ (List.mem_append.mpr (.inr hz)))⟩
    have ih := im n (l :: r :: ts) (tk ++ [x]) (fun t ht => by
      rcases List.mem_cons.mp ht with rfl | ht
      · exact inl
      · rcases List.mem_cons.mp ht with rfl | ht
        · exact inr
        · exact hi t (List.mem_cons_of_mem _ ht)) hn (by
      rw [ca] at hf
      rw [ca, ca]
      simp only [pre, List.length_cons, List.length_append] at hf
      lia)
    cases hc : atc cs x with
    | none => rw [hc] at hxs; cases hxs
    | some c =>
      have hg : c = (tip l, tip r) := by
        have h2 : (atc cs x).getD (0, 0) = (tip l, tip r) := h1.sl.1
        rw [hc] at h2
        exact h2
      show (if x = 0 then _ else if x ∈ tk then none else match atc cs x with | none => none | some c => bx cs n (c.1 :: c.2 :: ts.map tip) (tk ++ [x])) = _
      rw [if_neg hx0, if_neg hnt, hc, hg]
      exact ih
theorem zc {cs : ar} {t : Tr} (h : InC cs t) (hn : (pre t).Nodup) : gj cs (tip t) = some (pre t) := by
  have hw : Went cs (pre t) := ⟨hn, h.there⟩
  have hl := hw.len
  have := im (cs := cs) (2 * cs.length + 2) [t] [] (fun u hu => by rw [List.mem_singleton.mp hu]; exact h) (by simpa using hn) (by rw [ca]; unfold fuel; simp; lia)
  simpa [gj] using this
theorem rn {cs : ar} {e : Int} : ∀ (ns tk : List Int) (n : Nat), (tk ++ ns).Nodup → (∀ x ∈ ns, x ≠ e) → (∀ i (hi : i < ns.length), ∃ f, atc cs ns[i] = some (f, (ns ++ [e]).getD (i + 1) 0)) → ns.length + 1 ≤ n → dl cs e n ((ns ++ [e]).getD 0 0) tk = some (tk ++ ns)
  | [], tk, n, _, _, _, hn => by
    obtain ⟨k, rfl⟩ : ∃ k, n = k + 1 := ⟨n - 1, by simp at hn; lia⟩
    show (if e = e then some tk else _) = _
    rw [if_pos rfl, List.append_nil]
  | x :: ns, tk, n, hnd, hne, hc, hn => by
    obtain ⟨k, rfl⟩ : ∃ k, n = k + 1 := ⟨n - 1, by simp at hn; lia⟩
    have hx : ¬ x ∈ tk := fun z => (List.nodup_append.mp hnd).2.2 x z x (List.mem_cons_self ..) rfl
    obtain ⟨f, hf⟩ := hc 0 (by simp)
    have hf' : atc cs x = some (f, (ns ++ [e]).getD 0 0) := hf
    have e2 : tk ++ x :: ns = (tk ++ [x]) ++ ns := by rw [List.append_assoc]; rfl
    show (if x = e then some tk else if x ∈ tk then none else match atc cs x with | none => none | some c => dl cs e k c.2 (tk ++ [x])) = _
    rw [if_neg (hne x (List.mem_cons_self ..)), if_neg hx, hf', e2]
    refine rn ns (tk ++ [x]) k (by rw [← e2]; exact hnd) (fun y hy => hne y (List.mem_cons_of_mem _ hy)) (fun i hi => ?_) (by simp at hn; lia)
    have := hc (i + 1) (by simp; lia)
    simpa using this
theorem ut {cs : ar} {e : Int} {ns : List Int} (hnd : ns.Nodup) (hne : ∀ x ∈ ns, x ≠ e) (hc : ∀ i (hi : i < ns.length), ∃ f, atc cs ns[i] = some (f, (ns ++ [e]).getD (i + 1) 0)) : di cs ((ns ++ [e]).getD 0 0) e = some ns := by
  have hw : Went cs ns := ⟨hnd, fun x hx => by
    obtain ⟨i, hi, rfl⟩ := List.getElem_of_mem hx
    obtain ⟨f, hf⟩ := hc i hi
    rw [hf]; rfl⟩
  have hl := hw.len
  have := rn (cs := cs) (e := e) ns [] (cs.length + 1) (by simpa using hnd) hne hc (by lia)
  simpa [di] using this
end K13
namespace K13
open PySem PySem.Spec L2 Mir Tre
inductive spRowXS (K : PySem.W.Frag) (vs : List V) (H : Hp) (Q : VK) : Prop
  | mk (h : Addr) (T : Tr) (cs : ar) (h0 : vs = [.ref h, .int (tip T)]) (h1 : HeapAt K H h cs) (h2 : InC cs T) (h3 : (pre T).length ≤ 10) (h4 : ∀ l H', Same H H' → H l = none → H' l = some (.lst ((pre T).map V.int)) → Q (.ref l) H') : spRowXS K vs H Q
noncomputable def a0j (K : PySem.W.Frag) : Sp := fun vs H Q _ => spRowXS K vs H Q
theorem vw : ∀ ts : List Tr, ts.length ≤ fuel ts
  | [] => Nat.zero_le _
  | t :: ts => by
    have := vw ts
    rw [ca, List.length_cons]; lia
section
variable {P : Program} {w : World} {K : PySem.W.Frag} {mg : Str → Option Value} {base : Heap} {f : Addr} {fd : FuncData}
theorem a4k (C : Con K mg w) (F : Fun K "_law_row" "_law_row" sRow f fd) : FnOk P w K mg base CX0 1 f fd ["_law_heap", "_law_top"] (a0j K) := by
  refine F.okQ scRow (fun vs H Q E h => ?_) (fun cdv A outer s0 H vs Q E hr h => ?_)
  · obtain ⟨h, T, cs, rfl, _⟩ := h; rfl
  obtain ⟨h, T, cs, rfl, ⟨hp, hH, hC0⟩, hT, hs10, q⟩ := h
  have nd := scRow.nd
  have hu1 := dw hr
  have hu := Nat.lt_of_le_of_lt (Nat.add_le_add_left (show 32 ≤ 64 by decide) _) hr.units
  refine ⟨_, ae (al (i := 2) nd rfl (Or.inl rfl) (ay ac))
    (ae (al (i := 3) nd rfl (Or.inl rfl) (ay (af (qv 1) ac)))
    (ae (oj PassesOwn.never (av (neDk (K := K) rfl hu) (qv 3) (ay ac) (au _)) (ae (al (i := 4) nd rfl (Or.inl rfl) (aq (ixKk (K := K) rfl) (qv 3) ag (fun _ _ => rfl)))
    (ae (al (i := 3) nd rfl (Or.inl rfl) (cn (slLk (K := K) rfl) (qv 3) (cg ag) dz))
    (am (bd (av pg (qv 4) ag (au _)) (ae (bi (ce (K := K) rfl PySem.F.plainAttrs_list PySem.F.slot_list_append PySem.F.type_list_append bq (qv 2) (af (qv 4) ac)))
    (am (al (i := 3) nd rfl (Or.inl rfl) (ai cx (ay (ax (aq (ixTk (K := K) rfl) (ck hu1 (qv 0) (qv 4) (fun _ _ => rfl)) ag (fun _ _ => rfl)) (ax (aq (ixTk (K := K) rfl) (ck hu1 (qv 0) (qv 4) (fun _ _ => rfl)) ag (fun _ _ => rfl)) ac))) (qv 3))))) b9)))))
    (am (az (qv 2))))), ?_⟩
  refine ⟨Nat.zero_le _, fun rl hrl => ?_⟩
  have s1 := ad hrl (.lst [])
  refine ⟨_, rfl, (show 1 ≤ sizeLine by decide), fun c0 hc0 => ?_⟩
  have s2 := ad hc0 (.lst [.int (tip T)])
  have hrc : rl ≠ c0 := aj (show (upd H rl (.lst [])) rl = _ from aa) hc0
  have hhl : h ≠ rl := aj hH hrl
  refine a4d (fun m σ H' => Same H H' ∧ Ex4 fun (cl : Addr) (ts : List Tr) (tk : List Int) (z : Option V) => And8 (H' rl = some (.lst (tk.map V.int))) (H' cl = some (.lst ((ts.map tip).map V.int))) (cl ≠ rl) ((∀ t ∈ ts, InC cs t)) (m = fuel ts) (tk ++ (ts.map pre).flatten = pre T) (fuel ts ≤ 100) (σ = [some (.ref h), some (.int (tip T)), some (.ref rl), some (.ref cl), z]))
    (m0 := fuel [T]) ⟨s1.trans s2, c0, [T], [], none, s2 _ _ aa, aa, Ne.symm hrc, (fun t ht => by rw [List.mem_singleton.mp ht]; exact hT), rfl, by simp, by rw [ca]; unfold fuel; simp; lia, rfl⟩ ?_ ?_
  · rintro m σ H' ⟨e, cl, ts, tk, z, hR, hC, hne, hI, rfl, hW, hF, rfl⟩
    refine ⟨_, rfl, Nat.zero_le _, fun ln hln => ?_⟩
    have s3 := ad hln (.lst [])
    refine ⟨.list ((ts.map tip).map .int), .list [], .lst (SqL.of (s3 _ _ hC)) (jy _), .lst (SqL.of aa) .nil, iz _, iz [], _, rfl, iteB (fun c => ?_) (fun c => ?_)⟩
    · rw [lv] at c
      cases ts with
      | nil => cases c
      | cons t ts =>
        have e3 := e.trans s3
        have hR3 := s3 _ _ hR
        have hC3 := s3 _ _ hC
        generalize upd H' ln (.lst []) = H3 at e3 hR3 hC3 ⊢
        refine ⟨_, rfl, cl, _, 0, .int (tip t), rfl, rfl, SqL.of hC3, bu (j := 0) rfl, ?_⟩
        refine ⟨_, rfl, _, rfl, cl, _, rfl, SqL.of hC3, fun c2 hc2 => ?_⟩
        have ecut : cutV (((t :: ts).map tip).map V.int) (some 1) none = (ts.map tip).map V.int := y9 _ (by simp)
        rw [ecut]
        have s4 := ad hc2 (.lst ((ts.map tip).map V.int))
        have e4 := e3.trans s4
        have hR4 := s4 _ _ hR3
        have hC4 : (upd H3 c2 (.lst ((ts.map tip).map V.int))) c2 = some (.lst ((ts.map tip).map V.int)) := aa
        have hne2 : c2 ≠ rl := Ne.symm (aj hR3 hc2)
        generalize upd H3 c2 (.lst ((ts.map tip).map V.int)) = H4 at e4 hR4 hC4 ⊢
        have hlen : tk.length ≤ 10 := by
          have := congrArg List.length hW
          rw [List.length_append] at this
          lia
        have hfl := vw ts
        rw [ca] at hF
        have hI1 := hI t (List.mem_cons_self ..)
        have hI2 : ∀ u ∈ ts, InC cs u := fun u hu' => hI u (List.mem_cons_of_mem _ hu')
        refine ⟨_, rfl, rfl, _, rfl, iteB (fun c3 => ?_) (fun c3 => ?_)⟩
        · cases t with
          | nil => simp [tip] at c3
          | node x l r =>
            obtain ⟨rr, a1, b1, e0, e1, hc⟩ : ∃ rr a1 b1, atc cs x = some (a1, b1) ∧ valV (hv hp) (Sum.inl x) = some (.ref rr) ∧ SqT K H rr [.int a1, .int b1] := by
              rcases fc hC0 x with ⟨e0, _⟩ | h2
              · have := hI1.there x (List.mem_cons_self ..); rw [e0] at this; cases this
              · exact h2
            have hg : (a1, b1) = (tip l, tip r) := by
              have h2 : (atc cs x).getD (0, 0) = (tip l, tip r) := hI1.sl.1
              rw [e0] at h2; exact h2
            cases hg
            refine ⟨_, rfl, .inl ⟨rfl, _, SqL.of hR4⟩, _, rfl, rl, _, .int x, rfl, rfl, hR4, ?_, ?_⟩
            · rw [List.length_map]; exact Nat.lt_of_le_of_lt (show tk.length ≤ 1000 by lia) (by decide)
            have e5 := br hrl e4 (.lst (tk.map V.int ++ [.int x]))
            have h15 : (upd H4 rl (.lst (tk.map V.int ++ [.int x]))) h = some (.dK (hv hp)) := e5 _ _ hH
            have hc5 := e5.seqT hc
            have hR5 : (upd H4 rl (.lst (tk.map V.int ++ [.int x]))) rl = some (.lst ((tk ++ [x]).map V.int)) := by rw [aa, List.map_append]; rfl
            have hC5 : (upd H4 rl (.lst (tk.map V.int ++ [.int x]))) c2 = some (.lst ((ts.map tip).map V.int)) := by rw [ah hne2]; exact hC4
            generalize upd H4 rl (.lst (tk.map V.int ++ [.int x])) = H5 at e5 h15 hc5 hR5 hC5 ⊢
            have g := DGet.k (k := Sum.inl x) h15
            rw [e1] at g
            refine ⟨_, rfl, _, rfl, h, .ref rr, rfl, g, rr, _, 0, .int (tip l), rfl, rfl, hc5, rfl, _, rfl, _, rfl, h, .ref rr, rfl, g, rr, _, 1, .int (tip r), rfl, rfl, hc5, rfl, (show 2 ≤ sizeLine by decide), fun l2 hl2' => ?_⟩
            have s6 := ad hl2' (.lst [.int (tip l), .int (tip r)])
            refine ⟨_, rfl, l2, c2, _, _, rfl, rfl, aa, s6 _ _ hC5, ?_, fun l3 hl3 => ?_⟩
            · rw [List.length_map, List.length_map]
              exact Nat.le_trans (show 2 + ts.length ≤ 1000 by lia) (by decide)
            have s7 := ad hl3 (.lst (((l :: r :: ts).map tip).map V.int))
            have hf2 : fuel (l :: r :: ts) < fuel (.node x l r :: ts) := by
              rw [ca, ca, ca]
              simp only [pre, List.length_cons, List.length_append]; lia
            refine ⟨fuel (l :: r :: ts), hf2, e5.trans (s6.trans s7), l3, l :: r :: ts, tk ++ [x], _, s7 _ _ (s6 _ _ hR5), aa, Ne.symm (aj (s6 _ _ hR5) hl3), (fun u hu' => ?_), rfl, ?_, by rw [ca] at hf2; rw [ca] at hf2 ⊢; rw [ca] at hf2 ⊢; lia, rfl⟩
            · rcases List.mem_cons.mp hu' with rfl | hu'
              · exact ⟨hI1.sl.2.1, fun z hz => hI1.nz z (List.mem_cons_of_mem _ (List.mem_append.mpr (.inl hz))), fun z hz => hI1.there z (List.mem_cons_of_mem _ (List.mem_append.mpr (.inl hz)))⟩
              · rcases List.mem_cons.mp hu' with rfl | hu'
                · exact ⟨hI1.sl.2.2, fun z hz => hI1.nz z (List.mem_cons_of_mem _ (List.mem_append.mpr (.inr hz))), fun z hz => hI1.there z (List.mem_cons_of_mem _ (List.mem_append.mpr (.inr hz)))⟩
                · exact hI2 u hu'
            · rw [← hW]; simp [pre]
        · have ht0 : t = .nil := by
            cases t with
            | nil => rfl
            | node x l r =>
              have := hI1.nz x (List.mem_cons_self ..)
              simp [tip, this] at c3
          subst ht0
          exact ⟨fuel ts, (by rw [ca]; lia), e4, c2, ts, tk, _, hR4, hC4, hne2, hI2, rfl, (by rw [← hW]; simp [pre]), by lia, rfl⟩
    · rw [lv] at c
      have hts : ts = [] := by
        cases ts with
        | nil => rfl
        | cons t ts => simp at c
      subst hts
      have htk : tk = pre T := by simpa using hW
      exact ⟨_, rfl, q rl _ (e.trans s3) hrl (by rw [← htk]; exact s3 _ _ hR)⟩
  · rintro σ H1 Q Q' hQ ⟨v, h1, h2, h3⟩
    refine ⟨v, h1, h2, fun l hl => ?_⟩
    obtain ⟨a, b, c1, c2, c3, c4, c5⟩ := h3 l hl
    obtain ⟨b', c6, c7⟩ := c5
    exact ⟨a, b, c1, c2, c3, c4, b', c6, hQ _ _ c7⟩
end
end K13
namespace K13
open PySem PySem.Spec L2 Mir Tre
noncomputable def gOf (ss : List Int) (xy : List (Int × Int)) (x : Int) : Int × Int := xy.getD (ss.idxOf x) (0, 0)
structure Grow (ss : List Int) (k : Nat) (xy : List (Int × Int)) (fr : List (Nat × Bool)) : Prop where
  len : xy.length = k
  fl : fr.length = k + 1
  ini : k = 0 → fr = [(0, false)]
  tree : 0 < k → ∃ T, tip T = ss.getD 0 0 ∧ (pre T).Perm (ss.take k) ∧ Sl (gOf ss xy) T
  free : 0 < k → fr.Nodup ∧ ∀ p ∈ fr, p.1 < k ∧ sd p.2 (xy.getD p.1 (0, 0)) = 0
theorem a66 {ss : List Int} (hn : ss.Nodup) {i : Nat} (hi : i < ss.length) : ss.idxOf ss[i] = i := by
  have h1 : ss.idxOf ss[i] < ss.length := List.idxOf_lt_length_of_mem (List.getElem_mem hi)
  exact ff hn h1 hi (List.getElem_idxOf h1)
theorem jn {ss : List Int} (hn : ss.Nodup) {xy : List (Int × Int)} {i : Nat} (hi : i < ss.length) : gOf ss xy ss[i] = xy.getD i (0, 0) := by
  unfold gOf; rw [a66 hn hi]
theorem j3 {ss : List Int} {k : Nat} {x : Int} (h : x ∈ ss.take k) : ∃ i, ∃ hi : i < ss.length, i < k ∧ ss[i] = x := by
  obtain ⟨i, hi, rfl⟩ := List.getElem_of_mem h
  rw [List.length_take] at hi
  exact ⟨i, by lia, by lia, by rw [List.getElem_take]⟩
theorem a2b {α : Type} {l : List α} (h : l.Nodup) {j : Nat} (hj : j < l.length) : ¬ l[j] ∈ l.eraseIdx j := by
  have e : l.take j ++ l[j] :: l.drop (j + 1) = l := by rw [← List.drop_eq_getElem_cons, List.take_append_drop]
  have h2 : (l.take j ++ l[j] :: l.drop (j + 1)).Nodup := by rw [e]; exact h
  rw [List.eraseIdx_eq_take_drop_succ]
  intro z
  rcases List.mem_append.mp z with z | z
  · exact (List.nodup_append.mp h2).2.2 _ z _ (List.mem_cons_self ..) rfl
  · exact (List.nodup_cons.mp (List.nodup_append.mp h2).2.1).1 z
theorem zf {ss : List Int} {xy : List (Int × Int)} {fr : List (Nat × Bool)} (hn : ss.Nodup) (h0 : 0 < ss.length) (G : Grow ss 0 xy fr) {j : Nat} (hj : j < fr.length) : Grow ss 1 (xy ++ [(0, 0)]) (fr.eraseIdx j ++ [(0, false)] ++ [(0, true)]) := by
  have hfr := G.ini rfl
  subst hfr
  have hj0 : j = 0 := by simpa using hj
  subst hj0
  have hx : xy = [] := List.length_eq_zero_iff.mp G.len
  subst hx
  refine ⟨rfl, rfl, (fun z => by cases z), fun _ => ⟨.node (ss.getD 0 0) .nil .nil, rfl, ?_, ?_, trivial, trivial⟩, fun _ => ⟨by decide, fun p hp => ?_⟩⟩
  · cases ss with
    | nil => simp at h0
    | cons x l => exact List.Perm.refl _
  · cases ss with
    | nil => simp at h0
    | cons x l =>
      show gOf (x :: l) [(0, 0)] x = (0, 0)
      unfold gOf
      simp
  · have : p = (0, false) ∨ p = (0, true) := by simpa using hp
    rcases this with rfl | rfl <;> exact ⟨by decide, rfl⟩
theorem zr {ss : List Int} {k : Nat} {xy : List (Int × Int)} {fr : List (Nat × Bool)} (hn : ss.Nodup) (hz : ∀ x ∈ ss, x ≠ 0) (hk0 : 0 < k) (hk : k < ss.length) (G : Grow ss k xy fr) {j a : Nat} {s : Bool} (hj : fr[j]? = some (a, s)) :
    Grow ss (k + 1) (xy.set a (put s (xy.getD a (0, 0)) ss[k]) ++ [(0, 0)]) (fr.eraseIdx j ++ [(k, false)] ++ [(k, true)]) := by
  obtain ⟨T, ht, hp, hs⟩ := G.tree hk0
  obtain ⟨hfn, hff⟩ := G.free hk0
  have hjl := (List.getElem?_eq_some_iff.mp hj).1
  have hja := (List.getElem?_eq_some_iff.mp hj).2
  obtain ⟨ha, hsd⟩ := hff (a, s) (List.mem_of_getElem? hj)
  have ha' : a < ss.length := Nat.lt_trans ha hk
  have hxl := G.len
  have hpn : (pre T).Nodup := hp.nodup_iff.mpr (List.Nodup.sublist (List.take_sublist k ss) hn)
  have hpz : ∀ x ∈ pre T, x ≠ 0 := fun x hx => hz x (List.mem_of_mem_take (hp.mem_iff.mp hx))
  have hin : ss[a] ∈ pre T := hp.mem_iff.mpr (by rw [List.mem_take_iff_getElem]; exact ⟨a, by lia, rfl⟩)
  have hg0 : gOf ss xy ss[a] = xy.getD a (0, 0) := jn hn ha'
  have hnew : ∀ i, i < k → (xy.set a (put s (xy.getD a (0, 0)) ss[k]) ++ [(0, 0)]).getD i (0, 0) = if i = a then put s (xy.getD a (0, 0)) ss[k] else xy.getD i (0, 0) := fun i hi => by
    rw [List.getD_eq_getElem?_getD, List.getElem?_append_left (by rw [List.length_set]; lia), List.getElem?_set]
    by_cases e : a = i
    · subst e; simp [hxl, ha]
    · have e' : ¬ i = a := fun z => e z.symm
      rw [if_neg e, if_neg e', List.getD_eq_getElem?_getD]
  have hlast : (xy.set a (put s (xy.getD a (0, 0)) ss[k]) ++ [(0, 0)]).getD k (0, 0) = (0, 0) := by
    rw [List.getD_eq_getElem?_getD, List.getElem?_append_right (by rw [List.length_set]; lia), List.length_set, hxl]
    simp
  refine ⟨?_, ?_, (fun z => by cases z), fun _ => ⟨ins ss[a] s ss[k] T, by rw [qf]; exact ht, ?_, ?_⟩, fun _ => ⟨?_, fun p hp' => ?_⟩⟩
  · rw [List.length_append, List.length_set, hxl]; rfl
  · rw [List.length_append, List.length_append, List.length_eraseIdx, if_pos hjl, G.fl]
    simp
  · have e : ss.take (k + 1) = ss.take k ++ [ss[k]] := by rw [List.take_add_one, List.getElem?_eq_getElem hk]; rfl
    rw [e]
    have h1 := qk (y := ss[k]) hin hpn hpz hs (by rw [hg0]; exact hsd)
    exact h1.trans ((List.Perm.cons _ hp).trans (List.perm_append_singleton ss[k] (ss.take k)).symm)
  · refine uv hpn hpz hs (by rw [hg0]; exact hsd) (fun x hx hne => ?_) ?_ ?_
    · obtain ⟨i, hi, hik, rfl⟩ := j3 (hp.mem_iff.mp hx)
      rw [jn hn hi, jn hn hi, hnew i hik, if_neg (fun z => hne (by subst z; rfl))]
    · rw [jn hn ha', hnew a ha, if_pos rfl, hg0]
    · rw [jn hn hk]; exact hlast
  · have her : (fr.eraseIdx j).Nodup := List.Nodup.sublist (List.eraseIdx_sublist fr j) hfn
    have hlt : ∀ p ∈ fr.eraseIdx j, p.1 < k := fun p hp' => (hff p (List.mem_of_mem_eraseIdx hp')).1
    refine g5 (g5 her fun z => ?_) fun z => ?_
    · exact absurd (hlt _ z) (Nat.lt_irrefl k)
    · rcases List.mem_append.mp z with z | z
      · exact absurd (hlt _ z) (Nat.lt_irrefl k)
      · simp at z
  · rcases List.mem_append.mp hp' with z | z
    · rcases List.mem_append.mp z with z | z
      · have hm := List.mem_of_mem_eraseIdx z
        obtain ⟨h1, h2⟩ := hff p hm
        refine ⟨by lia, ?_⟩
        rw [hnew p.1 h1]
        by_cases e : p.1 = a
        · rw [if_pos e]
          have hps : p.2 ≠ s := fun w => by
            have hpe : p = fr[j] := by rw [hja]; exact Prod.ext e w
            rw [hpe] at z
            exact a2b hfn hjl z
          rw [e] at h2
          cases s <;> cases hp2 : p.2 <;> simp_all [sd, put]
        · rw [if_neg e]; exact h2
      · have : p = (k, false) := by simpa using z
        subst this
        exact ⟨Nat.lt_succ_self k, by show sd false _ = 0; rw [hlast]; rfl⟩
    · have : p = (k, true) := by simpa using z
      subst this
      exact ⟨Nat.lt_succ_self k, by show sd true _ = 0; rw [hlast]; rfl⟩
end K13
namespace K13
open PySem PySem.Spec L2 Mir Tre
theorem gc {α β : Type} {R : α → β → Prop} : ∀ {xs : List α} {ys : List β}, xs.length = ys.length → (∀ i (hx : i < xs.length) (hy : i < ys.length), R xs[i] ys[i]) → Paired R xs ys
  | [], [], _, _ => .nil
  | x :: xs, y :: ys, hl, h => .cons (h 0 (by simp) (by simp)) (gc (by simpa using hl) fun i hx hy => by
      have := h (i + 1) (by simpa using hx) (by simpa using hy)
      simpa using this)
theorem dc {α β : Type} {R : α → β → Prop} : ∀ {xs : List α} {ys : List β}, Paired R xs ys → ∀ i (hx : i < xs.length) (hy : i < ys.length), R xs[i] ys[i]
  | _, _, .nil, i, hx, _ => by simp at hx
  | _, _, .cons h t, 0, _, _ => h
  | _, _, .cons h t, i + 1, hx, hy => dc t i (by simpa using hx) (by simpa using hy)
theorem lw {α β : Type} {R : α → β → Prop} : ∀ {xs : List α} {ys : List β}, Paired R xs ys → ∀ j, Paired R (xs.eraseIdx j) (ys.eraseIdx j)
  | _, _, .nil, _ => .nil
  | _, _, .cons h t, 0 => t
  | _, _, .cons h t, j + 1 => .cons h (lw t j)
noncomputable def bI (s : Bool) : Int := if s = true then 1 else 0
noncomputable def FrAt (H : Hp) (fas : List Addr) (fr : List (Nat × Bool)) : Prop := Paired (fun fa p => H fa = some (.tup [.int ((p : Nat × Bool).1 : Int), .int (bI p.2)])) fas fr
noncomputable def RwAt (H : Hp) (ras : List Addr) (xy : List (Int × Int)) : Prop := Paired (fun r c => H r = some (.lst [.int (c : Int × Int).1, .int c.2])) ras xy
noncomputable def KidX (k a : Nat) (s : Bool) (ras : List Addr) (v : Int) (H H2 : Hp) : Prop := (k = 0 ∧ H2 = H) ∨ (0 < k ∧ ∃ (ha : a < ras.length) (x y : Int), H ras[a] = some (.lst [.int x, .int y]) ∧ H2 = upd H ras[a] (.lst [.int (put s (x, y) v).1, .int (put s (x, y) v).2]))
noncomputable def a3s (K : PySem.W.Frag) : TS := fun D σ H => ∃ (k a : Nat) (s : Bool) (v : Int) (rl sl : Addr) (ras : List Addr) (ss : List Int), σ[5]? = some (some (.int (0 + (k : Int)))) ∧ σ[6]? = some (some (.int (a : Int))) ∧ σ[7]? = some (some (.int (bI s))) ∧ σ[4]? = some (some (.ref rl)) ∧ σ[1]? = some (some (.ref sl)) ∧ H rl = some (.lst (ras.map V.ref)) ∧ H sl = some (.lst (ss.map V.int)) ∧ ss[k]? = some v ∧
  (0 < k → ∃ ha : a < ras.length, ∃ x y, H ras[a] = some (.lst [.int x, .int y])) ∧ ∀ H2, KidX k a s ras v H H2 → D.nx σ H2
theorem a1b {K : PySem.W.Frag} (D : Ends) (σ : St) (H : Hp) (h : a3s K D σ H) : tIfS (sv (tOp (rI0 fun i j => V.bl (decide (j < i))) (tVar 5) (tC (V.int 0)))) (tAsg (tOp (rIxL K) (tVar 1) (tVar 5)) (gSub (tOp (rIxL K) (tVar 4) (tVar 6)) (tVar 7) a3m)) yt D σ H := by
  obtain ⟨k, a, s, v, rl, sl, ras, ss, h5, h6, h7, h4, h1, hR, hS, hv, hk, q⟩ := h
  refine ⟨_, h5, _, _, rfl, rfl, _, rfl, iteB (fun c => ?_) (fun c => q _ (.inl ⟨?_, rfl⟩))⟩
  · have c' : 0 < k := by have : (0 : Int) < 0 + (k : Int) := by simpa using c
                          lia
    obtain ⟨ha, x, y, hxy⟩ := hk c'
    have hat : atI (ss.map V.int) (0 + (k : Int)) = some (.int v) := by rw [Int.zero_add]; exact bu (by rw [List.getElem?_map, hv]; rfl)
    have har : atI (ras.map V.ref) (a : Int) = some (.ref ras[a]) := bu (by rw [List.getElem?_map, List.getElem?_eq_getElem ha]; rfl)
    cases s with
    | false => exact ⟨_, h1, _, h5, sl, _, _, .int v, rfl, rfl, SqL.of hS, hat, _, h4, _, h6, rl, _, _, .ref ras[a], rfl, rfl, SqL.of hR, har, _, h7, ras[a], _, _, 0, rfl, rfl, hxy, rfl, q _ (.inr ⟨c', ha, x, y, hxy, rfl⟩)⟩
    | true => exact ⟨_, h1, _, h5, sl, _, _, .int v, rfl, rfl, SqL.of hS, hat, _, h4, _, h6, rl, _, _, .ref ras[a], rfl, rfl, SqL.of hR, har, _, h7, ras[a], _, _, 1, rfl, rfl, hxy, rfl, q _ (.inr ⟨c', ha, x, y, hxy, rfl⟩)⟩
  · have c' : ¬ (0 : Int) < 0 + (k : Int) := by simpa using c
    lia
inductive spTreeXS (K : PySem.W.Frag) (vs : List V) (H : Hp) (Q : VK) : Prop
  | mk (xl sl h : Addr) (xs ss : List Int) (cs : ar) (h0 : vs = [.ref xl, .ref sl, .ref h]) (h1 : H xl = some (.lst (xs.map V.int))) (h2 : H sl = some (.lst (ss.map V.int))) (h3 : ss.length ≤ xs.length) (h4 : ss.length ≤ 10) (h5 : ss.Nodup) (h6 : (∀ x ∈ ss, x ≠ 0)) (h7 : HeapAt K H h cs) (h8 : cs.length ≤ 100) (h9 : (∀ x ∈ ss, atc cs x = none)) (h10 : ∀ cs' T H', Kp (· = h) H H' → HeapAt K H' h cs' → cs'.length = cs.length + ss.length → (∀ x, ¬ x ∈ ss → atc cs' x = atc cs x) → InC cs' T → tip T = (ss ++ [0]).getD 0 0 → (pre T).Perm ss → Q .non H') : spTreeXS K vs H Q
noncomputable def xo (K : PySem.W.Frag) : Sp := fun vs H Q _ => spTreeXS K vs H Q
section
variable {P : Program} {w : World} {K : PySem.W.Frag} {mg : Str → Option Value} {base : Heap} {f : Addr} {fd : FuncData}
theorem a37 (C : Con K mg w) (F : Fun K "_law_tree" "_law_tree" n9 f fd) : FnOk P w K mg base CX0 1 f fd ["_law_xs", "_law_spots", "_law_heap"] (xo K) := by
  refine F.okQ scTree (fun vs H Q E h => ?_) (fun cdv A outer s0 H vs Q E hr h => ?_)
  · obtain ⟨xl, sl, h, xs, ss, cs, rfl, _⟩ := h; rfl
  obtain ⟨xl, sl, h, xs, ss, cs, rfl, hX, hS, hxs, hs10, hsn0, hsz, ⟨hp, hH, hC⟩, hpl, hfree, q⟩ := h
  have nd := scTree.nd
  have hu1 := dw hr
  refine ⟨_, ae (al (i := 3) nd rfl (Or.inl rfl) (ay (fu (b8 (b8 ac)) ac)))
    (ae (al (i := 4) nd rfl (Or.inl rfl) (ay ac))
    (ae (cr PassesOwn.never rfl (bw rfl C.range (bh (b7 (dk (K := K) rfl) rfl C.len PySem.boot_len (af (qv 1) ac)) ac)) (ba (i := 5) nd rfl (Or.inl rfl)) (ae (fh (ce (K := K) rfl PySem.F.plainAttrs_list PySem.F.slot_list_pop PySem.F.type_list_pop tz (qv 3) (cz (ai b0 (aq (ixKk (K := K) rfl) (qv 0) (qv 5) (fun _ _ => rfl)) (b7 (dk (K := K) rfl) rfl C.len PySem.boot_len (af (qv 3) ac))) ac)) (ng (ba (i := 6) nd rfl (Or.inl rfl)) (ba (i := 7) nd rfl (Or.inl rfl))))
    (ae (cu (t' := a3s K) (bd (av a3o (qv 5) ag (au _)) (am (fh (aq (ixKk (K := K) rfl) (qv 1) (qv 5) (fun _ _ => rfl)) (mh (aq (ixKk (K := K) rfl) (qv 4) (qv 6) (fun _ _ => rfl)) (qv 7) ir))) b9) (a1b))
    (ae (bi (ce (K := K) rfl PySem.F.plainAttrs_list PySem.F.slot_list_append PySem.F.type_list_append bq (qv 3) (fu (af (qv 5) (b8 ac)) ac)))
    (ae (bi (ce (K := K) rfl PySem.F.plainAttrs_list PySem.F.slot_list_append PySem.F.type_list_append bq (qv 3) (fu (af (qv 5) (b8 ac)) ac)))
    (am (bi (ce (K := K) rfl PySem.F.plainAttrs_list PySem.F.slot_list_append PySem.F.type_list_append bq (qv 4) (ku (b8 (b8 ac)) ac)))))))))
    (am (cr PassesOwn.never rfl (bw rfl C.range (bh (b7 (dk (K := K) rfl) rfl C.len PySem.boot_len (af (qv 1) ac)) ac)) (ba (i := 5) nd rfl (Or.inl rfl)) (am (cj hu1 (qv 2) (aq (ixKk (K := K) rfl) (qv 1) (qv 5) (fun _ _ => rfl)) (d0 (ax (aq (ixKk (K := K) rfl) (aq (ixKk (K := K) rfl) (qv 4) (qv 5) (fun _ _ => rfl)) ag (fun _ _ => rfl)) (ax (aq (ixKk (K := K) rfl) (aq (ixKk (K := K) rfl) (qv 4) (qv 5) (fun _ _ => rfl)) ag (fun _ _ => rfl)) ac))))))))), ?_⟩
  refine ⟨(show 2 ≤ sizeLine by decide), fun t0 ht0 => ⟨(show 1 ≤ sizeLine by decide), fun fl hfl => ?_⟩⟩
  have s1 := ad ht0 (.tup [.int 0, .int 0])
  have s2 := s1.trans (ad hfl (.lst [.ref t0]))
  refine ⟨Nat.zero_le _, fun rl hrl => ?_⟩
  have s3 := s2.trans (ad hrl (.lst []))
  have hfl0 : H fl = none := s1.free hfl
  have hrl0 : H rl = none := s2.free hrl
  have hfr : fl ≠ rl := aj (show (upd (upd H t0 (.tup [.int 0, .int 0])) fl (.lst [.ref t0])) fl = _ from aa) hrl
  refine ⟨_, rfl, sl, _, rfl, .inl (SqL.of (s3 _ _ hS)), _, rfl, (by rw [List.length_map]; lia), (by rw [List.length_map]; lia), ?_⟩
  have hsn : ((((ss.map V.int).length : Nat) : Int)).toNat = ss.length := by rw [List.length_map]; lia
  refine cf (lo := 0) (n := ((((ss.map V.int).length : Nat) : Int)).toNat) (fun k σ H' => Same H H' ∧ Ex7 fun (fas ras : List Addr) (fr : List (Nat × Bool)) (xy : List (Int × Int)) (z5 z6 z7 : Option V) => And8 (H' fl = some (.lst (fas.map V.ref))) (FrAt H' fas fr) (H' rl = some (.lst (ras.map V.ref))) (ras.Nodup) ((∀ r ∈ ras, H r = none ∧ r ≠ fl ∧ r ≠ rl)) (RwAt H' ras xy) (Grow ss k xy fr) (σ = [some (.ref xl), some (.ref sl), some (.ref h), some (.ref fl), some (.ref rl), z5, z6, z7])) ⟨s3, [t0], [], [(0, false)], [], none, none, none, ad hrl _ _ _ aa, .cons (ad hrl _ _ _ (ad hfl _ _ _ aa)) .nil, aa, List.nodup_nil, (fun r hr => by simp at hr), .nil, ⟨rfl, rfl, fun _ => rfl, fun z => absurd z (by lia), fun z => absurd z (by lia)⟩, rfl⟩ ?_ ?_
  · rintro k σ H' hk ⟨e, fas, ras, fr, xy, z5, z6, z7, hF, hfs, hR, hrn, hrf, hrs, G, rfl⟩
    rw [hsn] at hk
    have hfl' : fas.length = k + 1 := by rw [Paired.length hfs]; exact G.fl
    have hrk : ras.length = k := by rw [Paired.length hrs]; exact G.len
    have hkx : k < xs.length := by lia
    have hatx : atI (xs.map V.int) (0 + (k : Int)) = some (.int xs[k]) := by rw [Int.zero_add]; exact bu (by rw [List.getElem?_map, List.getElem?_eq_getElem hkx]; rfl)
    have hl0 : (0 : Int) < (((fas.map V.ref).length : Nat) : Int) := by rw [List.length_map]; lia
    have p0 := Int.emod_nonneg xs[k] (Int.ne_of_gt hl0)
    have p1 := Int.emod_lt_of_pos xs[k] hl0
    obtain ⟨j, hj⟩ := Int.eq_ofNat_of_zero_le p0
    rw [hj] at p1
    have hjl : j < fas.length := by rw [List.length_map] at p1; lia
    have hjr : j < fr.length := by rw [← Paired.length hfs]; exact hjl
    refine ⟨_, rfl, .inl ⟨rfl, _, SqL.of hF⟩, _, rfl, _, rfl, xl, _, _, .int xs[k], rfl, rfl, SqL.of (e _ _ hX), hatx, _, rfl, fl, _, rfl, .inl (SqL.of hF), _, _, rfl, rfl, hl0, fl, _, _, j, .ref fas[j], rfl, rfl, hF, ?_, ?_, ?_, ?_, ?_⟩
    · show -(2 ^ 63) ≤ xs[k] % _
      rw [hj]; lia
    · show xs[k] % _ < 2 ^ 63
      rw [hj]; lia
    · show seqIndex? (xs[k] % _) _ = _
      rw [hj, List.length_map]; exact x5 hjl
    · rw [List.getElem?_map, List.getElem?_eq_getElem hjl]; rfl
    have hfa : H' fas[j] = some (.tup [.int (fr[j].1 : Int), .int (bI fr[j].2)]) := dc hfs j hjl hjr
    have hfne : fas[j] ≠ fl := fun z => by rw [z, hF] at hfa; cases hfa
    have kF : ∀ (Hc : Hp) (o : HO), (∀ xs', H' fl = some (.lst xs') → True) → FrAt Hc fas fr → (∃ xs', Hc fl = some (.lst xs')) → FrAt (upd Hc fl o) fas fr := fun Hc o _ h1 h2 => Paired.mapP h1 fun b p z => by
      obtain ⟨xs', h2⟩ := h2
      rw [ah (fun w => by rw [w, h2] at z; cases z)]; exact z
    have hF2 : (upd H' fl (.lst ((fas.map V.ref).eraseIdx j))) fl = some (.lst ((fas.eraseIdx j).map V.ref)) := by
      rw [aa, mf]
    have e2 : Same H (upd H' fl (.lst ((fas.map V.ref).eraseIdx j))) := br hfl0 e _
    have hfa2 := kF H' (.lst ((fas.map V.ref).eraseIdx j)) (fun _ _ => trivial) hfs ⟨_, hF⟩
    have hR2 : (upd H' fl (.lst ((fas.map V.ref).eraseIdx j))) rl = some (.lst (ras.map V.ref)) := by rw [ah (Ne.symm hfr)]; exact hR
    have hrs2 : RwAt (upd H' fl (.lst ((fas.map V.ref).eraseIdx j))) ras xy := gc (Paired.length hrs) fun i hx hy => by
      show (upd H' fl _) ras[i] = _
      rw [ah (hrf _ (List.getElem_mem hx)).2.1]; exact dc hrs i hx hy
    have hfa3 : (upd H' fl (.lst ((fas.map V.ref).eraseIdx j))) fas[j] = some (.tup [.int (fr[j].1 : Int), .int (bI fr[j].2)]) := by rw [ah hfne]; exact hfa
    generalize upd H' fl (.lst ((fas.map V.ref).eraseIdx j)) = H2 at hF2 e2 hfa2 hR2 hrs2 hfa3 ⊢
    refine ⟨fas[j], _, rfl, SqT.of hfa3, rfl, _, _, rfl, _, _, rfl, rfl, ?_⟩
    have hax : 0 < k → fr[j].1 < k := fun h0 => ((G.free h0).2 _ (List.getElem_mem hjr)).1
    have hxl := G.len
    refine ⟨k, fr[j].1, fr[j].2, ss[k], rl, sl, ras, ss, rfl, rfl, rfl, rfl, rfl, hR2, e2 _ _ hS, List.getElem?_eq_getElem hk, fun hk0 => ?_, fun H3 hkid => ?_⟩
    · have hak' := hax hk0
      exact ⟨by lia, _, _, dc hrs2 fr[j].1 (by lia) (by lia)⟩
    obtain ⟨xy3, g3⟩ : ∃ xy3 : List (Int × Int), (Same H H3 ∧ H3 fl = some (.lst ((fas.eraseIdx j).map V.ref)) ∧ FrAt H3 fas fr ∧ H3 rl = some (.lst (ras.map V.ref)) ∧ RwAt H3 ras xy3) ∧ Grow ss (k + 1) (xy3 ++ [(0, 0)]) (fr.eraseIdx j ++ [(k, false)] ++ [(k, true)]) := by
      rcases hkid with ⟨hk0, rfl⟩ | ⟨hk0, ha, x, y, hxy, rfl⟩
      · subst hk0
        exact ⟨xy, ⟨e2, hF2, hfa2, hR2, hrs2⟩, zf hsn0 hk G hjr⟩
      · have hm := hrf ras[fr[j].1] (List.getElem_mem ha)
        have hay : fr[j].1 < xy.length := by rw [← Paired.length hrs]; exact ha
        have h1 := dc hrs2 fr[j].1 ha hay
        have hxy' : (x, y) = xy.getD fr[j].1 (0, 0) := by
          rw [List.getD_eq_getElem?_getD, List.getElem?_eq_getElem hay]
          have h2 : H2 ras[fr[j].1] = some (.lst [.int xy[fr[j].1].1, .int xy[fr[j].1].2]) := h1
          rw [hxy] at h2
          have h3 : x = xy[fr[j].1].1 ∧ y = xy[fr[j].1].2 := by
            injection h2 with h2; injection h2 with h2; injection h2 with h4 h5; injection h5 with h5 _
            exact ⟨V.int.inj h4, V.int.inj h5⟩
          exact Prod.ext h3.1 h3.2
        refine ⟨xy.set fr[j].1 (put fr[j].2 (xy.getD fr[j].1 (0, 0)) ss[k]), ⟨br hm.1 e2 _, by rw [ah (Ne.symm hm.2.1)]; exact hF2, Paired.mapP hfa2 fun b p z => ?_, by rw [ah (Ne.symm hm.2.2)]; exact hR2, gc (by rw [List.length_set]; exact Paired.length hrs) fun i hx hy => ?_⟩, zr hsn0 hsz hk0 hk G (List.getElem?_eq_getElem hjr)⟩
        · rw [ah (fun w => by rw [w, hxy] at z; cases z)]; exact z
        · show (upd H2 _ _) ras[i] = _
          by_cases hia : fr[j].1 = i
          · subst hia
            rw [aa, List.getElem_set_self, ← hxy']
          · rw [ah (fun z => hia (ff hrn ha hx z.symm)), List.getElem_set_ne hia]
            exact dc hrs2 i hx (by rw [← Paired.length hrs2]; exact hx)
    obtain ⟨⟨e3, hF3, hfa3', hR3, hrs3⟩, G3⟩ := g3
    clear hkid hfa3 hrs2 hR2 hfa2 e2 hF2 kF
    have hel : (fas.eraseIdx j).length = k := by rw [List.length_eraseIdx, if_pos hjl]; lia
    have hfe := lw hfa3' j
    refine ⟨_, rfl, .inl ⟨rfl, _, SqL.of hF3⟩, _, rfl, (show 2 ≤ sizeLine by decide), fun t1 ht1 => ?_⟩
    have s4 := ad ht1 (.tup [.int (0 + (k : Int)), .int 0])
    refine ⟨fl, _, .ref t1, rfl, rfl, s4 _ _ hF3, ?_, ?_⟩
    · rw [List.length_map, hel]; exact Nat.lt_of_le_of_lt (show k ≤ 1000 by lia) (by decide)
    have e4 : Same H (upd (upd H3 t1 (.tup [.int (0 + (k : Int)), .int 0])) fl (.lst ((fas.eraseIdx j).map V.ref ++ [.ref t1]))) := br hfl0 (e3.trans s4) _
    have k4 : ∀ b o, H3 b = some o → b ≠ fl → (upd (upd H3 t1 (.tup [.int (0 + (k : Int)), .int 0])) fl (.lst ((fas.eraseIdx j).map V.ref ++ [.ref t1]))) b = some o := fun b o hb hn => by rw [ah hn]; exact s4 _ _ hb
    have ht1fl : t1 ≠ fl := Ne.symm (aj hF3 ht1)
    have ht14 : (upd (upd H3 t1 (.tup [.int (0 + (k : Int)), .int 0])) fl (.lst ((fas.eraseIdx j).map V.ref ++ [.ref t1]))) t1 = some (.tup [.int (0 + (k : Int)), .int 0]) := by rw [ah ht1fl]; exact aa
    have hF4 : (upd (upd H3 t1 (.tup [.int (0 + (k : Int)), .int 0])) fl (.lst ((fas.eraseIdx j).map V.ref ++ [.ref t1]))) fl = some (.lst ((fas.eraseIdx j ++ [t1]).map V.ref)) := by rw [aa, List.map_append]; rfl
    generalize upd (upd H3 t1 (.tup [.int (0 + (k : Int)), .int 0])) fl (.lst ((fas.eraseIdx j).map V.ref ++ [.ref t1])) = H4 at e4 k4 ht14 hF4 ⊢
    refine ⟨_, rfl, .inl ⟨rfl, _, SqL.of hF4⟩, _, rfl, (show 2 ≤ sizeLine by decide), fun t2 ht2 => ?_⟩
    have s5 := ad ht2 (.tup [.int (0 + (k : Int)), .int 1])
    refine ⟨fl, _, .ref t2, rfl, rfl, s5 _ _ hF4, ?_, ?_⟩
    · rw [List.length_map, List.length_append, hel]; exact Nat.lt_of_le_of_lt (show k + 1 ≤ 1000 by lia) (by decide)
    have e5 : Same H (upd (upd H4 t2 (.tup [.int (0 + (k : Int)), .int 1])) fl (.lst ((fas.eraseIdx j ++ [t1]).map V.ref ++ [.ref t2]))) := br hfl0 (e4.trans s5) _
    have k5 : ∀ b o, H4 b = some o → b ≠ fl → (upd (upd H4 t2 (.tup [.int (0 + (k : Int)), .int 1])) fl (.lst ((fas.eraseIdx j ++ [t1]).map V.ref ++ [.ref t2]))) b = some o := fun b o hb hn => by rw [ah hn]; exact s5 _ _ hb
    have ht2fl : t2 ≠ fl := Ne.symm (aj hF4 ht2)
    have ht25 : (upd (upd H4 t2 (.tup [.int (0 + (k : Int)), .int 1])) fl (.lst ((fas.eraseIdx j ++ [t1]).map V.ref ++ [.ref t2]))) t2 = some (.tup [.int (0 + (k : Int)), .int 1]) := by rw [ah ht2fl]; exact aa
    have hF5 : (upd (upd H4 t2 (.tup [.int (0 + (k : Int)), .int 1])) fl (.lst ((fas.eraseIdx j ++ [t1]).map V.ref ++ [.ref t2]))) fl = some (.lst ((fas.eraseIdx j ++ [t1] ++ [t2]).map V.ref)) := by rw [aa, List.map_append (l₁ := fas.eraseIdx j ++ [t1])]; rfl
    generalize upd (upd H4 t2 (.tup [.int (0 + (k : Int)), .int 1])) fl (.lst ((fas.eraseIdx j ++ [t1]).map V.ref ++ [.ref t2])) = H5 at e5 k5 ht25 hF5 ⊢
    have hR5 : H5 rl = some (.lst (ras.map V.ref)) := k5 _ _ (k4 _ _ hR3 (Ne.symm hfr)) (Ne.symm hfr)
    have hrs5 : RwAt H5 ras xy3 := gc (Paired.length hrs3) fun i hx hy => by
      have hn := (hrf _ (List.getElem_mem hx)).2.1
      exact k5 _ _ (k4 _ _ (dc hrs3 i hx hy) hn) hn
    have hfa5 : FrAt H5 (fas.eraseIdx j ++ [t1] ++ [t2]) (fr.eraseIdx j ++ [(k, false)] ++ [(k, true)]) := by
      refine Paired.app (Paired.app (Paired.mapP hfe fun b p z => ?_) (.cons ?_ .nil)) (.cons ?_ .nil)
      · have hn : b ≠ fl := fun w => by rw [w, hF3] at z; cases z
        exact k5 _ _ (k4 _ _ z hn) hn
      · show H5 t1 = some (.tup [.int (k : Int), .int 0])
        rw [k5 _ _ ht14 ht1fl, Int.zero_add]
      · show H5 t2 = some (.tup [.int (k : Int), .int 1])
        rw [ht25, Int.zero_add]
    refine ⟨_, rfl, .inl ⟨rfl, _, SqL.of hR5⟩, (show 2 ≤ sizeLine by decide), fun r hr' => ?_⟩
    have s6 := ad hr' (.lst [.int 0, .int 0])
    have hr0 : H r = none := e5.free hr'
    have hrrl : r ≠ rl := Ne.symm (aj hR5 hr')
    have hrfl : r ≠ fl := Ne.symm (aj hF5 hr')
    refine ⟨rl, _, .ref r, rfl, rfl, s6 _ _ hR5, ?_, ?_⟩
    · rw [List.length_map]; exact Nat.lt_of_le_of_lt (show ras.length ≤ 1000 by lia) (by decide)
    have hrnot : ¬ r ∈ ras := fun z => by
      obtain ⟨i, hi, e'⟩ := List.getElem_of_mem z
      have h1 : H5 ras[i] = _ := dc hrs5 i hi (by rw [← Paired.length hrs5]; exact hi)
      rw [e', hr'] at h1; cases h1
    refine ⟨br hrl0 (e5.trans s6) _, fas.eraseIdx j ++ [t1] ++ [t2], ras ++ [r], _, xy3 ++ [(0, 0)], _, _, _, by rw [ah hfr]; exact s6 _ _ hF5, Paired.mapP hfa5 fun b p z => ?_, ?_, g5 hrn hrnot, fun b hb => ?_, Paired.app (gc (Paired.length hrs5) fun i hx hy => ?_) (.cons ?_ .nil), G3, rfl⟩
    · rw [ah (fun w => by rw [w, hR5] at z; cases z)]; exact s6 _ _ z
    · rw [aa, List.map_append]; rfl
    · rcases List.mem_append.mp hb with h | h
      · exact hrf b h
      · have : b = r := by simpa using h
        subst this; exact ⟨hr0, hrfl, hrrl⟩
    · show (upd _ _ _) ras[i] = _
      rw [ah (hrf _ (List.getElem_mem hx)).2.2]; exact s6 _ _ (dc hrs5 i hx hy)
    · show (upd _ _ _) r = _
      rw [ah hrrl]; exact aa
  rintro σ H2 ⟨e2, fas, ras, fr, xy, z5, z6, z7, hF, hfs, hR, hrn, hrf, hrs, G, rfl⟩
  rw [hsn] at G
  have hrk : ras.length = ss.length := by rw [Paired.length hrs]; exact G.len
  refine ⟨_, rfl, sl, _, rfl, .inl (SqL.of (e2 _ _ hS)), _, rfl, (by rw [List.length_map]; lia), (by rw [List.length_map]; lia), ?_⟩
  have hhr : ∀ r ∈ ras, r ≠ h := fun r hr' z => by have := (hrf r hr').1; rw [z, hH] at this; cases this
  have hhrl : rl ≠ h := fun z => by rw [z, hH] at hrl0; cases hrl0
  have hhsl : sl ≠ h := fun z => by rw [z, hH] at hS; cases hS
  refine cf (lo := 0) (n := ((((ss.map V.int).length : Nat) : Int)).toNat) (fun k σ H' => Kp (· = h) H H' ∧ Ex5 fun (hp' : List (Int × Addr)) (c' : ar) (z5 z6 z7 : Option V) => And8 (H' h = some (.dK (hv hp'))) (CellsAt K H' hp' c') (c'.length = cs.length + k) ((∀ x, atc c' x = if x ∈ ss.take k then some (gOf ss xy x) else atc cs x)) (H' rl = some (.lst (ras.map V.ref))) (H' sl = some (.lst (ss.map V.int))) (RwAt H' ras xy) (σ = [some (.ref xl), some (.ref sl), some (.ref h), some (.ref fl), some (.ref rl), z5, z6, z7])) ⟨e2.kp _, hp, cs, z5, z6, z7, e2 _ _ hH, hC.same e2, rfl, (fun x => by simp), hR, e2 _ _ hS, hrs, rfl⟩ ?_ ?_
  · rintro k σ H' hk ⟨e, hp', c', z5', z6', z7', hH', hC', hcl, hget, hR', hS', hrs', rfl⟩
    rw [hsn] at hk
    have hkr : k < ras.length := by lia
    have hky : k < xy.length := by rw [G.len]; exact hk
    have hxy : H' ras[k] = some (.lst [.int xy[k].1, .int xy[k].2]) := dc hrs' k hkr hky
    have har : atI (ras.map V.ref) (0 + (k : Int)) = some (.ref ras[k]) := by rw [Int.zero_add]; exact bu (by rw [List.getElem?_map, List.getElem?_eq_getElem hkr]; rfl)
    have hat : atI (ss.map V.int) (0 + (k : Int)) = some (.int ss[k]) := by rw [Int.zero_add]; exact bu (by rw [List.getElem?_map, List.getElem?_eq_getElem hk]; rfl)
    refine ⟨_, rfl, _, rfl, rl, _, _, .ref ras[k], rfl, rfl, SqL.of hR', har, ras[k], _, 0, .int xy[k].1, rfl, rfl, SqL.of hxy, rfl, _, rfl, _, rfl, rl, _, _, .ref ras[k], rfl, rfl, SqL.of hR', har, ras[k], _, 1, .int xy[k].2, rfl, rfl, SqL.of hxy, rfl, (show 2 ≤ sizeLine by decide), fun t ht => ?_⟩
    have s8 := ad ht (.tup [.int xy[k].1, .int xy[k].2])
    have hhl' : hp'.length = c'.length := Paired.length hC'
    refine ⟨_, rfl, _, rfl, _, rfl, sl, _, _, .int ss[k], rfl, rfl, SqL.of (s8 _ _ hS'), hat, h, _, rfl, DPut.k (k := Sum.inl ss[k]) (s8 _ _ hH') ?_, ?_⟩
    · unfold hv; rw [List.length_map]; exact Nat.lt_of_le_of_lt (show hp'.length ≤ 1000 by lia) (by decide)
    rw [jp]
    have hnt : ¬ ss[k] ∈ ss.take k := fun z => by
      obtain ⟨i, hi, hik, e'⟩ := j3 z
      exact absurd (ff hsn0 hi hk e') (Nat.ne_of_lt hik)
    have hnone : atc c' ss[k] = none := by rw [hget, if_neg hnt]; exact hfree _ (List.getElem_mem hk)
    have htk : ss.take (k + 1) = ss.take k ++ [ss[k]] := by rw [List.take_add_one, List.getElem?_eq_getElem hk]; rfl
    refine ⟨(e.trans (s8.kp _)).put (.inl rfl) _, _, putC c' ss[k] xy[k], _, _, _, aa, ?_, ?_, fun x => ?_, by rw [ah hhrl]; exact s8 _ _ hR', by rw [ah hhsl]; exact s8 _ _ hS', gc (Paired.length hrs') fun i hx hy => ?_, rfl⟩
    · exact Paired.mapP ((hC'.same s8).put (x := ss[k]) (t := t) (z := xy[k]) (SqT.of aa)) fun b c z => ⟨z.1, ef (s8 _ _ hH') z.2⟩
    · rw [oe, hnone, hcl]; rfl
    · rw [ig, htk]
      by_cases e' : x = ss[k]
      · rw [if_pos e', if_pos (by rw [e']; exact List.mem_append.mpr (.inr (List.mem_singleton.mpr rfl))), e', jn hsn0 hk, List.getD_eq_getElem?_getD, List.getElem?_eq_getElem hky]; rfl
      · rw [if_neg e', hget]
        by_cases h' : x ∈ ss.take k
        · rw [if_pos h', if_pos (List.mem_append.mpr (.inl h'))]
        · rw [if_neg h', if_neg (fun z => by rcases List.mem_append.mp z with z | z; exact h' z; exact e' (by simpa using z))]
    · show (upd _ _ _) ras[i] = _
      rw [ah (hhr _ (List.getElem_mem hx))]; exact s8 _ _ (dc hrs' i hx hy)
  · rintro σ H' ⟨e, hp', c', z5', z6', z7', hH', hC', hcl, hget, hR', hS', hrs', rfl⟩
    rw [hsn] at hcl hget
    rw [List.take_length] at hget
    by_cases h0 : 0 < ss.length
    · obtain ⟨T, ht, hpm, hsl⟩ := G.tree h0
      rw [List.take_length] at hpm
      refine q c' T H' e ⟨hp', hH', hC'⟩ hcl (fun x hx => by rw [hget, if_neg hx]) ⟨ik hsl fun x hx => ?_, fun x hx => hsz x (hpm.mem_iff.mp hx), fun x hx => by rw [hget, if_pos (hpm.mem_iff.mp hx)]; rfl⟩ ?_ hpm
      · show (atc c' x).getD (0, 0) = _
        rw [hget, if_pos (hpm.mem_iff.mp hx)]; rfl
      · rw [ht]
        cases ss with
        | nil => simp at h0
        | cons x l => rfl
    · have hs0 : ss = [] := List.length_eq_zero_iff.mp (by lia)
      subst hs0
      exact q c' .nil H' e ⟨hp', hH', hC'⟩ hcl (fun x hx => by rw [hget, if_neg hx]) ⟨trivial, (fun x hx => by cases hx), fun x hx => by cases hx⟩ rfl (List.Perm.refl _)
end
end K13
namespace K13
open PySem PySem.Spec L2 Mir
theorem fg {m : List (Str × Int)} {x : Str} {v : Int} (h0 : lkI m "nil" = some 0) (h : lkI m x = some v) : num m x = v := by
  unfold num
  by_cases e : x = "nil"
  · rw [if_pos e]
    rw [e, h0] at h
    exact Option.some.inj h
  · rw [if_neg e, h]; rfl
inductive spFactsXS (K : PySem.W.Frag) (vs : List V) (H : Hp) (Q : VK) : Prop
  | mk (a nl d : Addr) (ns : List Int) (xs : List Str) (m : List (Str × Int)) (h0 : vs = [.ref a, .ref nl, .ref d]) (h1 : SqL K H a (ns.map V.int)) (h2 : H nl = some (.lst (xs.map V.str))) (h3 : xs.length = 8) (h4 : H d = some (.dK (dv m))) (h5 : (∀ x ∈ xs ++ [("nil" : Str)], (lkI m x).isSome = true)) (h6 : lkI m "nil" = some 0) (h7 : ∀ fl fs H', Same H H' → H fl = none → RowsAt K H' fl fs → er (xs ++ [("nil" : Str)]) fs → fs.length ≤ 3 → (∀ r ∈ fs, bv m r = true) → Q (.ref fl) H') : spFactsXS K vs H Q
noncomputable def v3 (K : PySem.W.Frag) : Sp := fun vs H Q _ => spFactsXS K vs H Q
section
variable {P : Program} {w : World} {K : PySem.W.Frag} {mg : Str → Option Value} {base : Heap} {f : Addr} {fd : FuncData}
theorem a0u (C : Con K mg w) (F : Fun K "_law_facts" "_law_facts" ii f fd) : FnOk P w K mg base CX0 1 f fd ["_law_script", "_law_names_here", "_law_values"] (v3 K) := by
  refine F.okQ scFactsL (fun vs H Q E h => ?_) (fun cdv A outer s0 H vs Q E hr h => ?_)
  · obtain ⟨a, nl, d, ns, xs, m, rfl, _⟩ := h; rfl
  obtain ⟨a, nl, d, ns, xs, m, rfl, hS, hN, hx8, hD, hin, hnil, q⟩ := h
  have nd := scFactsL.nd
  have hu1 := dw hr
  refine ⟨_, ae (al (i := 3) nd rfl (Or.inl rfl) (ay ac))
    (ae (cr PassesOwn.never rfl (dn (K := K) rfl (cn (slLk (K := K) rfl) (qv 0) (cg ag) (cg ag))) (ba (i := 4) nd rfl (Or.inl rfl)) (ae (al (i := 5) nd rfl (Or.inl rfl) (aq (ixKk (K := K) rfl) (ai cx (qv 1) (ay (bj ac))) (ai b0 (qv 4) ag) (fun _ _ => rfl)))
    (ae (al (i := 6) nd rfl (Or.inl rfl) (aq (ixKk (K := K) rfl) (ai cx (qv 1) (ay (bj ac))) (ai b0 (ai df (qv 4) ag) ag) (fun _ _ => rfl)))
    (am (bi (ce (K := K) rfl PySem.F.plainAttrs_list PySem.F.slot_list_append PySem.F.type_list_append bq (qv 3) (fu (ax (aq (ixKk (K := K) rfl) (ay (bj (bj ac))) (bt j6 rfl C.int PyProof.Rows.boot_int (fv (de bn (ck hu1 (qv 2) (qv 5) (fun _ _ => rfl)) (ck hu1 (qv 2) (qv 6) (fun _ _ => rfl)) (au _)) ac)) (fun _ _ => rfl)) (af (qv 5) (af (qv 6) ac))) ac)))))))
    (am (az (qv 3)))), ?_⟩
  refine ⟨Nat.zero_le _, fun fl hfl => ?_⟩
  have s1 := ad hfl (.lst [])
  obtain ⟨ms, em⟩ := v4 ns (some 9) (some 12)
  have hml : ms.length ≤ 3 := by
    have h1 := congrArg List.length em
    unfold cutV at h1
    have h2 : HT.sIx (ns.map V.int).length (ns.map V.int).length (some 12) = min 12 (ns.map V.int).length := HT.sIx_nat _ _ 12
    have h3 : HT.sIx (ns.map V.int).length 0 (some 9) = min 9 (ns.map V.int).length := HT.sIx_nat _ _ 9
    rw [h2, h3, List.length_take, List.length_drop, List.length_map, List.length_map] at h1
    rw [← h1]
    by_cases hn : ns.length ≤ 9
    · rw [Nat.min_eq_right hn, Nat.sub_self, Nat.min_zero]; exact Nat.zero_le _
    · rw [Nat.min_eq_left (Nat.le_of_lt (Nat.lt_of_not_le hn))]
      exact Nat.le_trans (Nat.min_le_left _ _) (Nat.sub_le_sub_right (Nat.min_le_left 12 _) 9)
  refine ⟨_, rfl, _, rfl, _, rfl, a, _, rfl, s1.seq hS, fun c hc => ?_⟩
  rw [em]
  have s2 := s1.trans (ad hc (.lst (ms.map V.int)))
  have hcf : c ≠ fl := Ne.symm (aj (show (upd H fl (.lst [])) fl = _ from aa) hc)
  have ews : xs.map V.str ++ [V.str "nil"] = (xs ++ [("nil" : Str)]).map V.str := by rw [List.map_append]; rfl
  have hw9 : (xs ++ [("nil" : Str)]).length = 9 := by rw [List.length_append, hx8]; rfl
  have hz8 : (xs.map V.str).length + 1 ≤ sizeLine := by rw [List.length_map, hx8]; exact (by decide : 8 + 1 ≤ sizeLine)
  refine ⟨c, rfl, ⟨_, SqL.of aa⟩, ?_⟩
  refine gn (xs := ms.map V.int) (fun i σ H' => Same H H' ∧ Ex5 fun (as : List Addr) (rs : List (List Str)) (z4 z5 z6 : Option V) => And7 (H' c = some (.lst (ms.map V.int))) (H' fl = some (.lst (as.map V.ref))) (Paired (fun b r => RowAt K H' b r) as rs) (rs.length = i) (er (xs ++ [("nil" : Str)]) rs) ((∀ r ∈ rs, bv m r = true)) (σ = [some (.ref a), some (.ref nl), some (.ref d), some (.ref fl), z4, z5, z6]))
    ⟨s2, [], [], none, none, none, aa, ad hc _ _ _ aa, .nil, rfl, (fun r hr => by simp at hr), (fun r hr => by simp at hr), rfl⟩ (fun i σ H' _ p => by obtain ⟨_, _, _, _, _, _, h, _⟩ := p; exact SqL.of h) ?_ ?_
  · rintro i v σ H' hi ⟨e, as, rs, z4, z5, z6, hC, hL, hP, hrl, hF, hO, rfl⟩
    obtain ⟨n, hn', rfl⟩ := List.mem_map.mp (List.mem_of_getElem? hi)
    have hi1 : i < ms.length := by
      have := (List.getElem?_eq_some_iff.mp hi).1
      rw [List.length_map] at this; exact this
    obtain ⟨u, hu, hum⟩ := cv (xs ++ [("nil" : Str)]) (n := 9) (i := n) hw9 (by decide)
    obtain ⟨v, hv, hvm⟩ := cv (xs ++ [("nil" : Str)]) (n := 9) (i := n / 9) hw9 (by decide)
    refine ⟨_, rfl, (show 1 ≤ sizeLine by decide), fun l1 hl1 => ?_⟩
    have u1 := ad hl1 (.lst [.str "nil"])
    refine ⟨nl, l1, _, _, rfl, rfl, u1 _ _ (e _ _ hN), aa, hz8, fun l2 hl2 => ?_⟩
    rw [ews]
    have u2 := u1.trans (ad hl2 (.lst ((xs ++ [("nil" : Str)]).map V.str)))
    refine ⟨_, rfl, _, _, rfl, rfl, (show (0 : Int) < 9 by decide), l2, _, _, .str u, rfl, rfl, SqL.of aa, hu, ?_⟩
    generalize upd (upd H' l1 (.lst [.str "nil"])) l2 (.lst ((xs ++ [("nil" : Str)]).map V.str)) = H2 at u2 ⊢
    refine ⟨_, rfl, (show 1 ≤ sizeLine by decide), fun l3 hl3 => ?_⟩
    have u3 := ad hl3 (.lst [.str "nil"])
    refine ⟨nl, l3, _, _, rfl, rfl, u3 _ _ (u2 _ _ (e _ _ hN)), aa, hz8, fun l4 hl4 => ?_⟩
    rw [ews]
    have u4 := u3.trans (ad hl4 (.lst ((xs ++ [("nil" : Str)]).map V.str)))
    refine ⟨_, rfl, _, _, rfl, rfl, (show CDiv _ 9 from ⟨by decide, by decide⟩), _, _, rfl, rfl, (show (0 : Int) < 9 by decide), l4, _, _, .str v, rfl, rfl, SqL.of aa, hv, ?_⟩
    have u24 := u2.trans u4
    generalize upd (upd H2 l3 (.lst [.str "nil"])) l4 (.lst ((xs ++ [("nil" : Str)]).map V.str)) = H4 at u24 ⊢
    have e4 := e.trans u24
    have hL4 := u24 _ _ hL
    refine ⟨_, rfl, .inl ⟨rfl, _, SqL.of hL4⟩, (show 2 ≤ sizeLine by decide), fun l5 hl5 => ?_⟩
    have u5 := ad hl5 (.lst [.str "not", .str "is"])
    obtain ⟨v1, hv1, g1⟩ := dget (u5 _ _ (e4 _ _ hD)) (hin u hum)
    obtain ⟨v2, hv2, g2⟩ := dget (u5 _ _ (e4 _ _ hD)) (hin v hvm)
    obtain ⟨wd, hwd, hwm, hho⟩ : ∃ wd : Str, atI [V.str "not", V.str "is"] (if decide (V.int v1 = V.int v2) = true then 1 else 0) = some (.str wd) ∧ (wd = "is" ∨ wd = "not") ∧ bv m [wd, u, v] = true := by
      by_cases hc' : decide (V.int v1 = V.int v2) = true
      · have hc2 : v1 = v2 := by simpa using hc'
        rw [if_pos hc']
        refine ⟨_, rfl, .inl rfl, ?_⟩
        show decide (decide (num m u = num m v) = decide (("is" : Str) = "is")) = true
        rw [fg hnil hv1, fg hnil hv2, hc2]; simp
      · have hc2 : ¬ v1 = v2 := by simpa using hc'
        rw [if_neg hc']
        refine ⟨_, rfl, .inr rfl, ?_⟩
        show decide (decide (num m u = num m v) = decide (("not" : Str) = "is")) = true
        rw [fg hnil hv1, fg hnil hv2, decide_eq_false hc2, decide_eq_false (by decide +kernel : ¬ ("not" : Str) = "is")]; rfl
    refine ⟨_, rfl, _, rfl, d, .int v1, rfl, g1, _, rfl, _, rfl, d, .int v2, rfl, g2, rfl, _, rfl, l5, _, _, .str wd, rfl, rfl, SqL.of aa, hwd, _, rfl, _, rfl, (show 3 ≤ sizeLine by decide), fun t ht => ?_⟩
    have u6 := u5.trans (ad ht (.tup [.str wd, .str u, .str v]))
    refine ⟨fl, _, .ref t, rfl, rfl, u6 _ _ hL4, ?_, ?_⟩
    · have := hP.length
      rw [List.length_map]; exact Nat.lt_of_le_of_lt (show as.length ≤ 1000 by lia) (by decide)
    refine ⟨br hfl (e4.trans u6) _, as ++ [t], rs ++ [[wd, u, v]], _, _, _, by rw [ah hcf]; exact u6 _ _ (u24 _ _ hC), ?_, ?_, ?_, ?_, (fun r hr => ?_), rfl⟩
    · rw [aa, List.map_append]; rfl
    · exact Paired.snocP (Paired.mapP hP fun _ _ z => cq (u6 _ _ hL4) ((u24.trans u6).seqT z)) (cq (u6 _ _ hL4) (SqT.of aa))
    · rw [List.length_append, hrl]; rfl
    · intro r hr
      rcases List.mem_append.mp hr with h | h
      · exact hF r h
      · simp only [List.mem_cons, List.not_mem_nil, or_false] at h
        exact ⟨wd, u, v, h, hwm, hum, hvm⟩
    · rcases List.mem_append.mp hr with h | h
      · exact hO r h
      · simp only [List.mem_cons, List.not_mem_nil, or_false] at h
        rw [h]; exact hho
  · rintro σ H' ⟨e, as, rs, z4, z5, z6, hC, hL, hP, hrl, hF, hO, rfl⟩
    exact ⟨_, rfl, q fl rs H' e hfl ⟨as, hL, hP⟩ hF (by rw [hrl, List.length_map]; exact hml) hO⟩
end
end K13
namespace K13
open PySem PySem.Spec L2 Mir Tre
theorem tq {xs : List Str} {i : Int} {b : Nat} (h0 : 0 ≤ i) (h1 : i < b) (hb : b ≤ xs.length) : ∃ j, ∃ hj : j < xs.length, j < b ∧ atI (xs.map V.str) i = some (.str xs[j]) := by
  obtain ⟨j, rfl⟩ := Int.eq_ofNat_of_zero_le h0
  have hj : j < b := by lia
  have hj' : j < xs.length := by lia
  exact ⟨j, hj', hj, bu (by rw [List.getElem?_map, List.getElem?_eq_getElem hj']; rfl)⟩
theorem a42 {l : List Int} {v : Int} (h : 0 < (l ++ [v]).length) : (l ++ [v])[0] = v ∨ (l ++ [v])[0] ∈ l := by
  cases l with
  | nil => exact .inl rfl
  | cons x l => exact .inr (List.mem_cons_self ..)
theorem Kp.freeX {S : Addr → Prop} {H H' : Hp} (e : Kp S H H') {p : Addr} (hp : H' p = none) (hs : ∀ b, S b → H' b ≠ none) : H p = none := Kp.free e hp hs
structure LX (K : PySem.W.Frag) (H : Hp) (nl d h sl xl : Addr) (xs : List Str) (ss ns : List Int) (m : List (Str × Int)) (hp : List (Int × Addr)) (cs : ar) (Hc : Hp) : Prop where
  kp : Kp (fun b => b = d ∨ b = h) H Hc
  nl : Hc nl = some (.lst (xs.map V.str))
  sl : Hc sl = some (.lst (ss.map V.int))
  xl : Hc xl = some (.lst (ns.map V.int))
  d : Hc d = some (.dK (dv m))
  h : Hc h = some (.dK (hv hp))
  ok : CellsAt K Hc hp cs
theorem LX.new {K : PySem.W.Frag} {H : Hp} {nl d h sl xl : Addr} {xs : List Str} {ss ns : List Int} {m : List (Str × Int)} {hp : List (Int × Addr)} {cs : ar} {Hc : Hp} (L : LX K H nl d h sl xl xs ss ns m hp cs Hc) {H' : Hp} (s : Same Hc H') : LX K H nl d h sl xl xs ss ns m hp cs H' :=
  ⟨L.kp.trans (s.kp _), s _ _ L.nl, s _ _ L.sl, s _ _ L.xl, s _ _ L.d, s _ _ L.h, L.ok.same s⟩
theorem LX.dput {K : PySem.W.Frag} {H : Hp} {nl d h sl xl : Addr} {xs : List Str} {ss ns : List Int} {m : List (Str × Int)} {hp : List (Int × Addr)} {cs : ar} {Hc : Hp} (L : LX K H nl d h sl xl xs ss ns m hp cs Hc) (hdh : d ≠ h) (m' : List (Str × Int)) : LX K H nl d h sl xl xs ss ns m' hp cs (upd Hc d (.dK (dv m'))) := by
  have k : ∀ b o, Hc b = some o → (∀ kv, o ≠ .dK kv) → (upd Hc d (.dK (dv m'))) b = some o := fun b o hb hn => by rw [ah (fun z => by rw [z, L.d] at hb; exact hn _ (Option.some.inj hb).symm)]; exact hb
  exact ⟨L.kp.put (.inl (.inl rfl)) _, k _ _ L.nl (fun _ z => by cases z), k _ _ L.sl (fun _ z => by cases z), k _ _ L.xl (fun _ z => by cases z), aa, by rw [ah (Ne.symm hdh)]; exact L.h, Paired.mapP L.ok fun _ _ z => ⟨z.1, ef L.d z.2⟩⟩
theorem LX.hput {K : PySem.W.Frag} {H : Hp} {nl d h sl xl : Addr} {xs : List Str} {ss ns : List Int} {m : List (Str × Int)} {hp : List (Int × Addr)} {cs : ar} {Hc : Hp} (L : LX K H nl d h sl xl xs ss ns m hp cs Hc) (hdh : d ≠ h) {t : Addr} (ht : Hc t = none) (x y z : Int) : LX K H nl d h sl xl xs ss ns m (putH hp x t) (putC cs x (y, z)) (upd (upd Hc t (.tup [.int y, .int z])) h (.dK (hv (putH hp x t)))) := by
  have L1 := L.new (ad ht (.tup [.int y, .int z]))
  have k : ∀ b o, (upd Hc t (.tup [.int y, .int z])) b = some o → (∀ kv, o ≠ .dK kv) → (upd (upd Hc t (.tup [.int y, .int z])) h (.dK (hv (putH hp x t)))) b = some o := fun b o hb hn => by rw [ah (fun z => by rw [z, L1.h] at hb; exact hn _ (Option.some.inj hb).symm)]; exact hb
  exact ⟨L1.kp.put (.inl (.inr rfl)) _, k _ _ L1.nl (fun _ z => by cases z), k _ _ L1.sl (fun _ z => by cases z), k _ _ L1.xl (fun _ z => by cases z), by rw [ah hdh]; exact L1.d, aa, Paired.mapP (L1.ok.put (x := x) (t := t) (z := (y, z)) (SqT.of aa)) fun _ _ w => ⟨w.1, ef L1.h w.2⟩⟩
inductive tEndXS (xs : List Str) (D : Ends) (σ : St) (H : Hp) : Prop
  | mk (k : Nat) (xl nl : Addr) (ns : List Int) (w0 : Str) (h0 : σ[1]? = some (some (.int (k : Int)))) (h1 : σ[6]? = some (some (.ref xl))) (h2 : σ[2]? = some (some (.ref nl))) (h3 : σ[12]? = some (some (.str w0))) (h4 : k < 6) (h5 : H xl = some (.lst (ns.map V.int))) (h6 : ns.length = 14) (h7 : H nl = some (.lst (xs.map V.str))) (h8 : xs.length = 8) (h9 : ∀ w, (w = w0 ∨ ∃ i, ∃ hi : i < xs.length, i < k ∧ w = xs[i]) → D.nx (σ.set 12 (some (.str w))) H) : tEndXS xs D σ H
noncomputable def a6i (xs : List Str) : TS := fun D σ H => tEndXS xs D σ H
inductive spLaidXS (K : PySem.W.Frag) (vs : List V) (H : Hp) (Q : VK) : Prop
  | mk (c : Int) (k : Nat) (nl d h sl : Addr) (xs : List Str) (m : List (Str × Int)) (cs : ar) (ss : List Int) (h0 : vs = [.int c, .int (k : Int), .ref nl, .ref d, .ref h, .ref sl]) (h1 : k < 6) (h2 : H nl = some (.lst (xs.map V.str))) (h3 : xs.length = 8) (h4 : xs.Nodup) (h5 : (∀ x ∈ xs, NameG x)) (h6 : H d = some (.dK (dv m))) (h7 : m.length ≤ 100) (h8 : (∀ x ∈ xs ++ [("nil" : Str)], (lkI m x).isSome = true)) (h9 : lkI m "nil" = some 0) (h10 : HeapAt K H h cs) (h11 : cs.length ≤ 90) (h12 : H sl = some (.lst (ss.map V.int))) (h13 : ss.length = 10) (h14 : ss.Nodup) (h15 : (∀ x ∈ ss, x ≠ 0 ∧ atc cs x = none)) (h16 : (∀ i (hi : i < xs.length), (i ≤ k ∨ i = 6) → ∀ v, lkI m xs[i] = some v → ¬ v ∈ ss)) (h17 : d ≠ h) (h18 : ∀ t p rl m' cs' r row H', Kp (fun b => b = d ∨ b = h) H H' → H' t = some (.tup [.ref p, .ref rl]) → RowAt K H' p r → PartOf (xs ++ [("nil" : Str)]) r → H' rl = some (.lst ((row : List Int).map V.int)) → H rl = none → H' d = some (.dK (dv m')) → m'.length ≤ m.length + 2 → (∀ y, y ≠ xs.getD k "" → lkI m' y = lkI m y) → (∃ v, lkI m' (xs.getD k "") = some v ∧ (v ∈ ss ∨ v = 0 ∨ ∃ i, ∃ hi : i < xs.length, (i ≤ k ∨ i = 6) ∧ lkI m xs[i] = some v)) → HeapAt K H' h cs' → cs'.length = cs.length + row.length → (∀ x, ¬ x ∈ ss → atc cs' x = atc cs x) → (∀ x ∈ row, x ∈ ss) → row.Nodup → be m' cs' r = some row → (∀ y ∈ r.drop 1, y = "any" ∨ y = "nil" ∨ ∃ i, ∃ hi : i < xs.length, (i ≤ k ∨ i = 6) ∧ y = xs[i]) → Q (.ref t) H') : spLaidXS K vs H Q
noncomputable def wt (K : PySem.W.Frag) : Sp := fun vs H Q _ => spLaidXS K vs H Q
section
variable {P : Program} {w : World} {K : PySem.W.Frag} {mg : Str → Option Value} {base : Heap} {f gS gT gR : Addr} {fd dS dT dR : FuncData}
theorem a1u (C : Con K mg w) (F : Fun K "_law_laid" "_law_laid" nb f fd) (GS : FnOk P w K mg base CX0 1 gS dS ["_law_cell", "_law_many"] uf) (cS : Cal K mg "_law_stream" gS dS ["_law_cell", "_law_many"])
    (GT : FnOk P w K mg base CX0 1 gT dT ["_law_xs", "_law_spots", "_law_heap"] (xo K)) (cT : Cal K mg "_law_tree" gT dT ["_law_xs", "_law_spots", "_law_heap"])
    (GR : FnOk P w K mg base CX0 1 gR dR ["_law_heap", "_law_top"] (a0j K)) (cR : Cal K mg "_law_row" gR dR ["_law_heap", "_law_top"]) : FnOk P w K mg base CX0 2 f fd ["_law_cell", "_law_k", "_law_names_here", "_law_values", "_law_heap", "_law_spots"] (wt K) := by
  refine F.okQ scLaid (fun vs H Q E h => ?_) (fun cdv A outer s0 H vs Q E hr h => ?_)
  · obtain ⟨c, k, nl, d, h, sl, xs, m, cs, ss, rfl, _⟩ := h; rfl
  obtain ⟨c, k, nl, d, h, sl, xs, m, cs, ss, rfl, hk6, hN, hx8, hxd, hxn, hD, hml, hin, hnil, ⟨hp, hH, hok⟩, hpl0, hS, hs10, hsd, hsz, hval, hdh, q⟩ := h
  have hpl : hp.length ≤ 90 := by rw [Paired.length hok]; exact hpl0
  have nd := scLaid.nd
  have hu1 := dw hr
  refine ⟨_, ae (al (i := 6) nd rfl (Or.inl rfl) (ao GS hr rfl cS.name cS.keep cS.bind .nil aw (af (qv 0) (b8 ac))))
    (ae (al (i := 7) nd rfl (Or.inl rfl) (aq (ixKk (K := K) rfl) (qv 2) (qv 1) (fun _ _ => rfl)))
    (ae (bd (av bn (ai b0 (aq (ixKk (K := K) rfl) (qv 6) ag (fun _ _ => rfl)) ag) ag (au _)) (ae (al (i := 8) nd rfl (Or.inl rfl) (ay (bj (ax (aq (ixKk (K := K) rfl) (qv 2) (ai b0 (aq (ixKk (K := K) rfl) (qv 6) ag (fun _ _ => rfl)) (ai bp (qv 1) ag)) (fun _ _ => rfl)) (ax (aq (ixKk (K := K) rfl) (qv 2) ag (fun _ _ => rfl)) ac)))))
    (ae (al (i := 9) nd rfl (Or.inl rfl) (aq (ixKk (K := K) rfl) (qv 8) (ai b0 (aq (ixKk (K := K) rfl) (qv 6) ag (fun _ _ => rfl)) ag) (fun _ _ => rfl)))
    (ae (al (i := 10) nd rfl (Or.inl rfl) (aq (ixKk (K := K) rfl) (qv 8) (ai b0 (aq (ixKk (K := K) rfl) (qv 6) ag (fun _ _ => rfl)) ag) (fun _ _ => rfl)))
    (ae (cj hu1 (qv 3) (qv 7) (aq (ixKk (K := K) rfl) (qv 5) ag (fun _ _ => rfl)))
    (ae (cj hu1 (qv 4) (aq (ixKk (K := K) rfl) (qv 5) ag (fun _ _ => rfl)) (d0 (ax (ck hu1 (qv 3) (qv 9) (fun _ _ => rfl)) (ax (ck hu1 (qv 3) (qv 10) (fun _ _ => rfl)) ac))))
    (am (az (d0 (fu (bj (af (qv 7) (af (qv 9) (ax (aq (ixKk (K := K) rfl) (ay (af (qv 10) (bj ac))) (ai b0 (aq (ixKk (K := K) rfl) (qv 6) ag (fun _ _ => rfl)) ag) (fun _ _ => rfl)) ac)))) (ku (ax (aq (ixKk (K := K) rfl) (qv 5) ag (fun _ _ => rfl)) ac) ac)))))))))) b9)
    (ae (al (i := 11) nd rfl (Or.inl rfl) (ai b0 (aq (ixKk (K := K) rfl) (qv 6) ag (fun _ _ => rfl)) ag))
    (ae (bd (av bn (ai b0 (aq (ixKk (K := K) rfl) (qv 6) ag (fun _ _ => rfl)) ag) ag (au _)) (ae (al (i := 12) nd rfl (Or.inl rfl) (aq (ixKk (K := K) rfl) (ay (bj (ax (aq (ixKk (K := K) rfl) (qv 2) ag (fun _ _ => rfl)) ac))) (ai b0 (aq (ixKk (K := K) rfl) (qv 6) ag (fun _ _ => rfl)) ag) (fun _ _ => rfl)))
    (ae (cu (t' := a6i xs) (bd (QW.qt (gw (av a3o (qv 1) ag (au _)) (gb (av bn (ai b0 (aq (ixKk (K := K) rfl) (qv 6) ag (fun _ _ => rfl)) ag) ag (au _))))) (am (al (i := 12) nd rfl (Or.inl rfl) (aq (ixKk (K := K) rfl) (qv 2) (ai b0 (aq (ixKk (K := K) rfl) (qv 6) ag (fun _ _ => rfl)) (qv 1)) (fun _ _ => rfl)))) b9) (fun D σ H h => by
      obtain ⟨k, xl, nl, ns, w0, h1, h6, h2, h12, hk6, hxl, hn14, hN, hx8, q⟩ := h
      have keep := q w0 (.inl rfl)
      rw [kz h12] at keep
      refine ⟨_, h1, _, _, rfl, rfl, _, rfl, iteB (fun c => ?_) (fun c => ?_)⟩
      · have c' : 0 < k := by have : (0 : Int) < (k : Int) := by simpa using c
                              lia
        refine ⟨_, h6, xl, _, 3, .int ns[3], rfl, rfl, SqL.of hxl, fm (j := 3) rfl (by lia), _, _, rfl, rfl, (show (0 : Int) < 2 by decide), rfl, _, rfl, iteB (fun _ => ?_) (fun _ => keep)⟩
        obtain ⟨i4, hi4, hi4k, hat⟩ := tq (xs := xs) (i := ns[4] % (k : Int)) (b := k) (Int.emod_nonneg _ (by lia)) (Int.emod_lt_of_pos ns[4] (show (0 : Int) < k by lia)) (by lia)
        exact ⟨_, h2, _, h6, xl, _, 4, .int ns[4], rfl, rfl, SqL.of hxl, fm (j := 4) rfl (by lia), _, h1, _, _, rfl, rfl, (show (0 : Int) < k by lia), nl, _, _, .str xs[i4], rfl, rfl, SqL.of hN, hat, q xs[i4] (.inr ⟨i4, hi4, hi4k, rfl⟩)⟩
      · exact keep))
    (ae (al (i := 13) nd rfl (Or.inl rfl) (cn (slLk (K := K) rfl) (qv 5) dz (cg (qv 11))))
    (ae (cr PassesOwn.never rfl (bw rfl C.range (af (qv 11) ac)) (ba (i := 14) nd rfl (Or.inl rfl)) (am (cj hu1 (qv 4) (aq (ixKk (K := K) rfl) (qv 13) (qv 14) (fun _ _ => rfl)) (d0 (ax (aq (ixKk (K := K) rfl) (qv 6) (ai bp ag (qv 14)) (fun _ _ => rfl)) (ax (aq (ixKk (K := K) rfl) (ai cx (qv 13) (ay (ax (ck hu1 (qv 3) (qv 12) (fun _ _ => rfl)) ac))) (ai bp (qv 14) ag) (fun _ _ => rfl)) ac))))))
    (ae (cj hu1 (qv 3) (qv 7) (aq (ixKk (K := K) rfl) (ai cx (qv 13) (ay (ax (ck hu1 (qv 3) (qv 12) (fun _ _ => rfl)) ac))) ag (fun _ _ => rfl)))
    (am (az (d0 (fu (bj (af (qv 7) (af (qv 12) ac))) (af (qv 13) ac)))))))))) b9)
    (ae (bi (ao GT hr rfl cT.name cT.keep cT.bind .nil aw (ax (cn (slLk (K := K) rfl) (qv 6) (cg ag) dz) (ax (cn (slLk (K := K) rfl) (qv 5) dz (cg (qv 11))) (af (qv 4) ac)))))
    (ae (cj hu1 (qv 3) (qv 7) (aq (ixKk (K := K) rfl) (ai cx (cn (slLk (K := K) rfl) (qv 5) dz (cg (qv 11))) (ay (b8 ac))) ag (fun _ _ => rfl)))
    (ae (cu (t' := tTop) (bd (av bn (qv 11) ag (au _)) (am (cj hu1 (qv 3) (qv 7) ag)) b9) (fun D σ H h => by
      obtain ⟨d, m, x, n, h11, h3, h7, hD, hml, q⟩ := h
      refine ⟨_, h11, rfl, _, rfl, iteB (fun c => ?_) (fun c => ?_)⟩
      · have c' : n = 0 := by simpa using c
        refine ⟨_, h3, _, h7, d, _, rfl, DPut.k (k := Sum.inr x) hD ?_, ?_⟩
        · unfold dv; rw [List.length_map]; exact Nat.lt_of_le_of_lt (show m.length ≤ 1000 by lia) (by decide)
        rw [ej]
        exact q _ _ (.inr ⟨rfl, rfl, c'⟩)
      · have c' : ¬ n = 0 := by simpa using c
        exact q _ _ (.inl ⟨rfl, rfl, c'⟩)))
    (am (az (d0 (fu (bj (af (qv 7) ac)) (bh (ao GR hr rfl cR.name cR.keep cR.bind .nil aw (af (qv 4) (ax (ck hu1 (qv 3) (qv 7) (fun _ _ => rfl)) ac))) ac)))))))))))), ?_⟩
  refine ⟨_, rfl, c, 14, rfl, by decide, fun xl ns H1 e1 hxl0 hxl hn14 => ?_⟩
  have hdn : d ≠ nl := fun z => by rw [z, hN] at hD; cases hD
  have L0 : LX K H nl d h sl xl xs ss ns m hp cs H1 := ⟨e1.kp _, e1 _ _ hN, e1 _ _ hS, hxl, e1 _ _ hD, e1 _ _ hH, hok.same e1⟩
  have ha : ∀ (i : Int) (j : Nat), i = (j : Int) → (hj : j < ns.length) → atI (ns.map V.int) i = some (.int ns[j]) := fun i j e hj => fm e hj
  have hkx : k < xs.length := by lia
  have hdl : ∀ {n : Nat}, n ≤ 1000 → n < sizeLine := fun h => Nat.lt_of_le_of_lt h (by decide)
  refine ⟨_, rfl, _, rfl, nl, _, _, .str xs[k], rfl, rfl, SqL.of L0.nl, bu (by rw [List.getElem?_map, List.getElem?_eq_getElem hkx]; rfl), ?_⟩
  have hxk : xs[k] ∈ xs ++ [("nil" : Str)] := List.mem_append.mpr (.inl (List.getElem_mem hkx))
  have hgk : xs.getD k "" = xs[k] := by rw [List.getD_eq_getElem?_getD, List.getElem?_eq_getElem hkx]; rfl
  rw [hgk] at q
  have hxkn : xs[k] ≠ "nil" := (hxn _ (List.getElem_mem hkx)).nil
  have hss0 : ss[0] ∈ ss := List.getElem_mem (by lia)
  have hlkO : ∀ (v : Int) (y : Str), y ≠ xs[k] → lkI (putM m xs[k] v) y = lkI m y := fun v y hy => by rw [d8, if_neg hy]
  have hlkK : ∀ v : Int, lkI (putM m xs[k] v) xs[k] = some v := fun v => by rw [d8, if_pos rfl]
  have hnilP : ∀ v : Int, lkI (putM m xs[k] v) "nil" = some 0 := fun v => by rw [hlkO v _ (Ne.symm hxkn)]; exact hnil
  have hwk : ∃ i, ∃ hi : i < xs.length, (i ≤ k ∨ i = 6) ∧ xs[k] = xs[i] := ⟨k, hkx, .inl (Nat.le_refl _), rfl⟩
  have hw6 : ∃ i, ∃ hi : i < xs.length, (i ≤ k ∨ i = 6) ∧ xs[6] = xs[i] := ⟨6, by lia, .inr rfl, rfl⟩
  have h6m : xs[6] ∈ xs ++ [("nil" : Str)] := List.mem_append.mpr (.inl (List.getElem_mem (by lia)))
  have hnm : ("nil" : Str) ∈ xs ++ [("nil" : Str)] := List.mem_append.mpr (.inr (by simp))
  have hat6 : atI (xs.map V.str) (6 : Int) = some (.str xs[6]) := bu (j := 6) (by rw [List.getElem?_map, List.getElem?_eq_getElem (by lia)]; rfl)
  refine ⟨_, rfl, xl, _, 0, .int ns[0], rfl, rfl, SqL.of L0.xl, ha 0 0 rfl (by lia), _, _, rfl, rfl, (show (0 : Int) < 3 by decide), rfl, _, rfl, iteB (fun _ => ?_) (fun _ => ?_)⟩
  · -- a cell
    obtain ⟨i1, hi1, hi1k, hat1⟩ := tq (xs := xs) (i := ns[2] % ((k : Int) + 1)) (b := k + 1) (Int.emod_nonneg _ (by lia)) (by have := Int.emod_lt_of_pos ns[2] (show (0 : Int) < (k : Int) + 1 by lia); lia) (by lia)
    have hw1 : xs[i1] ∈ xs := List.getElem_mem hi1
    generalize hw1e : xs[i1] = w1 at hw1 hat1
    refine ⟨_, rfl, _, rfl, xl, _, 2, .int ns[2], rfl, rfl, SqL.of L0.xl, ha 2 2 rfl (by lia), _, rfl, _, _, rfl, rfl, _, _, rfl, rfl, (show (0 : Int) < (k : Int) + 1 by lia), nl, _, _, .str w1, rfl, rfl, SqL.of L0.nl, hat1, _, rfl, nl, _, 6, .str xs[6], rfl, rfl, SqL.of L0.nl, hat6, (show 3 ≤ sizeLine by decide), fun el hel => ?_⟩
    have hm3 : ∀ w ∈ [("nil" : Str), w1, xs[6]], w ∈ xs ++ [("nil" : Str)] := fun w hw => by
      simp only [List.mem_cons, List.not_mem_nil, or_false] at hw
      rcases hw with rfl | rfl | rfl
      · exact hnm
      · exact List.mem_append.mpr (.inl hw1)
      · exact h6m
    have L1 := L0.new (ad hel (.lst ([("nil" : Str), w1, xs[6]].map V.str)))
    have hE1 : (upd H1 el (.lst ([("nil" : Str), w1, xs[6]].map V.str))) el = some (.lst ([("nil" : Str), w1, xs[6]].map V.str)) := aa
    generalize hH2 : upd H1 el (.lst ([("nil" : Str), w1, xs[6]].map V.str)) = H2 at L1 hE1
    rw [show upd H1 el (.lst [.str "nil", .str w1, .str xs[6]]) = H2 from hH2]
    obtain ⟨f1, hf1, hfm⟩ := cv [("nil" : Str), w1, xs[6]] (n := 3) (i := ns[3]) rfl (by decide)
    obtain ⟨f2, hf2, hsm⟩ := cv [("nil" : Str), w1, xs[6]] (n := 3) (i := ns[4]) rfl (by decide)
    refine ⟨_, rfl, _, rfl, xl, _, 3, .int ns[3], rfl, rfl, SqL.of L1.xl, ha 3 3 rfl (by lia), _, _, rfl, rfl, (show (0 : Int) < 3 by decide), el, _, _, .str f1, rfl, rfl, SqL.of hE1, hf1, ?_⟩
    refine ⟨_, rfl, _, rfl, xl, _, 4, .int ns[4], rfl, rfl, SqL.of L1.xl, ha 4 4 rfl (by lia), _, _, rfl, rfl, (show (0 : Int) < 3 by decide), el, _, _, .str f2, rfl, rfl, SqL.of hE1, hf2, ?_⟩
    have hs0 : atI (ss.map V.int) (0 : Int) = some (.int ss[0]) := fm (j := 0) rfl (by lia)
    refine ⟨_, rfl, sl, _, 0, .int ss[0], rfl, rfl, SqL.of L1.sl, hs0, _, rfl, _, rfl, d, _, rfl, DPut.k (k := Sum.inr xs[k]) L1.d ?_, ?_⟩
    · unfold dv; rw [List.length_map]; exact hdl (by lia)
    rw [ej]
    have L2' := L1.dput hdh (putM m xs[k] ss[0])
    generalize upd H2 d (.dK (dv (putM m xs[k] ss[0]))) = H3 at L2' ⊢
    obtain ⟨v1, hv1, g1⟩ := dget L2'.d (u7 (hin f1 (hm3 f1 hfm)))
    obtain ⟨v2, hv2, g2⟩ := dget L2'.d (u7 (hin f2 (hm3 f2 hsm)))
    refine ⟨_, rfl, _, rfl, d, .int v1, rfl, g1, _, rfl, _, rfl, d, .int v2, rfl, g2, (show 2 ≤ sizeLine by decide), fun t1 ht1 => ?_⟩
    have L3 := L2'.new (ad ht1 (.tup [.int v1, .int v2]))
    refine ⟨_, rfl, _, rfl, sl, _, 0, .int ss[0], rfl, rfl, SqL.of L3.sl, hs0, h, _, rfl, DPut.k (k := Sum.inl ss[0]) L3.h ?_, ?_⟩
    · unfold hv; rw [List.length_map]; exact hdl (by lia)
    rw [jp]
    have L4 := L2'.hput hdh ht1 ss[0] v1 v2
    generalize upd (upd H3 t1 (.tup [.int v1, .int v2])) h (.dK (hv (putH hp ss[0] t1))) = H4 at L4 ⊢
    obtain ⟨s2, hs2, hs2m⟩ := cv [f2, ("any" : Str)] (n := 2) (i := ns[5]) rfl (by decide)
    refine ⟨_, rfl, _, rfl, _, rfl, (show 2 ≤ sizeLine by decide), fun l2 hl2 => ?_⟩
    have u1 := ad hl2 (.lst [.str f2, .str "any"])
    have L5 := L4.new u1
    refine ⟨_, rfl, xl, _, 5, .int ns[5], rfl, rfl, SqL.of L5.xl, ha 5 5 rfl (by lia), _, _, rfl, rfl, (show (0 : Int) < 2 by decide), l2, _, _, .str s2, rfl, rfl, SqL.of aa, hs2, (show 4 ≤ sizeLine by decide), fun p hp' => ?_⟩
    have u2 := ad hp' (.tup ([("cell" : Str), xs[k], f1, s2].map V.str))
    have L6 := L5.new u2
    refine ⟨_, rfl, sl, _, 0, .int ss[0], rfl, rfl, SqL.of L6.sl, hs0, (show 1 ≤ sizeLine by decide), fun rl hrl => ⟨(show 2 ≤ sizeLine by decide), fun t ht => ?_⟩⟩
    have u3 := ad hrl (.lst [.int ss[0]])
    have u4 := u3.trans (ad ht (.tup [.ref p, .ref rl]))
    have L7 := L6.new u4
    have hs2c : s2 = f2 ∨ s2 = "any" := by simpa using hs2m
    have hwd : ∀ y ∈ [("nil" : Str), w1, xs[6]], y = "any" ∨ y = "nil" ∨ ∃ i, ∃ hi : i < xs.length, (i ≤ k ∨ i = 6) ∧ y = xs[i] := fun y hy => by
      simp only [List.mem_cons, List.not_mem_nil, or_false] at hy
      rcases hy with rfl | rfl | rfl
      · exact .inr (.inl rfl)
      · exact .inr (.inr ⟨i1, hi1, .inl (by lia), hw1e.symm⟩)
      · exact .inr (.inr hw6)
    have hcn : atc cs ss[0] = none := (hsz _ hss0).2
    have hrlF : H rl = none := by
      have h1 : (upd H1 el (.lst ([("nil" : Str), w1, xs[6]].map V.str))) = H2 := hH2
      exact L6.kp.freeX hrl (fun b hb => by rcases hb with rfl | rfl; rw [L6.d]; simp; rw [L6.h]; simp)
    refine q t p rl (putM m xs[k] ss[0]) (putC cs ss[0] (v1, v2)) [("cell" : Str), xs[k], f1, s2] [ss[0]] _ L7.kp aa (u4.seqT (SqT.of aa)) (.inl ⟨_, _, _, rfl, hxk, .inl (hm3 f1 hfm), ?_⟩) (ad ht _ _ _ aa) hrlF L7.d (by have := dt m xs[k] ss[0]; lia) (hlkO _) ⟨_, hlkK _, .inl hss0⟩ ⟨_, L7.h, L7.ok⟩ (by rw [oe, hcn]; rfl) (fun x hx => by rw [ig, if_neg (fun z => hx (by rw [z]; exact hss0))]) (fun x hx => by rw [List.mem_singleton.mp hx]; exact hss0) (by simp) ?_ (fun y hy => ?_)
    · rcases hs2c with rfl | rfl
      · exact .inl (hm3 _ hsm)
      · exact .inr rfl
    · have e1 : num (putM m xs[k] ss[0]) xs[k] = ss[0] := fg (hnilP _) (hlkK _)
      have e2 : mayB (putM m xs[k] ss[0]) f1 v1 = true := by unfold mayB; rw [decide_eq_true (fg (hnilP _) hv1), Bool.or_true]
      have e3 : mayB (putM m xs[k] ss[0]) s2 v2 = true := by
        unfold mayB
        rcases hs2c with e | e
        · rw [e, decide_eq_true (fg (hnilP _) hv2), Bool.or_true]
        · rw [decide_eq_true e, Bool.true_or]
      show (if ("cell" : Str) = "cell" then ei (putM m xs[k] ss[0]) (putC cs ss[0] (v1, v2)) xs[k] f1 s2 else _) = _
      rw [if_pos rfl]
      unfold ei
      rw [e1, ig, if_pos rfl]
      show (if mayB _ f1 v1 = true ∧ mayB _ s2 v2 = true then some [ss[0]] else none) = _
      rw [if_pos ⟨e2, e3⟩]
    · have hy' : y = xs[k] ∨ y = f1 ∨ y = s2 := by simpa using hy
      rcases hy' with rfl | rfl | rfl
      · exact .inr (.inr hwk)
      · exact hwd _ hfm
      · rcases hs2c with e | e
        · rw [e]; exact hwd _ hsm
        · exact .inl e
  have m0 := Int.emod_nonneg ns[1] (show (10 : Int) ≠ 0 by decide)
  have m1 := Int.emod_lt_of_pos ns[1] (show (0 : Int) < 10 by decide)
  obtain ⟨n1, hn1⟩ := Int.eq_ofNat_of_zero_le m0
  rw [hn1] at m1
  have hn9 : n1 ≤ 9 := by lia
  have hn1s : n1 ≤ ss.length := by lia
  refine ⟨_, rfl, xl, _, 1, .int ns[1], rfl, rfl, SqL.of L0.xl, ha 1 1 rfl (by lia), _, _, rfl, rfl, (show (0 : Int) < 10 by decide), ?_⟩
  refine ⟨_, rfl, xl, _, 0, .int ns[0], rfl, rfl, SqL.of L0.xl, ha 0 0 rfl (by lia), _, _, rfl, rfl, (show (0 : Int) < 3 by decide), rfl, _, rfl, iteB (fun _ => ?_) (fun _ => ?_)⟩
  · -- a stretch
    refine ⟨_, rfl, nl, _, 6, .str xs[6], rfl, rfl, SqL.of L0.nl, hat6, (show 2 ≤ sizeLine by decide), fun el hel => ?_⟩
    have L1 := L0.new (ad hel (.lst [.str "nil", .str xs[6]]))
    have hE1 : (upd H1 el (.lst [.str "nil", .str xs[6]])) el = some (.lst ([("nil" : Str), xs[6]].map V.str)) := aa
    generalize upd H1 el (.lst [.str "nil", .str xs[6]]) = H2 at L1 hE1 ⊢
    obtain ⟨w0, hw0, hwm⟩ := cv [("nil" : Str), xs[6]] (n := 2) (i := ns[2]) rfl (by decide)
    have hw0c : w0 = "nil" ∨ w0 = xs[6] := by simpa using hwm
    refine ⟨_, rfl, xl, _, 2, .int ns[2], rfl, rfl, SqL.of L1.xl, ha 2 2 rfl (by lia), _, _, rfl, rfl, (show (0 : Int) < 2 by decide), el, _, _, .str w0, rfl, rfl, SqL.of hE1, hw0, ?_⟩
    refine ⟨k, xl, nl, ns, w0, rfl, rfl, rfl, rfl, hk6, L1.xl, hn14, L1.nl, hx8, fun we hwec => ?_⟩
    have hwd : we = "nil" ∨ ∃ i, ∃ hi : i < xs.length, (i < k ∨ i = 6) ∧ we = xs[i] := by
      rcases hwec with rfl | ⟨i, hi, hik, rfl⟩
      · rcases hw0c with rfl | rfl
        · exact .inl rfl
        · exact .inr ⟨6, by lia, .inr rfl, rfl⟩
      · exact .inr ⟨i, hi, .inl hik, rfl⟩
    have hwe : we ∈ xs ++ [("nil" : Str)] := by
      rcases hwd with rfl | ⟨i, hi, _, rfl⟩
      · exact hnm
      · exact List.mem_append.mpr (.inl (List.getElem_mem hi))
    have hwek : we ≠ xs[k] := fun z => by
      rcases hwd with e | ⟨i, hi, hik, e⟩
      · exact hxkn (by rw [← z, e])
      · have := ff hxd hi hkx (by rw [← e, z])
        lia
    obtain ⟨ve, hve⟩ := Option.isSome_iff_exists.mp (hin we hwe)
    have hven : ¬ ve ∈ ss := fun z => by
      rcases hwd with e | ⟨i, hi, hik, e⟩
      · rw [e, hnil] at hve; cases hve; exact (hsz _ z).1 rfl
      · rw [e] at hve; exact hval i hi (by lia) ve hve z
    have gOfL : ∀ {hp0 : List (Int × Addr)} {c0 : ar} {Hc : Hp}, LX K H nl d h sl xl xs ss ns m hp0 c0 Hc → DGet Hc d (.str we) (some (.int ve)) := fun L => by
      have g := DGet.k (k := Sum.inr we) L.d
      rw [et, hve] at g; exact g
    refine ⟨_, rfl, _, rfl, _, rfl, sl, _, rfl, SqL.of L1.sl, fun rw' hrw => ?_⟩
    have ecut : cutV (ss.map V.int) none (some (ns[1] % 10)) = (ss.take n1).map V.int := by rw [hn1]; exact sf ss n1 hn1s
    rw [ecut]
    have htl : (ss.take n1).length = n1 := by rw [List.length_take]; lia
    have hrh : rw' ≠ h := Ne.symm (aj L1.h hrw)
    have hrd : rw' ≠ d := Ne.symm (aj L1.d hrw)
    have L2' := L1.new (ad hrw (.lst ((ss.take n1).map V.int)))
    have hR2 : (upd H2 rw' (.lst ((ss.take n1).map V.int))) rw' = some (.lst ((ss.take n1).map V.int)) := aa
    generalize upd H2 rw' (.lst ((ss.take n1).map V.int)) = H3 at L2' hR2 ⊢
    refine ⟨_, rfl, _, rfl, (by show -(2 ^ 62) ≤ ns[1] % 10; lia), (by show ns[1] % 10 < 2 ^ 62; lia), ?_⟩
    have hnn : (ns[1] % 10).toNat = n1 := by lia
    have hez : ∀ ve : Int, (ss.take n1).map V.int ++ [.int ve] = (ss.take n1 ++ [ve]).map V.int := fun ve => by rw [List.map_append]; rfl
    have hlz : ((ss.take n1).map V.int).length + 1 ≤ sizeLine := by rw [List.length_map, htl]; exact Nat.le_trans (show n1 + 1 ≤ 1000 by lia) (by decide)
    refine cf (lo := 0) (n := (ns[1] % 10).toNat) (fun j σ H' => Ex3 fun (hp' : List (Int × Addr)) (c' : ar) (z14 : Option V) => And6 (LX K H nl d h sl xl xs ss ns m hp' c' H') (c'.length = cs.length + j) ((∀ x, ¬ x ∈ (ss.take n1).take j → atc c' x = atc cs x)) ((∀ i (hi : i < (ss.take n1).length), i < j → ∃ f, atc c' (ss.take n1)[i] = some (f, (ss.take n1 ++ [ve]).getD (i + 1) 0))) (H' rw' = some (.lst ((ss.take n1).map V.int))) (σ = [some (.int c), some (.int (k : Int)), some (.ref nl), some (.ref d), some (.ref h), some (.ref sl), some (.ref xl), some (.str xs[k]), none, none, none, some (.int (ns[1] % 10)), some (.str we), some (.ref rw'), z14])) ⟨hp, cs, none, L2', rfl, (fun x _ => rfl), (fun i hi h0 => absurd h0 (by lia)), hR2, rfl⟩ ?_ ?_
    · rintro j σ H' hj ⟨hp', c', z14, L, hcl', hout, hrow, hR, rfl⟩
      have hpl' : hp'.length ≤ hp.length + j := by rw [Paired.length L.ok, Paired.length hok, hcl']; exact Nat.le_refl _
      rw [hnn] at hj
      have ge := gOfL L
      have hj1 : j + 1 < (ss.take n1 ++ [ve]).length := by rw [List.length_append, htl]; simp; lia
      have hj2 : j < (ss.take n1).length := by lia
      refine ⟨_, rfl, _, rfl, _, _, rfl, rfl, xl, _, _, .int ns[4 + j], rfl, rfl, SqL.of L.xl, ha _ (4 + j) (by show (4 : Int) + (0 + (j : Int)) = _; lia) (by lia), ?_⟩
      refine ⟨_, rfl, _, rfl, _, rfl, d, .int ve, rfl, ge, (show 1 ≤ sizeLine by decide), fun l1 hl1 => ?_⟩
      have u1 := ad hl1 (.lst [.int ve])
      refine ⟨rw', l1, _, _, rfl, rfl, u1 _ _ hR, aa, hlz, fun l2 hl2 => ?_⟩
      rw [hez]
      have u2 := u1.trans (ad hl2 (.lst ((ss.take n1 ++ [ve]).map V.int)))
      refine ⟨_, rfl, _, _, rfl, rfl, l2, _, _, .int (ss.take n1 ++ [ve])[j + 1], rfl, rfl, SqL.of aa, fm (by show 0 + (j : Int) + 1 = ((j + 1 : Nat) : Int); lia) hj1, (show 2 ≤ sizeLine by decide), fun t ht => ?_⟩
      have L3 := L.new u2
      have hR3 := u2 _ _ hR
      generalize upd (upd H' l1 (.lst [.int ve])) l2 (.lst ((ss.take n1 ++ [ve]).map V.int)) = H4 at L3 hR3 ht ⊢
      have s8 := ad ht (.tup [.int ns[4 + j], .int (ss.take n1 ++ [ve])[j + 1]])
      have L4 := L3.hput hdh ht (ss.take n1)[j] ns[4 + j] (ss.take n1 ++ [ve])[j + 1]
      refine ⟨_, rfl, _, rfl, _, rfl, rw', _, _, .int (ss.take n1)[j], rfl, rfl, SqL.of (s8 _ _ hR3), fm (by show 0 + (j : Int) = (j : Int); lia) hj2, h, _, rfl, DPut.k (k := Sum.inl (ss.take n1)[j]) (s8 _ _ L3.h) ?_, ?_⟩
      · unfold hv; rw [List.length_map]; exact hdl (by lia)
      rw [jp]
      have htn : (ss.take n1).Nodup := List.Nodup.sublist (List.take_sublist n1 ss) hsd
      have hjn : ¬ (ss.take n1)[j] ∈ (ss.take n1).take j := fun z => by
        obtain ⟨i, hi, hij, e'⟩ := j3 z
        exact absurd (ff htn hi hj2 e') (Nat.ne_of_lt hij)
      have hjs : (ss.take n1)[j] ∈ ss := List.mem_of_mem_take (List.getElem_mem hj2)
      have hnone : atc c' (ss.take n1)[j] = none := by rw [hout _ hjn]; exact (hsz _ hjs).2
      have htk : (ss.take n1).take (j + 1) = (ss.take n1).take j ++ [(ss.take n1)[j]] := by rw [List.take_add_one, List.getElem?_eq_getElem hj2]; rfl
      refine ⟨_, _, _, L4, by rw [oe, hnone, hcl']; rfl, fun x hx => ?_, fun i hi hij => ?_, by rw [ah hrh]; exact s8 _ _ hR3, rfl⟩
      · rw [htk, List.mem_append, not_or] at hx
        rw [ig, if_neg (fun z => hx.2 (by rw [z]; exact List.mem_singleton.mpr rfl))]
        exact hout x hx.1
      · by_cases e' : i = j
        · subst e'
          refine ⟨ns[4 + i]'(by lia), ?_⟩
          rw [ig, if_pos rfl, List.getD_eq_getElem?_getD, List.getElem?_eq_getElem hj1]
          rfl
        · obtain ⟨f, hf⟩ := hrow i hi (by lia)
          exact ⟨f, by rw [ig, if_neg (fun z => e' (ff htn hi hj2 z))]; exact hf⟩
    rintro σ H' ⟨hp', c', z14, L, hcl', hout, hrow, hR, rfl⟩
    rw [hnn] at hcl' hout hrow
    have htn : (ss.take n1).Nodup := List.Nodup.sublist (List.take_sublist n1 ss) hsd
    have ge := gOfL L
    have hj0 : 0 < (ss.take n1 ++ [ve]).length := by simp
    refine ⟨_, rfl, _, rfl, _, rfl, d, .int ve, rfl, ge, (show 1 ≤ sizeLine by decide), fun l1 hl1 => ?_⟩
    have u1 := ad hl1 (.lst [.int ve])
    refine ⟨rw', l1, _, _, rfl, rfl, u1 _ _ hR, aa, hlz, fun l2 hl2 => ?_⟩
    rw [hez]
    have u2 := u1.trans (ad hl2 (.lst ((ss.take n1 ++ [ve]).map V.int)))
    have L3 := L.new u2
    refine ⟨l2, _, 0, .int (ss.take n1 ++ [ve])[0], rfl, rfl, SqL.of aa, fm (j := 0) rfl hj0, _, rfl, _, rfl, d, _, rfl, DPut.k (k := Sum.inr xs[k]) L3.d ?_, ?_⟩
    · unfold dv; rw [List.length_map]; exact hdl (by lia)
    rw [ej]
    have L4 := L3.dput hdh (putM m xs[k] (ss.take n1 ++ [ve])[0])
    have hR4 : (upd (upd (upd H' l1 (.lst [.int ve])) l2 (.lst ((ss.take n1 ++ [ve]).map V.int))) d (.dK (dv (putM m xs[k] (ss.take n1 ++ [ve])[0])))) rw' = some (.lst ((ss.take n1).map V.int)) := by rw [ah hrd]; exact u2 _ _ hR
    generalize upd (upd (upd H' l1 (.lst [.int ve])) l2 (.lst ((ss.take n1 ++ [ve]).map V.int))) d (.dK (dv (putM m xs[k] (ss.take n1 ++ [ve])[0]))) = H4 at L4 hR4 ⊢
    refine ⟨_, rfl, _, rfl, (show 3 ≤ sizeLine by decide), fun p hp3 => ?_⟩
    have u3 := ad hp3 (.tup ([("stretch" : Str), xs[k], we].map V.str))
    refine ⟨_, rfl, (show 2 ≤ sizeLine by decide), fun t ht => ?_⟩
    have u4 := ad ht (.tup [.ref p, .ref rw'])
    have L5 := L4.new (u3.trans u4)
    have hrwF : H rw' = none := L1.kp.freeX hrw (fun b hb => by rcases hb with rfl | rfl; rw [L1.d]; simp; rw [L1.h]; simp)
    have hRf := (u3.trans u4) _ _ hR4
    refine q t p rw' (putM m xs[k] (ss.take n1 ++ [ve])[0]) c' [("stretch" : Str), xs[k], we] (ss.take n1) _ L5.kp aa (u4.seqT (SqT.of aa)) (.inr (.inl ⟨_, _, rfl, hxk, hwe⟩)) hRf hrwF L5.d (by have := dt m xs[k] (ss.take n1 ++ [ve])[0]; lia) (hlkO _) ⟨_, hlkK _, ?_⟩ ⟨_, L5.h, L5.ok⟩ (by rw [hcl', htl]) (fun x hx => hout x fun z => hx (List.mem_of_mem_take (List.mem_of_mem_take z))) (fun x hx => List.mem_of_mem_take hx) htn ?_ (fun y hy => ?_)
    · rcases a42 hj0 with e0 | e0
      · rw [e0]
        refine .inr ?_
        rcases hwd with e | ⟨i, hi, hik, e⟩
        · left; rw [e, hnil] at hve; exact (Option.some.inj hve).symm
        · right; exact ⟨i, hi, by lia, by rw [← e]; exact hve⟩
      · exact .inl (List.mem_of_mem_take e0)
    · have e1 : num (putM m xs[k] (ss.take n1 ++ [ve])[0]) xs[k] = (ss.take n1 ++ [ve]).getD 0 0 := by
        rw [fg (hnilP _) (hlkK _), List.getD_eq_getElem?_getD, List.getElem?_eq_getElem hj0]; rfl
      have e2 : num (putM m xs[k] (ss.take n1 ++ [ve])[0]) we = ve := fg (hnilP _) (by rw [hlkO _ _ hwek]; exact hve)
      show (if ("stretch" : Str) = "cell" then _ else if ("stretch" : Str) = "stretch" then di c' (num _ xs[k]) (num _ we) else _) = _
      rw [if_neg (by decide +kernel), if_pos rfl, e1, e2]
      exact ut htn (fun x hx z => hven (by rw [← z]; exact List.mem_of_mem_take hx)) fun i hi => hrow i hi (by lia)
    · have hy' : y = xs[k] ∨ y = we := by simpa using hy
      rcases hy' with rfl | rfl
      · exact .inr (.inr hwk)
      · rcases hwd with e | ⟨i, hi, hik, e⟩
        · exact .inr (.inl e)
        · exact .inr (.inr ⟨i, hi, by lia, e⟩)
  · -- a tree
    have ecut : cutV (ss.map V.int) none (some (ns[1] % 10)) = (ss.take n1).map V.int := by rw [hn1]; exact sf ss n1 hn1s
    have htl : (ss.take n1).length = n1 := by rw [List.length_take]; lia
    refine ⟨_, rfl, _, rfl, xl, _, rfl, SqL.of L0.xl, fun x3 hx3 => ?_⟩
    rw [show (some (3 : Int)) = some ((3 : Nat) : Int) from rfl, a02 ns 3 (by lia)]
    have u1 := ad hx3 (.lst ((ns.drop 3).map V.int))
    have L1 := L0.new u1
    refine ⟨_, rfl, _, rfl, _, rfl, sl, _, rfl, SqL.of L1.sl, fun s3 hs3 => ?_⟩
    rw [ecut]
    have u2 := ad hs3 (.lst ((ss.take n1).map V.int))
    have L2' := L1.new u2
    have hX3 := u2 _ _ (show (upd H1 x3 (.lst ((ns.drop 3).map V.int))) x3 = _ from aa)
    have hS3 : (upd (upd H1 x3 (.lst ((ns.drop 3).map V.int))) s3 (.lst ((ss.take n1).map V.int))) s3 = some (.lst ((ss.take n1).map V.int)) := aa
    generalize upd (upd H1 x3 (.lst ((ns.drop 3).map V.int))) s3 (.lst ((ss.take n1).map V.int)) = H2 at L2' hX3 hS3 ⊢
    have htn : (ss.take n1).Nodup := List.Nodup.sublist (List.take_sublist n1 ss) hsd
    refine ⟨_, rfl, x3, s3, h, ns.drop 3, ss.take n1, cs, rfl, hX3, hS3, (by rw [htl, List.length_drop]; lia), (by lia), htn, (fun x hx => (hsz x (List.mem_of_mem_take hx)).1), ⟨hp, L2'.h, L2'.ok⟩, by lia, (fun x hx => (hsz x (List.mem_of_mem_take hx)).2), fun c' T H3 k3 hHA hcl' hout hI htip hperm => ?_⟩
    obtain ⟨hp', hh3, hok3⟩ := hHA
    have kl : ∀ b xs', H2 b = some (.lst xs') → H3 b = some (.lst xs') := fun b xs' hb => k3 b _ hb fun z => by have z' : b = h := z; rw [z', L2'.h] at hb; cases hb
    have L3 : LX K H nl d h sl xl xs ss ns m hp' c' H3 := ⟨L2'.kp.trans fun b o hb hn => k3 b o hb fun z => hn (.inr z), kl _ _ L2'.nl, kl _ _ L2'.sl, kl _ _ L2'.xl, k3 _ _ L2'.d hdh, hh3, hok3⟩
    refine ⟨_, rfl, _, rfl, _, rfl, sl, _, rfl, SqL.of L3.sl, fun s4 hs4 => ?_⟩
    rw [ecut]
    have u3 := ad hs4 (.lst ((ss.take n1).map V.int))
    refine ⟨(show 1 ≤ sizeLine by decide), fun l1 hl1 => ?_⟩
    have u4 := ad hl1 (.lst [.int 0])
    refine ⟨s4, l1, _, _, rfl, rfl, u4 _ _ aa, aa, ?_, fun l2 hl2 => ?_⟩
    · rw [List.length_map, htl]; exact Nat.le_trans (show n1 + 1 ≤ 1000 by lia) (by decide)
    have hez : (ss.take n1).map V.int ++ [.int 0] = (ss.take n1 ++ [0]).map V.int := by rw [List.map_append]; rfl
    rw [hez]
    have u5 := ad hl2 (.lst ((ss.take n1 ++ [0]).map V.int))
    have hj0 : 0 < (ss.take n1 ++ [0]).length := by simp
    have uu := u3.trans (u4.trans u5)
    have L4 := L3.new uu
    refine ⟨l2, _, 0, .int (ss.take n1 ++ [0])[0], rfl, rfl, SqL.of aa, fm (j := 0) rfl hj0, _, rfl, _, rfl, d, _, rfl, DPut.k (k := Sum.inr xs[k]) L4.d ?_, ?_⟩
    · unfold dv; rw [List.length_map]; exact hdl (by lia)
    rw [ej]
    have L5 := L4.dput hdh (putM m xs[k] (ss.take n1 ++ [0])[0])
    generalize upd (upd (upd (upd H3 s4 (.lst ((ss.take n1).map V.int))) l1 (.lst [.int 0])) l2 (.lst ((ss.take n1 ++ [0]).map V.int))) d (.dK (dv (putM m xs[k] (ss.take n1 ++ [0])[0]))) = H5 at L5 ⊢
    have hml5 := dt m xs[k] (ss.take n1 ++ [0])[0]
    refine ⟨d, _, xs[k], n1, (by show some (some (V.int (ns[1] % 10))) = _; rw [hn1]), rfl, rfl, L5.d, by lia, fun H6 m6 hcase => ?_⟩
    have hplen : (pre T).length = n1 := by rw [hperm.length_eq, htl]
    have g6 : LX K H nl d h sl xl xs ss ns m6 hp' c' H6 ∧ lkI m6 xs[k] = some (tip T) ∧ m6.length ≤ m.length + 2 ∧ ∀ y, y ≠ xs[k] → lkI m6 y = lkI m y := by
      rcases hcase with ⟨rfl, rfl, hn0⟩ | ⟨rfl, rfl, hn0⟩
      · refine ⟨L5, ?_, by lia, hlkO _⟩
        rw [hlkK, htip, List.getD_eq_getElem?_getD, List.getElem?_eq_getElem hj0]; rfl
      · refine ⟨L5.dput hdh _, ?_, ?_, fun y hy => by rw [d8, if_neg hy]; exact hlkO _ y hy⟩
        · rw [d8, if_pos rfl, htip, hn0]; rfl
        · have := dt (putM m xs[k] (ss.take n1 ++ [0])[0]) xs[k] 0; lia
    obtain ⟨L6, hlk, hml6, hoth⟩ := g6
    refine ⟨_, rfl, (show 2 ≤ sizeLine by decide), fun p hp3 => ?_⟩
    have u6 := ad hp3 (.tup ([("tree" : Str), xs[k]].map V.str))
    have L7 := L6.new u6
    have g7 := DGet.k (k := Sum.inr xs[k]) L7.d
    rw [et, hlk] at g7
    refine ⟨_, rfl, _, rfl, _, rfl, d, .int (tip T), rfl, g7, h, T, c', rfl, ⟨_, L7.h, L7.ok⟩, hI, by lia, fun rl H8 e8 hrl0 hrl => ?_⟩
    refine ⟨(show 2 ≤ sizeLine by decide), fun t ht => ?_⟩
    have u8 := e8.trans (ad ht (.tup [.ref p, .ref rl]))
    have L8 := L7.new u8
    have hrlF : H rl = none := L7.kp.freeX hrl0 (fun b hb => by rcases hb with rfl | rfl; rw [L7.d]; simp; rw [L7.h]; simp)
    have hnil6 : lkI m6 "nil" = some 0 := by rw [hoth _ (Ne.symm hxkn)]; exact hnil
    have hpn : (pre T).Nodup := hperm.nodup_iff.mpr htn
    refine q t p rl m6 c' [("tree" : Str), xs[k]] (pre T) _ L8.kp aa (u8.seqT (SqT.of aa)) (.inr (.inr ⟨_, rfl, hxk⟩)) (ad ht _ _ _ hrl) hrlF L8.d hml6 hoth ⟨_, hlk, ?_⟩ ⟨_, L8.h, L8.ok⟩ (by rw [hcl', htl, hplen]) (fun x hx => hout x fun z => hx (List.mem_of_mem_take z)) (fun x hx => List.mem_of_mem_take (hperm.mem_iff.mp hx)) hpn ?_ (fun y hy => ?_)
    · rw [htip]
      cases hst : ss.take n1 with
      | nil => exact .inr (.inl rfl)
      | cons x l => exact .inl (List.mem_of_mem_take (by rw [hst]; exact List.mem_cons_self ..))
    · show (if ("tree" : Str) = "cell" then _ else if ("tree" : Str) = "stretch" then _ else gj c' (num m6 xs[k])) = _
      rw [if_neg (by decide +kernel), if_neg (by decide +kernel), fg hnil6 hlk]
      exact zc hI hpn
    · have hy' : y = xs[k] := by simpa using hy
      rw [hy']; exact .inr (.inr hwk)
end
end K13
namespace K13
open PySem PySem.Spec L2 Mir
theorem wq {ws : List Str} {m m' : List (Str × Int)} {cs : ar} {r : List Str} (hp : PartOf ws r) (h : ∀ y ∈ r.drop 1, lkI m' y = lkI m y) : be m' cs r = be m cs r := by
  have hn : ∀ y ∈ r.drop 1, num m' y = num m y := fun y hy => by unfold num; rw [h y hy]
  have hmay : ∀ y ∈ r.drop 1, ∀ n, mayB m' y n = mayB m y n := fun y hy n => by unfold mayB; rw [hn y hy]
  rcases hp with ⟨a, f, s, rfl, _⟩ | ⟨a, b, rfl, _⟩ | ⟨a, rfl, _⟩
  · have a1 := hn a (by simp)
    have a2 := hmay f (by simp)
    have a3 := hmay s (by simp)
    show (if ("cell" : Str) = "cell" then ei m' cs a f s else _) = (if ("cell" : Str) = "cell" then ei m cs a f s else _)
    rw [if_pos rfl, if_pos rfl]
    unfold ei
    rw [a1]
    cases atc cs (num m a) with
    | none => rfl
    | some c => simp only [a2, a3]
  · have a1 := hn a (by simp)
    have a2 := hn b (by simp)
    unfold be
    show (if ("stretch" : Str) = "cell" then _ else if ("stretch" : Str) = "stretch" then di cs (num m' a) (num m' b) else _) = (if ("stretch" : Str) = "cell" then _ else if ("stretch" : Str) = "stretch" then di cs (num m a) (num m b) else _)
    have hs1 : ¬ ("stretch" : Str) = "cell" := by decide +kernel
    rw [if_neg hs1, if_pos rfl, if_neg hs1, if_pos rfl, a1, a2]
  · have a1 := hn a (by simp)
    unfold be
    show (if ("tree" : Str) = "cell" then _ else if ("tree" : Str) = "stretch" then _ else gj cs (num m' a)) = (if ("tree" : Str) = "cell" then _ else if ("tree" : Str) = "stretch" then _ else gj cs (num m a))
    have hs1 : ¬ ("tree" : Str) = "cell" := by decide +kernel
    have hs2 : ¬ ("tree" : Str) = "stretch" := by decide +kernel
    rw [if_neg hs1, if_neg hs2, if_neg hs1, if_neg hs2, a1]
theorem xz {α : Type} [DecidableEq α] : ∀ {l m : List α}, l.Nodup → (∀ x ∈ l, x ∈ m) → m.length = l.length → l.Perm m
  | [], m, _, _, h => by rw [List.eq_nil_of_length_eq_zero h]
  | x :: l, m, hn, hs, h => by
    have hx := hs x (List.mem_cons_self ..)
    have hc := List.nodup_cons.mp hn
    have h1 : l.Perm (m.erase x) := xz hc.2 (fun y hy => (List.mem_erase_of_ne (a := y) (b := x) (fun z => hc.1 (by rw [← z]; exact hy))).mpr (hs y (List.mem_cons_of_mem _ hy))) (by
      rw [List.length_erase_of_mem hx, h]; rfl)
    exact (h1.cons x).trans (List.perm_cons_erase hx).symm
theorem blk {ss : List Int} (hn : ss.Nodup) (hl : ss.length = 60) {k : Nat} (hk : k < 5) : ((ss.drop (10 * k)).take 10).length = 10 ∧ ((ss.drop (10 * k)).take 10).Nodup ∧ (∀ x ∈ (ss.drop (10 * k)).take 10, ¬ x ∈ ss.take (10 * k)) ∧ (¬ ss.getD 59 0 ∈ (ss.drop (10 * k)).take 10) ∧ ∀ x, x ∈ ss.take (10 * (k + 1)) ↔ x ∈ ss.take (10 * k) ∨ x ∈ (ss.drop (10 * k)).take 10 := by
  have e1 : ss = ss.take (10 * k) ++ ss.drop (10 * k) := (List.take_append_drop _ _).symm
  have e2 : ss.take (10 * (k + 1)) = ss.take (10 * k) ++ (ss.drop (10 * k)).take 10 := by
    rw [show 10 * (k + 1) = 10 * k + 10 by lia, List.take_add]
  have hd := hn
  rw [e1] at hd
  have hd' := List.nodup_append.mp hd
  refine ⟨by rw [List.length_take, List.length_drop]; lia, List.Sublist.nodup (List.take_sublist _ _) hd'.2.1, fun x hx z => hd'.2.2 x z x (List.mem_of_mem_take hx) rfl, fun z => ?_, fun x => by rw [e2, List.mem_append]⟩
  obtain ⟨i, hi, e⟩ := List.getElem_of_mem z
  have hi' : i < 10 := by rw [List.length_take] at hi; lia
  rw [List.getElem_take, List.getElem_drop] at e
  have h59 : ss.getD 59 0 = ss[59] := by rw [List.getD_eq_getElem?_getD, List.getElem?_eq_getElem (by lia)]; rfl
  rw [h59] at e
  have := ff hn (by lia) (by lia) e
  lia
structure BF (xs : List Str) (ss : List Int) (m7 : List (Str × Int)) : Prop where
  x8 : xs.length = 8
  xd : xs.Nodup
  xn : ∀ x ∈ xs, NameG x
  s60 : ss.length = 60
  sd : ss.Nodup
  sp : ∀ x ∈ ss, 0 < x
  nil : lkI m7 "nil" = some 0
  six : lkI m7 (xs.getD 6 "") = some (ss.getD 59 0)
  sev : (lkI m7 (xs.getD 7 "")).isSome = true
  low : ∀ j, j < 6 → lkI m7 (xs.getD j "") = some 0
structure BP (xs : List Str) (ss : List Int) (m7 m : List (Str × Int)) (cs : ar) (ps : List (List Str)) (rows : List (List Int)) (k : Nat) : Prop where
  len : cs.length = rows.flatten.length
  few : cs.length ≤ 10 * k
  sub : ∀ x ∈ rows.flatten, x ∈ ss.take (10 * k)
  out : ∀ x, ¬ x ∈ ss.take (10 * k) → atc cs x = none
  oth : ∀ y, (∀ j, j < k → y ≠ xs.getD j "") → lkI m y = lkI m7 y
  val : ∀ j, j < k → ∃ v, lkI m (xs.getD j "") = some v ∧ (v = 0 ∨ v = ss.getD 59 0 ∨ v ∈ ss.take (10 * k))
  prt : Paired (fun r row => be m cs r = some row ∧ PartOf (xs ++ [("nil" : Str)]) r ∧ ∀ y ∈ r.drop 1, y = "any" ∨ y = "nil" ∨ ∃ i, (i < k ∨ i = 6) ∧ y = xs.getD i "") ps rows
  nd : rows.flatten.Nodup
theorem BF.gd {xs : List Str} {ss : List Int} {m7 : List (Str × Int)} (F : BF xs ss m7) {i : Nat} (hi : i < xs.length) : xs.getD i "" = xs[i] := by rw [List.getD_eq_getElem?_getD, List.getElem?_eq_getElem hi]; rfl
theorem BF.inj {xs : List Str} {ss : List Int} {m7 : List (Str × Int)} (F : BF xs ss m7) {i j : Nat} (hi : i < 8) (hj : j < 8) (e : xs.getD i "" = xs.getD j "") : i = j := by
  have h8 := F.x8
  rw [F.gd (by lia), F.gd (by lia)] at e
  exact ff F.xd (by lia) (by lia) e
theorem BF.mem {xs : List Str} {ss : List Int} {m7 : List (Str × Int)} (F : BF xs ss m7) {i : Nat} (hi : i < 8) : xs.getD i "" ∈ xs := by
  have h8 := F.x8
  rw [F.gd (by lia)]; exact List.getElem_mem _
theorem BF.start {xs : List Str} {ss : List Int} {m7 : List (Str × Int)} (F : BF xs ss m7) : BP xs ss m7 m7 [] [] [] 0 :=
  ⟨rfl, Nat.zero_le _, (fun x hx => by simp at hx), (fun x _ => rfl), (fun y _ => rfl), (fun j hj => absurd hj (by lia)), .nil, List.nodup_nil⟩
theorem BP.vals {xs : List Str} {ss : List Int} {m7 m : List (Str × Int)} {cs : ar} {ps : List (List Str)} {rows : List (List Int)} {k : Nat} (F : BF xs ss m7) (B : BP xs ss m7 m cs ps rows k) (hk : k < 5) {i : Nat} (hi : i ≤ k ∨ i = 6) : ∃ v, lkI m (xs.getD i "") = some v ∧ (v = 0 ∨ v = ss.getD 59 0 ∨ v ∈ ss.take (10 * k)) := by
  by_cases h1 : i < k
  · exact B.val i h1
  · have ho := B.oth (xs.getD i "") fun j hj e => by have := F.inj (by lia) (by lia) e; lia
    by_cases h2 : i = 6
    · subst h2; exact ⟨_, ho.trans F.six, .inr (.inl rfl)⟩
    · exact ⟨_, ho.trans (F.low i (by lia)), .inl rfl⟩
theorem BP.isS {xs : List Str} {ss : List Int} {m7 m : List (Str × Int)} {cs : ar} {ps : List (List Str)} {rows : List (List Int)} {k : Nat} (F : BF xs ss m7) (B : BP xs ss m7 m cs ps rows k) (hk : k ≤ 5) : ∀ x ∈ xs ++ [("nil" : Str)], (lkI m x).isSome = true := fun x hx => by
  have h8 := F.x8
  have hnm : ∀ j, j < 8 → "nil" ≠ xs.getD j "" := fun j hj e => (F.xn _ (F.mem hj)).nil e.symm
  rcases List.mem_append.mp hx with h | h
  · obtain ⟨i, hi, rfl⟩ := List.getElem_of_mem h
    rw [← F.gd hi]
    by_cases h1 : i < k
    · obtain ⟨v, hv, _⟩ := B.val i h1; rw [hv]; rfl
    · rw [B.oth (xs.getD i "") fun j hj e => by have := F.inj (by lia) (by lia) e; lia]
      by_cases h2 : i = 6
      · subst h2; rw [F.six]; rfl
      · by_cases h3 : i = 7
        · subst h3; exact F.sev
        · rw [F.low i (by lia)]; rfl
  · have : x = "nil" := by simpa using h
    rw [this, B.oth "nil" fun j hj => hnm j (by lia), F.nil]; rfl
theorem BP.nil {xs : List Str} {ss : List Int} {m7 m : List (Str × Int)} {cs : ar} {ps : List (List Str)} {rows : List (List Int)} {k : Nat} (F : BF xs ss m7) (B : BP xs ss m7 m cs ps rows k) (hk : k ≤ 5) : lkI m "nil" = some 0 := by
  rw [B.oth "nil" fun j hj e => (F.xn _ (F.mem (i := j) (by lia))).nil e.symm, F.nil]
theorem mn (rows : List (List Int)) (row : List Int) : (rows ++ [row]).flatten = rows.flatten ++ row := by simp
theorem BP.step {xs : List Str} {ss : List Int} {m7 m m' : List (Str × Int)} {cs cs' : ar} {ps : List (List Str)} {rows : List (List Int)} {k : Nat} {r : List Str} {row : List Int} (F : BF xs ss m7) (B : BP xs ss m7 m cs ps rows k) (hk : k < 5)
    (h1 : PartOf (xs ++ [("nil" : Str)]) r) (h2 : ∀ y, y ≠ xs.getD k "" → lkI m' y = lkI m y) (h3 : ∃ v, lkI m' (xs.getD k "") = some v ∧ (v ∈ (ss.drop (10 * k)).take 10 ∨ v = 0 ∨ ∃ i, ∃ hi : i < xs.length, (i ≤ k ∨ i = 6) ∧ lkI m xs[i] = some v)) (h4 : cs'.length = cs.length + row.length) (h5 : ∀ x, ¬ x ∈ (ss.drop (10 * k)).take 10 → atc cs' x = atc cs x) (h6 : ∀ x ∈ row, x ∈ (ss.drop (10 * k)).take 10) (h7 : row.Nodup) (h8 : be m' cs' r = some row)
    (h9 : ∀ y ∈ r.drop 1, y = "any" ∨ y = "nil" ∨ ∃ i, ∃ hi : i < xs.length, (i ≤ k ∨ i = 6) ∧ y = xs[i]) : BP xs ss m7 m' cs' (ps ++ [r]) (rows ++ [row]) (k + 1) := by
  obtain ⟨b1, b2, b3, b4, b5⟩ := blk F.sd F.s60 hk
  have hrl : row.length ≤ 10 := by
    have := List.Nodup.length_le_of_subset h7 (l₂ := (ss.drop (10 * k)).take 10) h6
    lia
  have hnm : ∀ j, j < 8 → xs.getD j "" ≠ "nil" ∧ xs.getD j "" ≠ "any" := fun j hj => ⟨(F.xn _ (F.mem hj)).nil, (F.xn _ (F.mem hj)).any⟩
  have few := B.few
  have len := B.len
  refine ⟨by rw [mn, List.length_append]; lia, by lia, fun x hx => ?_, fun x hx => ?_, fun y hy => ?_, fun j hj => ?_, ?_, ?_⟩
  · rw [mn] at hx
    rw [b5]
    rcases List.mem_append.mp hx with h | h
    · exact .inl (B.sub x h)
    · exact .inr (h6 x h)
  · rw [b5] at hx
    rw [h5 x fun z => hx (.inr z)]
    exact B.out x fun z => hx (.inl z)
  · rw [h2 y (hy k (by lia))]
    exact B.oth y fun j hj => hy j (by lia)
  · by_cases hjk : j = k
    · subst hjk
      obtain ⟨v, hv, hc⟩ := h3
      refine ⟨v, hv, ?_⟩
      rcases hc with h | h | ⟨i, hi, hik, hv2⟩
      · exact .inr (.inr ((b5 v).mpr (.inr h)))
      · exact .inl h
      · obtain ⟨v', e1, e2⟩ := B.vals F hk hik
        rw [F.gd hi, hv2] at e1
        have : v = v' := Option.some.inj e1
        subst this
        rcases e2 with e2 | e2 | e2
        · exact .inl e2
        · exact .inr (.inl e2)
        · exact .inr (.inr ((b5 v).mpr (.inl e2)))
    · obtain ⟨v, hv, hc⟩ := B.val j (by lia)
      refine ⟨v, by rw [h2 _ fun e => hjk (F.inj (by lia) (by lia) e)]; exact hv, ?_⟩
      rcases hc with e2 | e2 | e2
      · exact .inl e2
      · exact .inr (.inl e2)
      · exact .inr (.inr ((b5 v).mpr (.inl e2)))
  · have hin : ∀ {rows : List (List Int)} {x : Int} {ns : List Int}, ns ∈ rows → x ∈ ns → x ∈ rows.flatten := fun h1 h2 => List.mem_flatten.mpr ⟨_, h1, h2⟩
    have hsub := B.sub
    have hprt := B.prt
    have main : ∀ {ps : List (List Str)} {rows : List (List Int)}, (∀ x ∈ rows.flatten, x ∈ ss.take (10 * k)) → Paired (fun r row => be m cs r = some row ∧ PartOf (xs ++ [("nil" : Str)]) r ∧ ∀ y ∈ r.drop 1, y = "any" ∨ y = "nil" ∨ ∃ i, (i < k ∨ i = 6) ∧ y = xs.getD i "") ps rows → Paired (fun r row => be m' cs' r = some row ∧ PartOf (xs ++ [("nil" : Str)]) r ∧ ∀ y ∈ r.drop 1, y = "any" ∨ y = "nil" ∨ ∃ i, (i < k + 1 ∨ i = 6) ∧ y = xs.getD i "") ps rows := by
      intro ps rows hs hp
      induction hp with
      | nil => exact .nil
      | @cons r0 row0 ps0 rows0 h t ih =>
        obtain ⟨g1, g2, g3⟩ := h
        refine .cons ⟨?_, g2, fun y hy => ?_⟩ (ih fun x hx => hs x (by rw [List.flatten_cons]; exact List.mem_append.mpr (.inr hx)))
        · have e1 : be m' cs' r0 = be m cs' r0 := wq g2 fun y hy => h2 y fun e => by
            rcases g3 y hy with z | z | ⟨i, hi, z⟩
            · exact (hnm k (by lia)).2 (e.symm.trans z)
            · exact (hnm k (by lia)).1 (e.symm.trans z)
            · have := F.inj (i := i) (j := k) (by lia) (by lia) (z.symm.trans e); lia
          rw [e1]
          refine yl g1 fun x hx c hc => ⟨c, ?_, LikeC.refl _ _ _⟩
          rw [h5 x fun z => b3 x z (hs x (by rw [List.flatten_cons]; exact List.mem_append.mpr (.inl hx)))]
          exact hc
        · rcases g3 y hy with z | z | ⟨i, hi, z⟩
          · exact .inl z
          · exact .inr (.inl z)
          · exact .inr (.inr ⟨i, by lia, z⟩)
    refine Paired.snocP (main hsub hprt) ⟨h8, h1, fun y hy => ?_⟩
    rcases h9 y hy with z | z | ⟨i, hi, hik, z⟩
    · exact .inl z
    · exact .inr (.inl z)
    · exact .inr (.inr ⟨i, by lia, by rw [F.gd hi]; exact z⟩)
  · rw [mn]
    refine List.nodup_append.mpr ⟨B.nd, h7, fun x hx y hy e => b3 y (h6 y hy) (e ▸ B.sub x hx)⟩
theorem a49 {K : PySem.W.Frag} {H : Hp} {hp : List (Int × Addr)} {cs : ar} {l : List Int} (hc : CellsAt K H hp cs) (hn : l.Nodup) (hl : cs.length = l.length) (hin : ∀ x ∈ l, (atc cs x).isSome = true) : (hp.map (·.1)).Nodup := by
  have e : hp.map (·.1) = cs.map (·.1) := by
    clear hl hin
    induction hc with
    | nil => rfl
    | cons h t ih => rw [List.map_cons, List.map_cons, h.1, ih]
  rw [e]
  exact (xz hn (fun x hx => qi (hin x hx)) (by rw [List.length_map]; exact hl)).nodup_iff.mp hn
end K13
namespace K13
open PySem PySem.Spec L2 Mir
inductive tSpotsXS (D : Ends) (σ : St) (H : Hp) : Prop
  | mk (c : Int) (sp : Addr) (ss : List Int) (h0 : σ[4]? = some (some (.int c))) (h1 : σ[7]? = some (some (.ref sp))) (h2 : H sp = some (.lst (ss.map V.int))) (h3 : ss.length = 60) (h4 : ss.Nodup) (h5 : (∀ x ∈ ss, 0 < x)) (h6 : ∀ sp' ss' H', Same H H' → H' sp' = some (.lst ((ss' : List Int).map V.int)) → ss'.length = 60 → ss'.Nodup → (∀ x ∈ ss', 0 < x) → D.nx (σ.set 7 (some (.ref sp'))) H') : tSpotsXS D σ H
noncomputable def a4b : TS := fun D σ H => tSpotsXS D σ H
inductive spBuiltXS (K : PySem.W.Frag) (vs : List V) (H : Hp) (Q : VK) : Prop
  | mk (a nl d h : Addr) (ns : List Int) (xs : List Str) (h0 : vs = [.ref a, .ref nl, .ref d, .ref h]) (h1 : SqL K H a (ns.map V.int)) (h2 : H nl = some (.lst (xs.map V.str))) (h3 : xs.length = 8) (h4 : xs.Nodup) (h5 : (∀ x ∈ xs, NameG x)) (h6 : H d = some (.dK (dv []))) (h7 : H h = some (.dK (hv []))) (h8 : d ≠ h) (h9 : ∀ t pl rl las m cs ps rows H', Kp (fun b => b = d ∨ b = h) H H' → H pl = none → H rl = none → H' t = some (.tup [.ref pl, .ref rl]) → RowsAt K H' pl ps → dh (xs ++ [("nil" : Str)]) ps → ps.length ≤ 5 → H' rl = some (.lst ((las : List Addr).map V.ref)) → Paired (fun a r => H' a = some (.lst ((r : List Int).map V.int))) las rows → H' d = some (.dK (dv m)) → m.length ≤ 30 → (∀ x ∈ xs ++ [("nil" : Str)], (lkI m x).isSome = true) → lkI m "nil" = some 0 → HeapAt K H' h cs → cs.length ≤ 50 → Paired (fun r row => be m cs r = some row) ps rows → rows.flatten.Nodup → cs.length = rows.flatten.length → Q (.ref t) H') : spBuiltXS K vs H Q
noncomputable def ur (K : PySem.W.Frag) : Sp := fun vs H Q _ => spBuiltXS K vs H Q
theorem a2a (b st : Int) (hb : 0 < b) (hs : 0 < st) : ((List.range 60).map fun (k : Nat) => (b + (0 + ((k : Nat) : Int)) * st)).Nodup ∧ ∀ x ∈ (List.range 60).map fun (k : Nat) => (b + (0 + ((k : Nat) : Int)) * st), 0 < x := by
  constructor
  · refine List.pairwise_map.mpr (List.Pairwise.imp (fun {i j} hij => ?_) List.pairwise_lt_range)
    have h1 : (0 + (i : Int)) * st < (0 + (j : Int)) * st := Int.mul_lt_mul_of_pos_right (by lia) hs
    lia
  · intro x hx
    obtain ⟨k, _, rfl⟩ := List.mem_map.mp hx
    have h1 : 0 ≤ (0 + (k : Int)) * st := Int.mul_nonneg (by lia) (by lia)
    lia
section
variable {P : Program} {w : World} {K : PySem.W.Frag} {mg : Str → Option Value} {base : Heap} {f gC gL : Addr} {fd dC dL : FuncData}
theorem a0z (C : Con K mg w) (F : Fun K "_law_built" "_law_built" js f fd) (GC : FnOk P w K mg base CX0 1 gC dC ["_law_script", "_law_k"] (jk K)) (cC : Cal K mg "_law_cell_at" gC dC ["_law_script", "_law_k"])
    (GL : FnOk P w K mg base CX0 2 gL dL ["_law_cell", "_law_k", "_law_names_here", "_law_values", "_law_heap", "_law_spots"] (wt K)) (cL : Cal K mg "_law_laid" gL dL ["_law_cell", "_law_k", "_law_names_here", "_law_values", "_law_heap", "_law_spots"]) : FnOk P w K mg base CX0 3 f fd ["_law_script", "_law_names_here", "_law_values", "_law_heap"] (ur K) := by
  refine F.okQ scBuilt (fun vs H Q E h => ?_) (fun cdv A outer s0 H vs Q E hr h => ?_)
  · obtain ⟨a, nl, d, h, ns, xs, rfl, _⟩ := h; rfl
  obtain ⟨a, nl, d, h, ns, xs, rfl, hS, hN, hx8, hxd, hxn, hD, hH, hdh, q⟩ := h
  have nd := scBuilt.nd
  have hu1 := dw hr
  have hr1 := hr.mono (j := 1) (by lia)
  refine ⟨_, ae (al (i := 4) nd rfl (Or.inl rfl) (ao GC hr1 rfl cC.name cC.keep cC.bind .nil aw (af (qv 0) (b8 ac))))
    (ae (al (i := 5) nd rfl (Or.inr rfl) (aq (ixKk (K := K) rfl) (ay (b8 (cz (ai bp ag (ai b0 (ai df (qv 4) ag) (ai io ag ag))) ac))) (ai b0 (qv 4) ag) (fun _ _ => rfl)))
    (ae (al (i := 6) nd rfl (Or.inr rfl) (ai bp ag (ai b0 (ai df (qv 4) ag) (ai io ag ag))))
    (ae (kq ["_law_j", "_law_step", "_law_base"] [5, 6] (i := 7) nd rfl (Or.inl rfl) (bw rfl C.range (b8 ac)) (fun _ _ _ _ => ga) (fun _ _ _ _ => (ai bp (qv 2) (ai fq (qv 0) (qv 1)))))
    (ae (jv (cu (t' := a4b) (bd (av bn (ai b0 (ai df (qv 4) ag) ag) ag (au _)) (am (al (i := 7) nd rfl (Or.inl rfl) (ua (qv 7)))) b9) (fun D σ H h => by
      obtain ⟨c, sp, ss, h4, h7, hsp, hs60, hsd, hsp0, q⟩ := h
      refine ⟨_, h4, _, _, rfl, rfl, (show CDiv _ 2 from ⟨by decide, by decide⟩), _, _, rfl, rfl, (show (0 : Int) < 2 by decide), rfl, _, rfl, iteB (fun _ => ?_) (fun _ => ?_)⟩
      · refine ⟨_, h7, sp, _, rfl, SqL.of hsp, fun p hp => ?_⟩
        rw [← List.map_reverse]
        exact q p _ _ (ad hp _) aa (by rw [List.length_reverse]; exact hs60) ((List.reverse_perm _).nodup_iff.mpr hsd) (fun x hx => hsp0 x (List.mem_reverse.mp hx))
      · have := q sp ss H (Same.refl _) hsp hs60 hsd hsp0
        rw [kz h7] at this
        exact this)))
    (ae (cj hu1 (qv 2) cb ag)
    (ae (cj hu1 (qv 2) (aq (ixKk (K := K) rfl) (qv 1) ag (fun _ _ => rfl)) (aq (ixKk (K := K) rfl) (qv 7) ag (fun _ _ => rfl)))
    (ae (cj hu1 (qv 2) (aq (ixKk (K := K) rfl) (qv 1) ag (fun _ _ => rfl)) (ai b0 (ao GC hr1 rfl cC.name cC.keep cC.bind .nil aw (af (qv 0) (b8 ac))) (ai io ag ag)))
    (ae (cr PassesOwn.never rfl (bw rfl C.range (b8 ac)) (ba (i := 8) nd rfl (Or.inl rfl)) (am (cj hu1 (qv 2) (aq (ixKk (K := K) rfl) (qv 1) (qv 8) (fun _ _ => rfl)) ag)))
    (ae (al (i := 9) nd rfl (Or.inl rfl) (ay ac))
    (ae (al (i := 10) nd rfl (Or.inl rfl) (ay ac))
    (ae (cr PassesOwn.never rfl (bw rfl C.range (bh (b7 (dk (K := K) rfl) rfl C.len PySem.boot_len (ax (cn (slLk (K := K) rfl) (qv 0) (cg ag) (cg ag)) ac)) ac)) (ba (i := 8) nd rfl (Or.inl rfl)) (ae (fh (ao GL hr rfl cL.name cL.keep cL.bind .nil aw (ax (aq (ixKk (K := K) rfl) (qv 0) (ai bp ag (qv 8)) (fun _ _ => rfl)) (af (qv 8) (af (qv 1) (af (qv 2) (af (qv 3) (ax (cn (slLk (K := K) rfl) (qv 7) (cg (ai fq ag (qv 8))) (cg (ai bp (ai fq ag (qv 8)) ag))) ac))))))) (ng (ba (i := 11) nd rfl (Or.inl rfl)) (ba (i := 12) nd rfl (Or.inl rfl))))
    (ae (bi (ce (K := K) rfl PySem.F.plainAttrs_list PySem.F.slot_list_append PySem.F.type_list_append bq (qv 9) (af (qv 11) ac)))
    (am (bi (ce (K := K) rfl PySem.F.plainAttrs_list PySem.F.slot_list_append PySem.F.type_list_append bq (qv 10) (af (qv 12) ac)))))))
    (am (az (d0 (af (qv 9) (af (qv 10) ac)))))))))))))))), ?_⟩
  refine ⟨_, rfl, a, ns, 3, rfl, hS, ?_⟩
  have ple : ∀ n : Nat, n ≤ 1000 → (10 : Int) ^ ((n : Nat) : Int).toNat = 10 ^ n := fun n _ => by simp
  have hp57 : (0 : Int) < 10 ^ (57 : Int).toNat := by decide +kernel
  have hp58 : (0 : Int) < 10 ^ (58 : Int).toNat := by decide +kernel
  have hp60 : (0 : Int) < 10 ^ (60 : Int).toNat := by decide +kernel
  refine ⟨_, rfl, _, _, rfl, rfl, (show CDiv _ 8 from ⟨by decide, by decide⟩), _, _, rfl, rfl, (show CPow 10 57 from ⟨by decide, by decide, by decide⟩), _, _, rfl, rfl, hp57, _, _, rfl, rfl, (show 2 ≤ sizeLine by decide), fun l1 hl1 => ?_⟩
  have e1 := ad hl1 (.lst ([1, 1 + ap ns 3 / 8 % 10 ^ (57 : Int).toNat].map V.int))
  obtain ⟨st, hst, hstm⟩ := m3 (xs := [1, 1 + ap ns 3 / 8 % 10 ^ (57 : Int).toNat]) (n := 2) (i := ap ns 3) rfl (by decide)
  refine ⟨_, rfl, _, _, rfl, rfl, (show (0 : Int) < 2 by decide), l1, _, _, .int st, rfl, rfl, SqL.of aa, hst, ?_⟩
  have hH1D := e1 _ _ hD
  have hH1H := e1 _ _ hH
  have hH1N := e1 _ _ hN
  have hH1S := e1.seq hS
  replace e1 : Same H (upd H l1 (.lst [.int 1, .int (1 + ap ns 3 / 8 % 10 ^ (57 : Int).toNat)])) := e1
  replace hH1D : (upd H l1 (.lst [.int 1, .int (1 + ap ns 3 / 8 % 10 ^ (57 : Int).toNat)])) d = _ := hH1D
  generalize upd H l1 (.lst [.int 1, .int (1 + ap ns 3 / 8 % 10 ^ (57 : Int).toNat)]) = H1 at e1 ⊢
  refine ⟨_, rfl, _, _, rfl, rfl, (show CDiv _ 8 from ⟨by decide, by decide⟩), _, _, rfl, rfl, (show CPow 10 58 from ⟨by decide, by decide, by decide⟩), _, _, rfl, rfl, hp58, _, _, rfl, rfl, ?_⟩
  refine ⟨_, rfl, (by decide), (by decide), ?_⟩
  refine j8 (nums 0 (60 : Int).toNat) ((List.range 60).map fun (k : Nat) => V.int (1 + ap ns 3 / 8 % 10 ^ (58 : Int).toNat + (0 + (k : Int)) * st)) om trivial (by decide) (by rfl) (fun i x y hx hy H2 e2 Q' q' => ?_) fun D1 H2 hD1 e2 hd1 => ?_
  · unfold nums at hx
    rw [show (60 : Int).toNat = 60 from rfl, List.getElem?_map] at hx
    rw [List.getElem?_map] at hy
    cases hi : (List.range 60)[i]? with
    | none => rw [hi] at hx; cases hx
    | some k =>
      rw [hi] at hx hy
      have hk : k < 60 := List.mem_range.mp (List.mem_of_getElem? hi)
      have hx' : x = .int (0 + (k : Int)) := (Option.some.inj hx).symm
      have hy' : y = .int (1 + ap ns 3 / 8 % 10 ^ (58 : Int).toNat + (0 + (k : Int)) * st) := (Option.some.inj hy).symm
      subst hx' hy'
      exact ⟨_, rfl, _, rfl, _, rfl, _, _, rfl, rfl, .inl ⟨by lia, by lia⟩, _, _, rfl, rfl, q' H2 (Same.refl _)⟩
  have hdl : H2 D1 = some (.lst (((List.range 60).map fun (k : Nat) => (1 + ap ns 3 / 8 % 10 ^ (58 : Int).toNat + (0 + ((k : Nat) : Int)) * st)).map V.int)) := by rw [hd1, List.map_map]; rfl
  have hst0 : 0 < st := by
    have h0 := Int.emod_nonneg (ap ns 3 / 8) (Int.ne_of_gt hp57)
    simp only [List.mem_cons, List.not_mem_nil, or_false] at hstm
    rcases hstm with z | z <;> lia
  have hb0 : 0 < 1 + ap ns 3 / 8 % 10 ^ (58 : Int).toNat := by
    have h0 := Int.emod_nonneg (ap ns 3 / 8) (Int.ne_of_gt hp58)
    lia
  obtain ⟨sk1, sk2⟩ := a2a _ st hb0 hst0
  refine ⟨ap ns 3, D1, _, rfl, rfl, hdl, by rw [List.length_map, List.length_range], sk1, sk2, fun sp ss H3 e3 hsp hs60 hsd hsp0 => ?_⟩
  clear sk1 sk2
  intro τ eτ
  obtain rfl : τ = [some (.ref a), some (.ref nl), some (.ref d), some (.ref h), some (.int (ap ns 3)), some (.int st), some (.int (1 + ap ns 3 / 8 % 10 ^ (58 : Int).toNat)), some (.ref sp), none, none, none, none, none] := eτ
  have e13 : Same H H3 := e1.trans (e2.trans e3)
  have hD3 := e13 _ _ hD
  have hH3 := e13 _ _ hH
  have hN3 := e13 _ _ hN
  clear e3 e2 e1 hdl hd1
  have hspd : sp ≠ d := fun z => by rw [z, hD3] at hsp; cases hsp
  have hsph : sp ≠ h := fun z => by rw [z, hH3] at hsp; cases hsp
  have hnld : nl ≠ d := fun z => by rw [z, hD3] at hN3; cases hN3
  have hnlh : nl ≠ h := fun z => by rw [z, hH3] at hN3; cases hN3
  have hdL : ∀ {n : Nat}, n ≤ 1000 → n < sizeLine := fun h => Nat.lt_of_le_of_lt h (by decide)
  have hmu : ∀ c, (c = d ∨ c = h) → ∃ kv, H c = some (.dK kv) := fun c z => by
    rcases z with rfl | rfl
    · exact ⟨_, hD⟩
    · exact ⟨_, hH⟩
  have hat6 : atI (xs.map V.str) (6 : Int) = some (.str xs[6]) := bu (j := 6) (by rw [List.getElem?_map, List.getElem?_eq_getElem (by lia)]; rfl)
  have hat7 : atI (xs.map V.str) (7 : Int) = some (.str xs[7]) := bu (j := 7) (by rw [List.getElem?_map, List.getElem?_eq_getElem (by lia)]; rfl)
  refine ⟨_, rfl, d, _, rfl, DPut.k (k := Sum.inr "nil") hD3 (by decide), ?_⟩
  rw [ej]
  have kd : ∀ (Hc : Hp) (m m' : List (Str × Int)), Hc d = some (.dK (dv m)) → Kp (fun b => b = d ∨ b = h) H Hc → Hc nl = some (.lst (xs.map V.str)) → Hc sp = some (.lst (ss.map V.int)) → Hc h = some (.dK (hv [])) →
      Kp (fun b => b = d ∨ b = h) H (upd Hc d (.dK (dv m'))) ∧ (upd Hc d (.dK (dv m'))) nl = some (.lst (xs.map V.str)) ∧ (upd Hc d (.dK (dv m'))) sp = some (.lst (ss.map V.int)) ∧ (upd Hc d (.dK (dv m'))) h = some (.dK (hv [])) ∧ (upd Hc d (.dK (dv m'))) d = some (.dK (dv m')) := fun Hc m m' h1 h2 h3 h4 h5 =>
    ⟨h2.put (.inl (.inl rfl)) _, by rw [ah hnld]; exact h3, by rw [ah hspd]; exact h4, by rw [ah (Ne.symm hdh)]; exact h5, aa⟩
  obtain ⟨k4, n4, p4, hh4, d4⟩ := kd H3 [] (putM [] "nil" 0) hD3 (e13.kp _) hN3 hsp hH3
  generalize upd H3 d (.dK (dv (putM [] "nil" 0))) = H4 at k4 n4 p4 hh4 d4 ⊢
  have l4 := dt [] "nil" 0
  have hin4 : lkI (putM [] "nil" 0) "nil" = some 0 := by rw [d8, if_pos rfl]
  have hx6 : xs[6] ≠ "nil" := (hxn _ (List.getElem_mem (by lia))).nil
  have hx7 : xs[7] ≠ "nil" := (hxn _ (List.getElem_mem (by lia))).nil
  have hx67 : xs[6] ≠ xs[7] := fun z => by have := ff hxd (by lia) (by lia) z; lia
  generalize putM [] "nil" 0 = m4 at d4 l4 hin4
  refine ⟨_, rfl, sp, _, 59, .int ss[59], rfl, rfl, SqL.of p4, fm (j := 59) rfl (by lia), _, rfl, _, rfl, nl, _, 6, .str xs[6], rfl, rfl, SqL.of n4, hat6, d, _, rfl, DPut.k (k := Sum.inr xs[6]) d4 ?_, ?_⟩
  · unfold dv; rw [List.length_map]; exact hdL (by simp at l4; lia)
  rw [ej]
  obtain ⟨k5, n5, p5, hh5, d5⟩ := kd H4 m4 (putM m4 xs[6] ss[59]) d4 k4 n4 p4 hh4
  generalize upd H4 d (.dK (dv (putM m4 xs[6] ss[59]))) = H5 at k5 n5 p5 hh5 d5 ⊢
  have l5 := dt m4 xs[6] ss[59]
  have hin5 : lkI (putM m4 xs[6] ss[59]) "nil" = some 0 ∧ lkI (putM m4 xs[6] ss[59]) xs[6] = some ss[59] := ⟨by rw [d8, if_neg (Ne.symm hx6)]; exact hin4, by rw [d8, if_pos rfl]⟩
  generalize putM m4 xs[6] ss[59] = m5 at d5 l5 hin5
  have hS5 : SqL K H5 a (ns.map V.int) := SqL.kpD hS hmu k5
  refine ⟨_, rfl, a, ns, 2, rfl, hS5, _, _, rfl, rfl, (show CPow 10 60 from ⟨by decide, by decide, by decide⟩), _, _, rfl, rfl, hp60, _, rfl, _, rfl, nl, _, 7, .str xs[7], rfl, rfl, SqL.of n5, hat7, d, _, rfl, DPut.k (k := Sum.inr xs[7]) d5 ?_, ?_⟩
  · unfold dv; rw [List.length_map]; exact hdL (by simp at l4; lia)
  rw [ej]
  obtain ⟨k6, n6, p6, hh6, d6⟩ := kd H5 m5 (putM m5 xs[7] (ap ns 2 % 10 ^ (60 : Int).toNat)) d5 k5 n5 p5 hh5
  generalize upd H5 d (.dK (dv (putM m5 xs[7] (ap ns 2 % 10 ^ (60 : Int).toNat)))) = H6 at k6 n6 p6 hh6 d6 ⊢
  have l6 := dt m5 xs[7] (ap ns 2 % 10 ^ (60 : Int).toNat)
  have hin6 : lkI (putM m5 xs[7] (ap ns 2 % 10 ^ (60 : Int).toNat)) "nil" = some 0 ∧ lkI (putM m5 xs[7] (ap ns 2 % 10 ^ (60 : Int).toNat)) xs[6] = some ss[59] ∧ (lkI (putM m5 xs[7] (ap ns 2 % 10 ^ (60 : Int).toNat)) xs[7]).isSome = true := ⟨by rw [d8, if_neg (Ne.symm hx7)]; exact hin5.1, by rw [d8, if_neg hx67]; exact hin5.2, by rw [d8, if_pos rfl]; rfl⟩
  generalize putM m5 xs[7] (ap ns 2 % 10 ^ (60 : Int).toNat) = m6 at d6 l6 hin6
  have l6' : m6.length ≤ 3 := by simp at l4; lia
  refine ⟨_, rfl, (by decide), (by decide), ?_⟩
  refine cf (lo := 0) (n := (6 : Int).toNat) (fun k σ H' => Ex2 fun (m : List (Str × Int)) (z8 : Option V) => And9 (Kp (fun b => b = d ∨ b = h) H H') (H' nl = some (.lst (xs.map V.str))) (H' sp = some (.lst (ss.map V.int))) (H' h = some (.dK (hv []))) (H' d = some (.dK (dv m))) (m.length ≤ 3 + k) ((∀ x, (∀ j (hj : j < xs.length), j < k → x ≠ xs[j]) → lkI m x = lkI m6 x)) ((∀ j (hj : j < xs.length), j < k → lkI m xs[j] = some 0)) (σ = [some (.ref a), some (.ref nl), some (.ref d), some (.ref h), some (.int (ap ns 3)), some (.int st), some (.int (1 + ap ns 3 / 8 % 10 ^ (58 : Int).toNat)), some (.ref sp), z8, none, none, none, none])) ⟨m6, none, k6, n6, p6, hh6, d6, by lia, fun x hx => rfl, fun j hj h0 => absurd h0 (by lia), rfl⟩ ?_ ?_
  · rintro k σ H' hk ⟨m, z8, kk, nn, pp, hh, dd, hl, hi1, hi2, rfl⟩
    have hk6 : k < xs.length := by rw [show (6 : Int).toNat = 6 from rfl] at hk; lia
    rw [show (6 : Int).toNat = 6 from rfl] at hk
    refine ⟨_, rfl, _, rfl, _, rfl, nl, _, _, .str xs[k], rfl, rfl, SqL.of nn, (by rw [Int.zero_add]; exact bu (by rw [List.getElem?_map, List.getElem?_eq_getElem hk6]; rfl)), d, _, rfl, DPut.k (k := Sum.inr xs[k]) dd ?_, ?_⟩
    · unfold dv; rw [List.length_map]; exact hdL (by lia)
    rw [ej]
    obtain ⟨k5, n5, p5, hh5, d5⟩ := kd H' m (putM m xs[k] 0) dd kk nn pp hh
    have := dt m xs[k] 0
    refine ⟨_, _, k5, n5, p5, hh5, d5, by lia, fun x hx => ?_, fun j hj h0 => ?_, rfl⟩
    · rw [d8, if_neg (hx k hk6 (by lia))]
      exact hi1 x fun j hj h0 => hx j hj (by lia)
    by_cases hjk : j = k
    · subst hjk; rw [d8, if_pos rfl]
    · rw [d8, if_neg fun z => hjk (ff hxd hj hk6 z)]
      exact hi2 j hj (by lia)
  rintro σ H7 ⟨m7, z8, k7, n7, p7, hh7, d7, l7, hi1, hi2, rfl⟩
  rw [show (6 : Int).toNat = 6 from rfl] at l7 hi2
  have gd : ∀ i (hi : i < xs.length), xs.getD i "" = xs[i] := fun i hi => by rw [List.getD_eq_getElem?_getD, List.getElem?_eq_getElem hi]; rfl
  have h59 : ss.getD 59 0 = ss[59] := by rw [List.getD_eq_getElem?_getD, List.getElem?_eq_getElem (by lia)]; rfl
  have hne : ∀ i (hi : i < xs.length), 6 ≤ i → ∀ j (hj : j < xs.length), j < 6 → xs[i] ≠ xs[j] := fun i hi h6 j hj h0 z => by have := ff hxd hi hj z; lia
  have BF7 : BF xs ss m7 := ⟨hx8, hxd, hxn, hs60, hsd, hsp0, by rw [hi1 "nil" fun j hj h0 z => (hxn _ (List.getElem_mem hj)).nil z.symm]; exact hin6.1, by rw [gd 6 (by lia), h59, hi1 _ (hne 6 (by lia) (by lia))]; exact hin6.2.1, by rw [gd 7 (by lia), hi1 _ (hne 7 (by lia) (by lia))]; exact hin6.2.2, fun j hj => by rw [gd j (by lia)]; exact hi2 j (by lia) hj⟩
  refine ⟨Nat.zero_le _, fun pl hpl => ?_⟩
  have u1 := ad hpl (.lst [])
  refine ⟨Nat.zero_le _, fun rl hrl => ?_⟩
  have u2 := u1.trans (ad hrl (.lst []))
  have hfr7 : ∀ c, (c = d ∨ c = h) → H7 c ≠ none := fun c z => by
    rcases z with rfl | rfl
    · rw [d7]; simp
    · rw [hh7]; simp
  have hpl0 : H pl = none := k7.free hpl hfr7
  have hrl0 : H rl = none := k7.free (u1.free hrl) hfr7
  have hprl : pl ≠ rl := aj (show (upd H7 pl (.lst [])) pl = _ from aa) hrl
  have hpld : pl ≠ d := Ne.symm (aj d7 hpl)
  have hplh : pl ≠ h := Ne.symm (aj hh7 hpl)
  have hrld : rl ≠ d := Ne.symm (aj (u1 _ _ d7) hrl)
  have hrlh : rl ≠ h := Ne.symm (aj (u1 _ _ hh7) hrl)
  have hsppl : sp ≠ pl := aj p7 hpl
  have hsprl : sp ≠ rl := aj (u1 _ _ p7) hrl
  have hnlpl : nl ≠ pl := aj n7 hpl
  have hnlrl : nl ≠ rl := aj (u1 _ _ n7) hrl
  obtain ⟨ms, em⟩ := v4 ns (some 4) (some 9)
  have hml : ms.length ≤ 5 ∧ (ms.length = 0 ∨ 4 + ms.length ≤ ns.length) := by
    have h1 := congrArg List.length em
    unfold cutV at h1
    have h2 : HT.sIx (ns.map V.int).length (ns.map V.int).length (some 9) = min 9 (ns.map V.int).length := HT.sIx_nat _ _ 9
    have h3 : HT.sIx (ns.map V.int).length 0 (some 4) = min 4 (ns.map V.int).length := HT.sIx_nat _ _ 4
    rw [h2, h3, List.length_take, List.length_drop, List.length_map, List.length_map] at h1
    by_cases hn : ns.length ≤ 4
    · rw [Nat.min_eq_right hn, Nat.sub_self, Nat.min_zero] at h1
      rw [← h1]; exact ⟨Nat.zero_le _, .inl rfl⟩
    · have hn' := Nat.le_of_lt (Nat.lt_of_not_le hn)
      rw [Nat.min_eq_left hn'] at h1
      rw [← h1]
      refine ⟨Nat.le_trans (Nat.min_le_left _ _) (Nat.sub_le_sub_right (Nat.min_le_left 9 _) 4), .inr ?_⟩
      exact Nat.le_trans (Nat.add_le_add_left (Nat.min_le_right _ _) 4) (Nat.le_of_eq (Nat.add_sub_cancel' hn'))
  have k8 : Kp (fun b => b = d ∨ b = h) H (upd (upd H7 pl (.lst [])) rl (.lst [])) := k7.trans (u2.kp _)
  have hS8 : SqL K (upd (upd H7 pl (.lst [])) rl (.lst [])) a (ns.map V.int) := SqL.kpD hS hmu k8
  refine ⟨_, rfl, _, rfl, _, rfl, a, _, rfl, hS8, fun c hc => ?_⟩
  rw [em]
  have u3 := u2.trans (ad hc (.lst (ms.map V.int)))
  refine ⟨c, _, rfl, .inl (SqL.of aa), _, rfl, (by rw [List.length_map]; lia), (by rw [List.length_map]; lia), ?_⟩
  have hsn : ((((ms.map V.int).length : Nat) : Int)).toNat = ms.length := by rw [List.length_map]; lia
  refine cf (lo := 0) (n := ((((ms.map V.int).length : Nat) : Int)).toNat) (fun k σ H' => Ex9 fun (m : List (Str × Int)) (cs : ar) (as las : List Addr) (ps : List (List Str)) (rows : List (List Int)) (z8 z11 z12 : Option V) => And14 (Kp (fun b => b = d ∨ b = h) H H') (H' nl = some (.lst (xs.map V.str))) (H' sp = some (.lst (ss.map V.int))) (HeapAt K H' h cs) (H' d = some (.dK (dv m))) (m.length ≤ 9 + 2 * k) (BP xs ss m7 m cs ps rows k) (H' pl = some (.lst (as.map V.ref))) (Paired (fun b r => RowAt K H' b r) as ps) (ps.length = k) (H' rl = some (.lst (las.map V.ref))) (las.length = k) (Paired (fun a r => H' a = some (.lst ((r : List Int).map V.int)) ∧ a ≠ pl ∧ a ≠ rl) las rows) (σ = [some (.ref a), some (.ref nl), some (.ref d), some (.ref h), some (.int (ap ns 3)), some (.int st), some (.int (1 + ap ns 3 / 8 % 10 ^ (58 : Int).toNat)), some (.ref sp), z8, some (.ref pl), some (.ref rl), z11, z12]))
    ⟨m7, [], [], [], [], [], z8, none, none, k7.trans (u3.kp _), u3 _ _ n7, u3 _ _ p7, ⟨[], u3 _ _ hh7, .nil⟩, u3 _ _ d7, by lia, BF7.start, ad hc _ _ _ (ad hrl _ _ _ aa), .nil, rfl, ad hc _ _ _ aa, rfl, .nil, rfl⟩ ?_ ?_
  · rintro k σ H' hk ⟨m, cs, as, las, ps, rows, z8', z11, z12, kk, nn, pp, ⟨hp, hh, hok⟩, dd, hl, B, hL, hP, hpk, hR, hrk, hRw, rfl⟩
    rw [hsn] at hk
    have hk5 : k < 5 := by lia
    have h4k : 4 + k < ns.length := by lia
    have hSa : SqL K H' a (ns.map V.int) := SqL.kpD hS hmu kk
    refine ⟨_, rfl, _, rfl, _, _, rfl, rfl, a, _, _, .int ns[4 + k], rfl, rfl, hSa, fm (by show (4 : Int) + (0 + (k : Int)) = ((4 + k : Nat) : Int); lia) h4k, _, rfl, _, rfl, _, rfl, _, rfl, _, rfl, _, rfl, _, _, rfl, rfl, .inl ⟨by decide, by decide⟩, _, rfl, _, rfl, _, _, rfl, rfl, .inl ⟨by decide, by decide⟩, _, _, rfl, rfl, _, rfl, sp, _, rfl, SqL.of pp, fun s1 hs1 => ?_⟩
    obtain ⟨b1, b2, b3, b4, b5⟩ := blk hsd hs60 hk5
    have ecut : cutV (ss.map V.int) (some (10 * (0 + (k : Int)))) (some (10 * (0 + (k : Int)) + 10)) = ((ss.drop (10 * k)).take 10).map V.int := by
      have := a1n ss (10 * k) (10 * k + 10) (by lia) (by lia) (by lia)
      rw [show 10 * k + 10 - 10 * k = 10 by lia] at this
      rw [← this]
      congr 2
      · lia
      · lia
    rw [ecut]
    have u4 := ad hs1 (.lst (((ss.drop (10 * k)).take 10).map V.int))
    have few := B.few
    refine ⟨ns[4 + k], k, nl, d, h, s1, xs, m, cs, (ss.drop (10 * k)).take 10, (by show [V.int ns[4 + k], V.int (0 + (k : Int)), V.ref nl, V.ref d, V.ref h, V.ref s1] = _; rw [Int.zero_add]), by lia, u4 _ _ nn, hx8, hxd, hxn, u4 _ _ dd, by lia, B.isS BF7 (by lia), B.nil BF7 (by lia), ⟨hp, u4 _ _ hh, hok.same u4⟩, by lia, aa, b1, b2, fun x hx => ⟨?_, B.out x (b3 x hx)⟩, fun i hi hik v hv => ?_, hdh, fun t p rl' m' cs' r row H2 k2 ht hrow hpo hrl2 hrl0' hd2 hml2 hoth hval hh2 hcl2 hout2 hin2 hnd2 hpt2 hwd2 => ?_⟩
    · have := hsp0 x (List.mem_of_mem_drop (List.mem_of_mem_take hx)); lia
    · obtain ⟨v', e1, e2⟩ := B.vals BF7 hk5 hik
      rw [gd i hi, hv] at e1
      have : v = v' := Option.some.inj e1
      subst this
      intro hvb
      rcases e2 with e2 | e2 | e2
      · have := hsp0 v (List.mem_of_mem_drop (List.mem_of_mem_take hvb)); lia
      · rw [e2] at hvb; exact b4 hvb
      · exact b3 v hvb e2
    have k12 : Kp (fun b => b = d ∨ b = h) H' H2 := (u4.kp _).trans k2
    have kl : ∀ b o, H' b = some o → b ≠ d → b ≠ h → H2 b = some o := fun b o hb h1 h2 => k12 b o hb fun z => by
      rcases z with z | z
      · exact h1 z
      · exact h2 z
    have hmu' : Mu (fun b => b = d ∨ b = h) H' := fun b z => by
      rcases z with rfl | rfl
      · exact .inr ⟨_, dd⟩
      · exact .inr ⟨_, hh⟩
    have hL2 := kl _ _ hL hpld hplh
    have hR2 := kl _ _ hR hrld hrlh
    have hP2 : Paired (fun b r => RowAt K H2 b r) as ps := Paired.mapP hP fun _ _ z => SqT.kp z hmu' k12
    have hal : as.length = ps.length := Paired.length hP
    have hnpl : rl' ≠ pl := fun z => by rw [z, u4 _ _ hL] at hrl0'; cases hrl0'
    have hnrl : rl' ≠ rl := fun z => by rw [z, u4 _ _ hR] at hrl0'; cases hrl0'
    refine ⟨t, _, rfl, SqT.of ht, rfl, _, _, rfl, _, _, rfl, rfl, ?_⟩
    refine ⟨_, rfl, .inl ⟨rfl, _, SqL.of hL2⟩, _, rfl, pl, _, .ref p, rfl, rfl, hL2, (by rw [List.length_map]; exact hdL (by lia)), ?_⟩
    have hR3 : (upd H2 pl (.lst (as.map V.ref ++ [.ref p]))) rl = some (.lst (las.map V.ref)) := by rw [ah (Ne.symm hprl)]; exact hR2
    refine ⟨_, rfl, .inl ⟨rfl, _, SqL.of hR3⟩, _, rfl, rl, _, .ref rl', rfl, rfl, hR3, (by rw [List.length_map]; exact hdL (by lia)), ?_⟩
    have k3 : Kp (fun b => b = d ∨ b = h) H (upd (upd H2 pl (.lst (as.map V.ref ++ [.ref p]))) rl (.lst (las.map V.ref ++ [.ref rl']))) := ((kk.trans k12).put (.inr hpl0) _).put (.inr hrl0) _
    have kx : ∀ b o, H2 b = some o → b ≠ pl → b ≠ rl → (upd (upd H2 pl (.lst (as.map V.ref ++ [.ref p]))) rl (.lst (las.map V.ref ++ [.ref rl']))) b = some o := fun b o hb h1 h2 => by rw [ah h2, ah h1]; exact hb
    obtain ⟨hp', hh2', hok2⟩ := hh2
    refine ⟨m', cs', as ++ [p], las ++ [rl'], ps ++ [r], rows ++ [row], _, _, _, k3, kx _ _ (kl _ _ nn hnld hnlh) hnlpl hnlrl, kx _ _ (kl _ _ pp hspd hsph) hsppl hsprl, ⟨hp', kx _ _ hh2' (Ne.symm hplh) (Ne.symm hrlh), Paired.mapP hok2 fun _ _ z => ⟨z.1, cq hR3 (cq hL2 z.2)⟩⟩, kx _ _ hd2 (Ne.symm hpld) (Ne.symm hrld), by lia, B.step BF7 hk5 hpo hoth hval hcl2 hout2 hin2 hnd2 hpt2 hwd2, ?_, ?_, ?_, ?_, ?_, ?_, rfl⟩
    · rw [ah hprl, aa, List.map_append]; rfl
    · exact Paired.snocP (Paired.mapP hP2 fun _ _ z => cq hR3 (cq hL2 z)) (cq hR3 (cq hL2 hrow))
    · rw [List.length_append, hpk]; rfl
    · rw [aa, List.map_append]; rfl
    · rw [List.length_append, hrk]; rfl
    · refine Paired.snocP (Paired.mapP hRw fun b rw' z => ⟨kx _ _ (kl _ _ z.1 (fun e => ?_) (fun e => ?_)) z.2.1 z.2.2, z.2⟩) ⟨kx _ _ hrl2 hnpl hnrl, hnpl, hnrl⟩
      · have z1 := z.1; rw [e, dd] at z1; cases z1
      · have z1 := z.1; rw [e, hh] at z1; cases z1
  rintro σ H' ⟨m, cs, as, las, ps, rows, z8', z11, z12, kk, nn, pp, hH', dd, hl, B, hL, hP, hpk, hR, hrk, hRw, rfl⟩
  rw [hsn] at hl hpk B
  have few := B.few
  refine ⟨_, rfl, _, rfl, (show 2 ≤ sizeLine by decide), fun t ht => ?_⟩
  have u5 := ad ht (.tup [.ref pl, .ref rl])
  have hpo : dh (xs ++ [("nil" : Str)]) ps := fun r hr => by
    obtain ⟨i, hi, rfl⟩ := List.getElem_of_mem hr
    obtain ⟨_, _, h2⟩ := Paired.nth B.prt (List.getElem?_eq_getElem hi)
    exact h2.2.1
  exact q t pl rl las m cs ps rows _ (kk.trans (u5.kp _)) hpl0 hrl0 aa ⟨as, u5 _ _ hL, Paired.mapP hP fun _ _ z => u5.seqT z⟩ hpo (by lia) (u5 _ _ hR) (Paired.mapP hRw fun _ _ z => u5 _ _ z.1) (u5 _ _ dd) (by lia) (B.isS BF7 (by lia)) (B.nil BF7 (by lia)) (hH'.same u5) (by lia) (Paired.mapP B.prt fun _ _ z => z.1) B.nd B.len
end
end K13
namespace K13
open PySem PySem.Spec L2 Mir
noncomputable def isN (y : Str) : Bool := !decide (y = "nil") && !decide (y = "any")
noncomputable def told (r : List Str) : List Str := (r.drop 1).filter isN
noncomputable def jm (rs : List (List Str)) : List Str := (rs.map told).flatten
noncomputable def bf (m : List (Str × Int)) (x : Str) : List (Str × Int) := m.filter fun p => !decide (p.1 = x)
theorem tu (m : List (Str × Int)) (x : Str) : i8 (dv m) (Sum.inr x) = dv (bf m x) := by
  unfold i8 dv bf
  rw [List.filter_map]
  congr 1
  apply List.filter_congr
  intro p _
  show decide ((Sum.inr p.1 : Key) ≠ Sum.inr x) = !decide (p.1 = x)
  by_cases h : p.1 = x
  · have h2 : (Sum.inr p.1 : Key) = Sum.inr x := by rw [h]
    simp [h, h2]
  · have h2 : ¬ (Sum.inr p.1 : Key) = Sum.inr x := fun e => h (Sum.inr.inj e)
    simp [h]
theorem jw (x y : Str) : ∀ m : List (Str × Int), lkI (bf m x) y = if y = x then none else lkI m y
  | [] => by unfold lkI bf; simp
  | p :: m => by
    have ih := jw x y m
    have c : ∀ (q : Str × Int) (l : List (Str × Int)) (w : Str), lkI (q :: l) w = if q.1 = w then some q.2 else lkI l w := fun q l w => by
      unfold lkI
      rw [List.find?_cons]
      by_cases h : q.1 = w
      · simp [h]
      · simp [h]
    by_cases h1 : p.1 = x
    · have e : bf (p :: m) x = bf m x := by unfold bf; simp [h1]
      rw [e, ih, c]
      by_cases h2 : y = x
      · rw [if_pos h2, if_pos h2]
      · rw [if_neg h2, if_neg h2, if_neg (fun z => h2 (by rw [← z, h1]))]
    · have e : bf (p :: m) x = p :: bf m x := by unfold bf; simp [h1]
      rw [e, c, ih, c]
      by_cases h2 : y = x
      · rw [if_pos h2, if_neg (fun z => h1 (by rw [z, h2]))]; rw [if_pos h2]
      · rw [if_neg h2, if_neg h2]
theorem a1c (m : List (Str × Int)) (x : Str) : (bf m x).length ≤ m.length := List.length_filter_le _ _
theorem qr {xs : List Str} {fs ps : List (List Str)} (hf : er (xs ++ [("nil" : Str)]) fs) (hp : dh (xs ++ [("nil" : Str)]) ps) : ∀ r ∈ fs ++ ps, ∀ y ∈ r.drop 1, y ∈ xs ∨ y = "nil" ∨ y = "any" := by
  have hm : ∀ y, y ∈ xs ++ [("nil" : Str)] → y ∈ xs ∨ y = "nil" ∨ y = "any" := fun y hy => by
    rcases List.mem_append.mp hy with h | h
    · exact .inl h
    · exact .inr (.inl (by simpa using h))
  have hm2 : ∀ y, (y ∈ xs ++ [("nil" : Str)] ∨ y = "any") → y ∈ xs ∨ y = "nil" ∨ y = "any" := fun y hy => by
    rcases hy with h | h
    · exact hm y h
    · exact .inr (.inr h)
  intro r hr y hy
  rcases List.mem_append.mp hr with h | h
  · obtain ⟨k, u, v, rfl, _, h1, h2⟩ := hf r h
    have : y = u ∨ y = v := by simpa using hy
    rcases this with rfl | rfl
    · exact hm _ h1
    · exact hm _ h2
  · rcases hp r h with ⟨a, f, s, rfl, h1, h2, h3⟩ | ⟨a, b, rfl, h1, h2⟩ | ⟨a, rfl, h1⟩
    · have : y = a ∨ y = f ∨ y = s := by simpa using hy
      rcases this with rfl | rfl | rfl
      · exact hm _ h1
      · exact hm2 _ h2
      · exact hm2 _ h3
    · have : y = a ∨ y = b := by simpa using hy
      rcases this with rfl | rfl
      · exact hm _ h1
      · exact hm _ h2
    · have : y = a := by simpa using hy
      subst this; exact hm _ h1
theorem mem_told {rs : List (List Str)} {y : Str} : y ∈ jm rs ↔ ∃ r ∈ rs, y ∈ r.drop 1 ∧ ¬ y = "nil" ∧ ¬ y = "any" := by
  unfold jm told isN
  simp only [List.mem_flatten, List.mem_map]
  constructor
  · rintro ⟨l, ⟨r, hr, rfl⟩, hy⟩
    simp only [List.mem_filter, Bool.and_eq_true, Bool.not_eq_true', decide_eq_false_iff_not] at hy
    exact ⟨r, hr, hy⟩
  · rintro ⟨r, hr, hy⟩
    refine ⟨_, ⟨r, hr, rfl⟩, ?_⟩
    simp only [List.mem_filter, Bool.and_eq_true, Bool.not_eq_true', decide_eq_false_iff_not]
    exact hy
theorem q8 {xs : List Str} {fs ps : List (List Str)} (hx : ∀ x ∈ xs, NameG x) (hf : er (xs ++ [("nil" : Str)]) fs) (hp : dh (xs ++ [("nil" : Str)]) ps) (y : Str) : y ∈ cc (fs ++ ps) ↔ y ∈ jm (fs ++ ps) := by
  rw [mem_words, mem_told]
  constructor
  · rintro ⟨r, hr, h1, h2⟩
    exact ⟨r, hr, h1, fun z => h2 (by rw [z]; decide +kernel), fun z => h2 (by rw [z]; decide +kernel)⟩
  · rintro ⟨r, hr, h1, h2, h3⟩
    rcases qr hf hp r hr y h1 with h | h | h
    · exact ⟨r, hr, h1, (hx y h).no⟩
    · exact absurd h h2
    · exact absurd h h3
theorem y2 {xs : List Str} {fs ps : List (List Str)} (hf : er (xs ++ [("nil" : Str)]) fs) (hp : dh (xs ++ [("nil" : Str)]) ps) : ∀ y ∈ jm (fs ++ ps), y ∈ xs := fun y hy => by
  obtain ⟨r, hr, h1, h2, h3⟩ := mem_told.mp hy
  rcases qr hf hp r hr y h1 with h | h | h
  · exact h
  · exact absurd h h2
  · exact absurd h h3
theorem yd {xs : List Str} {fs ps : List (List Str)} (hx : ∀ x ∈ xs, NameG x) (hf : er (xs ++ [("nil" : Str)]) fs) (hp : dh (xs ++ [("nil" : Str)]) ps) (h8 : fs.length ≤ 8) (h6 : ps.length ≤ 6) : ee fs ∧ ee ps ∧ (∀ r ∈ fs ++ ps, r ≠ [] ∧ r.length ≤ 4) := by
  have hw : ∀ y, y ∈ xs ++ [("nil" : Str)] → sy y := fun y hy => by
    rcases List.mem_append.mp hy with h | h
    · exact (hx y h).short
    · have : y = "nil" := by simpa using h
      rw [this]; exact (by decide +kernel : ("nil" : Str).length ≤ 1000)
  have hw2 : ∀ y, (y ∈ xs ++ [("nil" : Str)] ∨ y = "any") → sy y := fun y hy => by
    rcases hy with h | h
    · exact hw y h
    · rw [h]; exact (by decide +kernel : ("any" : Str).length ≤ 1000)
  refine ⟨⟨by lia, fun r hr => ?_⟩, ⟨by lia, fun r hr => ?_⟩, fun r hr => ?_⟩
  · obtain ⟨k, u, v, rfl, h0, h1, h2⟩ := hf r hr
    refine ⟨by simp, fun y hy => ?_⟩
    simp only [List.mem_cons, List.not_mem_nil, or_false] at hy
    rcases hy with rfl | rfl | rfl
    · rcases h0 with rfl | rfl
      · exact (by decide +kernel : ("is" : Str).length ≤ 1000)
      · exact (by decide +kernel : ("not" : Str).length ≤ 1000)
    · exact hw _ h1
    · exact hw _ h2
  · rcases hp r hr with ⟨a, f, s, rfl, h1, h2, h3⟩ | ⟨a, b, rfl, h1, h2⟩ | ⟨a, rfl, h1⟩
    · refine ⟨by simp, fun y hy => ?_⟩
      simp only [List.mem_cons, List.not_mem_nil, or_false] at hy
      rcases hy with rfl | rfl | rfl | rfl
      · exact (by decide +kernel : ("cell" : Str).length ≤ 1000)
      · exact hw _ h1
      · exact hw2 _ h2
      · exact hw2 _ h3
    · refine ⟨by simp, fun y hy => ?_⟩
      simp only [List.mem_cons, List.not_mem_nil, or_false] at hy
      rcases hy with rfl | rfl | rfl
      · exact (by decide +kernel : ("stretch" : Str).length ≤ 1000)
      · exact hw _ h1
      · exact hw _ h2
    · refine ⟨by simp, fun y hy => ?_⟩
      simp only [List.mem_cons, List.not_mem_nil, or_false] at hy
      rcases hy with rfl | rfl
      · exact (by decide +kernel : ("tree" : Str).length ≤ 1000)
      · exact hw _ h1
  · rcases List.mem_append.mp hr with h | h
    · obtain ⟨k, u, v, rfl, _⟩ := hf r h; simp
    · rcases hp r h with ⟨a, f, s, rfl, _⟩ | ⟨a, b, rfl, _⟩ | ⟨a, rfl, _⟩ <;> simp
theorem a00 {xs : List Str} {fs ps : List (List Str)} (hx : ∀ x ∈ xs, NameG x) (h8 : xs.length = 8) (hf : er (xs ++ [("nil" : Str)]) fs) (hp : dh (xs ++ [("nil" : Str)]) ps) : ∀ ss : List Str, ss.Nodup → (∀ y ∈ ss, y ∈ cc (fs ++ ps)) → ss.length < 64 := fun ss hnd hss => by
  have := List.Nodup.length_le_of_subset hnd (l₂ := xs) fun y hy => y2 hf hp y ((q8 hx hf hp y).mp (hss y hy))
  lia
theorem me {xs : List Str} {m : List (Str × Int)} {fs ps : List (List Str)} (hx : ∀ x ∈ xs, NameG x) (h8 : xs.length = 8) (hin : ∀ x ∈ xs, x ∈ jm (fs ++ ps) → (lkI m x).isSome = true) (hf : er (xs ++ [("nil" : Str)]) fs) (hp : dh (xs ++ [("nil" : Str)]) ps) (hf8 : fs.length ≤ 8) (hp6 : ps.length ≤ 6) : TellR m fs ps := by
  obtain ⟨s1, s2, _⟩ := yd hx hf hp hf8 hp6
  have hmem : ∀ r ∈ fs ++ ps, ∀ y ∈ r.drop 1, y ∈ xs ++ [("nil" : Str)] → Has m y := fun r hr y hy hw => by
    rcases List.mem_append.mp hw with h | h
    · exact .inr (hin y h (mem_told.mpr ⟨r, hr, hy, (hx y h).nil, (hx y h).any⟩))
    · exact .inl (by simpa using h)
  refine ⟨s1, s2, a00 hx h8 hf hp, fun y hy => ?_, fun r hr => ?_, fun r hr => ?_, hp6⟩
  · have := (q8 hx hf hp y).mp hy
    exact hin y (y2 hf hp y this) this
  · obtain ⟨k, u, v, rfl, _, h1, h2⟩ := hf r hr
    have hr' := List.mem_append.mpr (.inl hr : _ ∈ fs ∨ _ ∈ ps)
    exact ⟨k, u, v, rfl, hmem _ hr' u (by simp) h1, hmem _ hr' v (by simp) h2⟩
  · have hr' := List.mem_append.mpr (.inr hr : _ ∈ fs ∨ _ ∈ ps)
    rcases hp r hr with ⟨a, f, s, rfl, h1, h2, h3⟩ | ⟨a, b, rfl, h1, h2⟩ | ⟨a, rfl, h1⟩
    · refine .inl ⟨a, f, s, rfl, hmem _ hr' a (by simp) h1, ?_, ?_⟩
      · rcases h2 with h | h
        · exact .inr (hmem _ hr' f (by simp) h)
        · exact .inl h
      · rcases h3 with h | h
        · exact .inr (hmem _ hr' s (by simp) h)
        · exact .inl h
    · exact .inr (.inl ⟨a, b, rfl, hmem _ hr' a (by simp) h1, hmem _ hr' b (by simp) h2⟩)
    · exact .inr (.inr ⟨a, rfl, hmem _ hr' a (by simp) h1⟩)
end K13
namespace K13
open PySem PySem.Spec L2 Mir
noncomputable abbrev sDue : Stmt := top 33
theorem TellR.one {m : List (Str × Int)} {fs ps : List (List Str)} (h : TellR m fs ps) {r : List Str} (hr : r ∈ ps) : TellR m [] [r] := by
  have hw : ∀ y, y ∈ cc ([] ++ [r]) → y ∈ cc (fs ++ ps) := fun y hy => by
    obtain ⟨r', h1, h2⟩ := mem_words.mp hy
    have h1' : r' = r := by simpa using h1
    subst h1'
    exact mem_words.mpr ⟨r', List.mem_append.mpr (.inr hr), h2⟩
  refine ⟨⟨Nat.zero_le _, fun r hr => by cases hr⟩, ⟨(show 1 ≤ _ by exact Nat.le_trans (by decide) (Nat.le_of_eq rfl)), fun r' hr' => ?_⟩, fun ss h1 h2 => h.few ss h1 fun y hy => hw y (h2 y hy), fun y hy => h.has y (hw y hy), fun r hr => (by cases hr), fun r' hr' => ?_, by show 1 ≤ 6; decide⟩
  · rw [List.mem_singleton.mp hr']; exact h.sP.2 r hr
  · rw [List.mem_singleton.mp hr']; exact h.parts r hr
theorem a1d (m : List (Str × Int)) (cs : ar) (r : List Str) : bc m cs [] [r] = (be m cs r).map fun ns => [ns] := by
  unfold bc
  rw [if_pos (show ([] : List (List Str)).all (bv m) = true from rfl)]
  cases hp : be m cs r with
  | none => simp only [List.map_cons, List.map_nil, hp, ci]; rfl
  | some ns =>
    have hn : ns.Nodup := (gz hp).nd
    simp only [List.map_cons, List.map_nil, hp, ci]
    show (if ([ns] : List (List Int)).flatten.Nodup then some [ns] else none) = some [ns]
    rw [if_pos (by simpa using hn)]
theorem r8 {α β : Type} {R : α → β → Prop} : ∀ {xs : List α} {ys : List β}, Paired R xs ys → Paired (fun x y => R x y ∧ x ∈ xs) xs ys
  | _, _, .nil => .nil
  | _, _, .cons h t => .cons ⟨h, List.mem_cons_self ..⟩ (Paired.mapP (r8 t) fun _ _ z => ⟨z.1, List.mem_cons_of_mem _ z.2⟩)
inductive spDueS (K : PySem.W.Frag) (vs : List V) (H : Hp) (Q : VK) : Prop
  | mk (d d2 h fl pl : Addr) (mv m : List (Str × Int)) (cs : ar) (fs ps : List (List Str)) (h0 : vs = [.ref d, .ref d2, .ref h, .ref fl, .ref pl]) (h1 : H d = some (.dK (dv mv))) (h2 : H d2 = some (.dK (dv m))) (h3 : HeapAt K H h cs) (h4 : cs.length ≤ 600) (h5 : RowsAt K H fl fs) (h6 : RowsAt K H pl ps) (h7 : TellR m fs ps) (h8 : (∀ r ∈ fs, ∀ y ∈ r.drop 1, lkI mv y = some (num m y))) (h9 : GivesR H (bc m cs fs ps) Q) : spDueS K vs H Q
noncomputable def a3q (K : PySem.W.Frag) : Sp := fun vs H Q _ => spDueS K vs H Q
section
variable {P : Program} {w : World} {K : PySem.W.Frag} {mg : Str → Option Value} {base : Heap} {f gV : Addr} {fd dV : FuncData}
theorem scDue : FnScope ["_law_values", "_law_handed", "_law_heap", "_law_facts_here", "_law_parts", "_law_found", "_law_word", "_law_one", "_law_other", "_law_part", "_law_alone", "_law_every", "_law_row_here"] ["_law_values", "_law_handed", "_law_heap", "_law_facts_here", "_law_parts"] (ak sDue) := ⟨rfl, rfl, rfl, by decide +kernel, rfl, by decide +kernel, by decide +kernel⟩
theorem a54 (C : Con K mg w) (F : Fun K "_law_due" "_law_due" sDue f fd) (GV : FnOk P w K mg base (CXE P w base) 5 gV dV ["values", "heap", "telling"] (jf K)) (cV : Cal K mg "cover" gV dV ["values", "heap", "telling"]) : FnOk P w K mg base CX0 6 f fd ["_law_values", "_law_handed", "_law_heap", "_law_facts_here", "_law_parts"] (a3q K) := by
  refine F.okQ scDue (fun vs H Q E h => ?_) (fun cdv A outer s0 H vs Q E hr h => ?_)
  · obtain ⟨d, d2, h, fl, pl, mv, m, cs, fs, ps, rfl, _⟩ := h; rfl
  obtain ⟨d, d2, h, fl, pl, mv, m, cs, fs, ps, rfl, hD, hD2, hH, hcl, ⟨fas, hF, hFp⟩, ⟨pas, hP, hPp⟩, hT, hnum, q⟩ := h
  have nd := scDue.nd
  have hu1 := dw hr
  have hr5 := hr.mono (j := 5) (by lia)
  refine ⟨_, ae (al (i := 5) nd rfl (Or.inl rfl) (ay ac))
    (ae (cr PassesOwn.never rfl (dn (K := K) rfl (qv 3)) (qe (ba (i := 6) nd rfl (Or.inl rfl)) (ba (i := 7) nd rfl (Or.inl rfl)) (ba (i := 8) nd rfl (Or.inl rfl))) (am (bd (av pg (de bn (ck hu1 (qv 0) (qv 7) (fun _ _ => rfl)) (ck hu1 (qv 0) (qv 8) (fun _ _ => rfl)) (au _)) (de bn (qv 6) cb (au _)) (au _)) (am (az d9)) b9)))
    (ae (cr PassesOwn.never rfl (dn (K := K) rfl (qv 4)) (ba (i := 9) nd rfl (Or.inl rfl)) (ae (al (i := 10) nd rfl (Or.inl rfl) (ao GV hr5 rfl cV.name cV.keep cV.bind .nil o0 (af (qv 1) (af (qv 2) (fu (ku ac (ku (af (qv 9) ac) ac)) ac)))))
    (ae (bd (av vo (qv 10) d9 (au _)) (am (az d9)) b9)
    (am (bi (ce (K := K) rfl PySem.F.plainAttrs_list PySem.F.slot_list_append PySem.F.type_list_append bq (qv 5) (ax (aq (ixKk (K := K) rfl) (qv 10) ag (fun _ _ => rfl)) ac)))))))
    (ae (al (i := 11) nd rfl (Or.inl rfl) (ay ac))
    (ae (cr PassesOwn.never rfl (dn (K := K) rfl (qv 5)) (ba (i := 12) nd rfl (Or.inl rfl)) (am (bi (ce (K := K) rfl PySem.F.plainAttrs_list PySem.F.slot_list_extend PySem.F.type_list_extend iw (qv 11) (af (qv 12) ac)))))
    (ae (bd (av a3v (b7 lg rfl C.len PySem.boot_len (bh (bt (lh rfl) rfl C.set PyProof.Rows.boot_set (af (qv 11) ac)) ac)) (b7 (dk (K := K) rfl) rfl C.len PySem.boot_len (af (qv 11) ac)) (au _)) (am (az d9)) b9)
    (am (az (qv 5)))))))), ?_⟩
  refine ⟨Nat.zero_le _, fun fo hfo => ?_⟩
  have s1 := ad hfo (.lst [])
  refine ⟨_, rfl, fl, rfl, ⟨_, SqL.of (s1 _ _ hF)⟩, ?_⟩
  have hfl := Paired.length hFp
  have hpl := Paired.length hPp
  have hfo0 : (upd H fo (.lst [])) fo = some (.lst []) := aa
  generalize upd H fo (.lst []) = H1 at s1 hfo0 ⊢
  refine gn (xs := fas.map V.ref) (fun i σ H' => Same H1 H' ∧ ∃ z6 z7 z8, (fs.take i).all (bv m) = true ∧ σ = [some (.ref d), some (.ref d2), some (.ref h), some (.ref fl), some (.ref pl), some (.ref fo), z6, z7, z8, none, none, none, none])
    ⟨Same.refl _, none, none, none, rfl, rfl⟩ (fun i σ H' _ p => SqL.of (p.1 _ _ (s1 _ _ hF))) ?_ ?_
  · rintro i v σ H' hi ⟨e, z6, z7, z8, hall, rfl⟩
    obtain ⟨b, hb, rfl⟩ := gv hi
    obtain ⟨r, hr1, hr2⟩ := Paired.nth hFp hb
    have hrm := List.mem_of_getElem? hr1
    obtain ⟨k, u, v, rfl, h1, h2⟩ := hT.facts r hrm
    have e1 := s1.trans e
    have hu' := hnum _ hrm u (by simp)
    have hv' := hnum _ hrm v (by simp)
    have g1 := DGet.k (k := Sum.inr u) (e1 _ _ hD)
    rw [et, hu'] at g1
    have g2 := DGet.k (k := Sum.inr v) (e1 _ _ hD)
    rw [et, hv'] at g2
    refine ⟨b, _, rfl, hr2.same e1, rfl, _, _, rfl, _, _, rfl, _, _, rfl, rfl, ?_⟩
    refine ⟨_, rfl, _, rfl, d, .int (num m u), rfl, g1, _, rfl, _, rfl, d, .int (num m v), rfl, g2, rfl, _, rfl, rfl, rfl, _, rfl, iteB (fun c => ?_) (fun c => ?_)⟩
    · refine q.none ?_ e1
      have hno : ¬ bv m [k, u, v] = true := fun z => by
        unfold bv at z
        simp at z c
        exact c z
      unfold bc
      rw [if_neg (fun z => hno (List.all_eq_true.mp z _ hrm))]
    · refine ⟨e, _, _, _, ?_, rfl⟩
      have hyes : bv m [k, u, v] = true := by
        unfold bv
        simp at c ⊢
        exact c
      rw [List.take_add_one, hr1, List.all_append, hall]
      simpa using hyes
  rintro σ H2 ⟨e2, z6, z7, z8, hall, rfl⟩
  rw [List.length_map, hfl, List.take_length] at hall
  have e02 := s1.trans e2
  have hfo2 := e2 _ _ hfo0
  refine ⟨_, rfl, pl, rfl, ⟨_, SqL.of (e02 _ _ hP)⟩, ?_⟩
  refine gn (xs := pas.map V.ref) (fun i σ H' => Same H H' ∧ Ex4 fun (las : List Addr) (rows : List (List Int)) (z9 z10 : Option V) => And5 (H' fo = some (.lst (las.map V.ref))) ((∀ a ∈ las, H a = none ∧ a ≠ fo)) (Paired (fun a r => H' a = some (.lst ((r : List Int).map V.int))) las rows) ((ps.take i).map (be m cs) = rows.map some) (σ = [some (.ref d), some (.ref d2), some (.ref h), some (.ref fl), some (.ref pl), some (.ref fo), z6, z7, z8, z9, z10, none, none]))
    ⟨e02, [], [], none, none, hfo2, (fun a ha => by cases ha), .nil, rfl, rfl⟩ (fun i σ H' _ p => SqL.of (p.1 _ _ hP)) ?_ ?_
  · rintro i v σ H' hi ⟨e, las, rows, z9, z10, hfo', hla, hlp, hmap, rfl⟩
    obtain ⟨b, hb, rfl⟩ := gv hi
    obtain ⟨r, hr1, hr2⟩ := Paired.nth hPp hb
    have hrm := List.mem_of_getElem? hr1
    have hil : i < ps.length := (List.getElem?_eq_some_iff.mp hr1).1
    have hsix := hT.six
    have hll : las.length ≤ 6 := by
      have h1 := congrArg List.length hmap
      rw [List.length_map, List.length_map, List.length_take] at h1
      rw [Paired.length hlp]; lia
    refine ⟨_, rfl, _, rfl, Nat.zero_le _, fun l0 hl0 => ⟨_, rfl, (show 1 ≤ sizeLine by decide), fun l1 hl1 => ⟨(show 2 ≤ sizeLine by decide), fun t ht => ?_⟩⟩⟩
    have u1 := ad hl0 (.lst [])
    have u2 := ad hl1 (.lst [.ref b])
    have u3 := ad ht (.tup [.ref l0, .ref l1])
    have u := u1.trans (u2.trans u3)
    have hTl : TellAt K (upd (upd (upd H' l0 (.lst [])) l1 (.lst [.ref b])) t (.tup [.ref l0, .ref l1])) t [[], [r]] := ⟨[l0, l1], SqT.of aa, .cons ⟨[], u3 _ _ (u2 _ _ aa), .nil⟩ (.cons ⟨[b], u3 _ _ aa, .cons (hr2.same (e.trans u)) .nil⟩ .nil)⟩
    generalize upd (upd (upd H' l0 (.lst [])) l1 (.lst [.ref b])) t (.tup [.ref l0, .ref l1]) = H3 at u hTl ⊢
    have e3 := e.trans u
    refine ⟨d2, h, t, m, cs, [], [r], rfl, e3 _ _ hD2, hH.same e3, hcl, hTl, hT.one hrm, ?_⟩
    rw [a1d]
    cases hp : be m cs r with
    | none =>
      intro H4 e4
      refine ⟨_, rfl, rfl, _, rfl, iteT ?_⟩
      refine q.none ?_ (e3.trans e4)
      unfold bc
      rw [if_pos hall, il (List.mem_map.mpr ⟨r, hrm, hp⟩)]
    | some ns =>
      intro l las' H4 e4 hl0' hla' hl' hp'
      cases hp' with
      | @cons a _ lr _ ha hn =>
      cases hn
      have ha1 := hla' a (List.mem_cons_self ..)
      refine ⟨_, rfl, rfl, _, rfl, iteF ?_⟩
      have hfo4 := e4 _ _ (u _ _ hfo')
      refine ⟨_, rfl, .inl ⟨rfl, _, SqL.of hfo4⟩, _, rfl, l, _, 0, .ref a, rfl, rfl, SqL.of hl', bu (j := 0) rfl, fo, _, .ref a, rfl, rfl, hfo4, ?_, ?_⟩
      · rw [List.length_map]; exact Nat.lt_of_le_of_lt (show las.length ≤ 1000 by lia) (by decide)
      have hafo : a ≠ fo := fun z => by have := ha1.1; rw [z, u _ _ hfo'] at this; cases this
      refine ⟨br hfo (e3.trans e4) _, las ++ [a], rows ++ [ns], _, _, ?_, fun b' hb' => ?_, Paired.app (Paired.mapP (r8 hlp) fun b' r' z => ?_) (.cons ?_ .nil), ?_, rfl⟩
      · rw [aa, List.map_append]; rfl
      · rcases List.mem_append.mp hb' with z | z
        · exact hla b' z
        · rw [List.mem_singleton.mp z]; exact ⟨e3.free ha1.1, hafo⟩
      · rw [ah (hla b' z.2).2]; exact e4 _ _ (u _ _ z.1)
      · rw [ah hafo]; exact ha
      · rw [List.take_add_one, hr1, List.map_append, hmap, List.map_append]
        simp [hp]
  rintro σ H3 ⟨e3, las, rows, z9, z10, hfo3, hla, hlp, hmap, rfl⟩
  rw [List.length_map, hpl, List.take_length] at hmap
  have hall2 : ci (ps.map (be m cs)) = some rows := by
    rw [hmap]
    clear hmap hlp
    induction rows with
    | nil => rfl
    | cons r rows ih => show (ci (rows.map some)).map (r :: ·) = _; rw [ih]; rfl
  have ecov : bc m cs fs ps = if rows.flatten.Nodup then some rows else none := by unfold bc; rw [if_pos hall, hall2]
  have hll : las.length = rows.length := Paired.length hlp
  have hrl : rows.length = ps.length := by
    have h1 := congrArg List.length hmap
    rw [List.length_map, List.length_map] at h1; exact h1.symm
  have hsix := hT.six
  have hlen : ∀ r ∈ rows, r.length ≤ 600 := fun r hr' => by
    have h1 : some r ∈ ps.map (be m cs) := by rw [hmap]; exact List.mem_map.mpr ⟨r, hr', rfl⟩
    obtain ⟨r0, _, he⟩ := List.mem_map.mp h1
    exact Nat.le_trans (lu he) hcl
  have hflat := ip hlen
  have hfl4 : rows.flatten.length ≤ 3600 := Nat.le_trans hflat (by rw [hrl]; exact Nat.mul_le_mul_right 600 hsix)
  refine ⟨Nat.zero_le _, fun tk htk => ?_⟩
  have s4 := ad htk (.lst [])
  refine ⟨_, rfl, fo, rfl, ⟨_, SqL.of (s4 _ _ hfo3)⟩, ?_⟩
  refine gn (xs := las.map V.ref) (fun i σ H' => Same H3 H' ∧ ∃ z12, H' tk = some (.lst ((rows.take i).flatten.map V.int)) ∧ σ = [some (.ref d), some (.ref d2), some (.ref h), some (.ref fl), some (.ref pl), some (.ref fo), z6, z7, z8, z9, z10, some (.ref tk), z12])
    ⟨s4, none, aa, rfl⟩ (fun i σ H' _ p => SqL.of (p.1 _ _ hfo3)) ?_ ?_
  · rintro i v σ H' hi ⟨e, z12, hK', rfl⟩
    obtain ⟨b, hb, rfl⟩ := gv hi
    obtain ⟨r, hr1', hr2'⟩ := Paired.nth hlp hb
    have ht1 : rows.take (i + 1) = rows.take i ++ [r] := by rw [List.take_add_one, hr1']; rfl
    have hle : (rows.take i).flatten.length + r.length ≤ 3600 + 600 := by
      have h1 := hlen r (List.mem_of_getElem? hr1')
      have h2 := ip (rows := rows.take i) (B := 600) fun x hx => hlen x (List.mem_of_mem_take hx)
      have h3 : (rows.take i).length ≤ 6 := by rw [List.length_take]; lia
      have h4 : (rows.take i).length * 600 ≤ 6 * 600 := Nat.mul_le_mul_right 600 h3
      lia
    refine ⟨_, rfl, .inl ⟨rfl, _, SqL.of hK'⟩, _, rfl, tk, b, _, _, rfl, rfl, hK', e _ _ hr2', ?_, ?_⟩
    · rw [List.length_map, List.length_map]; exact Nat.le_trans hle (by decide)
    · refine ⟨fun c u qc => ?_, _, ?_, rfl⟩
      · rw [ah (aj qc htk)]; exact e _ _ qc
      · rw [aa, ht1, List.flatten_append, List.map_append]
        simp
  · rintro σ H' ⟨e, z12, hK', rfl⟩
    rw [List.length_map, hll, List.take_length] at hK'
    refine ⟨_, rfl, tk, _, rfl, SqL.of hK', (show _ < 4096 by lia), fun S SS hS => ?_⟩
    have s5 := ad hS (.set SS (metN rows.flatten))
    have hmle := y4 rows.flatten
    have uH := e3.trans (e.trans s5)
    refine ⟨S, SS, _, rfl, aa, by lia, _, rfl, tk, _, rfl, .inl (SqL.of (s5 _ _ hK')), _, _, rfl, rfl, _, rfl, iteB (fun c3 => ?_) (fun c3 => ?_)⟩
    · refine q.none ?_ uH
      rw [ecov, if_neg]
      intro z
      have := (kc _).mpr z
      rw [List.length_map] at c3
      have c4 : ((metN rows.flatten : Nat) : Int) < ((rows.flatten.length : Nat) : Int) := of_decide_eq_true c3
      lia
    · have hnd : rows.flatten.Nodup := by
        rw [List.length_map] at c3
        have c4 : ¬ ((metN rows.flatten : Nat) : Int) < ((rows.flatten.length : Nat) : Int) := of_decide_eq_false c3
        exact (kc _).mp (by lia)
      exact ⟨_, rfl, q.some (by rw [ecov, if_pos hnd]) uH hfo (las := las) hla (s5 _ _ (e _ _ hfo3)) (Paired.mapP hlp fun a r z => s5 _ _ (e _ _ z))⟩
end
end K13
namespace K13
open PySem PySem.Spec L2 Mir
noncomputable abbrev jh : Stmt := top 34
noncomputable def RowsF (H H' : Hp) (o : Option (List (List Int))) (v : V) : Prop := (o = none ∧ v = .non) ∨ ∃ l las rows, o = some rows ∧ v = .ref l ∧ H' l = some (.lst (las.map V.ref)) ∧ Paired (fun a r => H' a = some (.lst ((r : List Int).map V.int))) las rows
theorem GivesR.introF {H : Hp} {o : Option (List (List Int))} {Q : VK} (h : ∀ v H', Same H H' → RowsF H H' o v → Q v H') : GivesR H o Q := by
  cases o with
  | none => exact fun H' e => h _ H' e (.inl ⟨rfl, rfl⟩)
  | some rows => exact fun l las H' e h0 h1 hl hp => h _ H' e (.inr ⟨l, las, rows, rfl, rfl, hl, hp⟩)
noncomputable def gh (o : Option (List (List Int))) : PyData := match o with
  | none => .none
  | some rows => .list (rows.map fun r => .list (r.map .int))
theorem RowsF.dp {K : PySem.W.Frag} {H H' H2 : Hp} {o : Option (List (List Int))} {v : V} (h : RowsF H H' o v) (e : ∀ b xs, H' b = some (.lst xs) → H2 b = some (.lst xs)) : Dp K H2 v (gh o) := by
  rcases h with ⟨rfl, rfl⟩ | ⟨l, las, rows, rfl, rfl, hl, hp⟩
  · exact .non
  · refine .lst (SqL.of (e _ _ hl)) ?_
    clear hl
    induction hp with
    | nil => exact .nil
    | cons h t ih => exact .cons (.lst (SqL.of (e _ _ h)) (jy _)) ih
theorem fj (o : Option (List (List Int))) : EqOk (gh o) := by
  cases o with
  | none => exact lx
  | some rows =>
    have e : gh (some rows) = .list ((rows.map some).map dOpt) := by
      unfold gh
      rw [List.map_map]
      rfl
    rw [e]
    exact sh _
theorem uc (m : List (Str × Int)) : num (bf m "nil") = num m := by
  funext y
  unfold num
  by_cases h : y = "nil"
  · rw [if_pos h, if_pos h]
  · rw [if_neg h, if_neg h, jw, if_neg h]
theorem a0s {m m' : List (Str × Int)} {cs : ar} {fs ps : List (List Str)} (h : num m' = num m) : bc m' cs fs ps = bc m cs fs ps := by
  have e1 : bv m' = bv m := by funext r; unfold bv; rw [h]
  have e2 : mayB m' = mayB m := by funext r; unfold mayB; rw [h]
  have e3 : be m' cs = be m cs := by funext r; unfold be ei; rw [h, e2]
  unfold bc
  rw [e1, e3]
theorem o8 {α β : Type} {R : α → β → Prop} : ∀ {xs : List α} {ys : List β} (j : Nat), Paired R xs ys → Paired R (xs.drop j) (ys.drop j)
  | _, _, 0, h => h
  | _, _, j + 1, .nil => .nil
  | _, _, j + 1, .cons _ t => o8 j t
theorem mr {α β : Type} {R : α → β → Prop} : ∀ {xs : List α} {ys : List β} (j : Nat), Paired R xs ys → Paired R (xs.take j) (ys.take j)
  | _, _, 0, h => by rw [List.take_zero, List.take_zero]; exact .nil
  | _, _, j + 1, .nil => .nil
  | _, _, j + 1, .cons h t => .cons h (mr j t)
noncomputable def tn {α : Type} (j : Nat) (l : List α) : List α := l.drop j ++ l.take j
theorem j0 {α β : Type} {R : α → β → Prop} {xs : List α} {ys : List β} (j : Nat) (h : Paired R xs ys) : Paired R (tn j xs) (tn j ys) := Paired.app (o8 j h) (mr j h)
theorem nv {α : Type} (j : Nat) (l : List α) : (tn j l).Perm l := by
  have h : (l.drop j ++ l.take j).Perm (l.take j ++ l.drop j) := List.perm_append_comm
  rw [List.take_append_drop] at h
  exact h
theorem a0m {α β : Type} (f : α → β) (j : Nat) (l : List α) : (tn j l).map f = tn j (l.map f) := by
  unfold tn; rw [List.map_append, List.map_drop, List.map_take]
theorem r9 (xs : List V) (n : Nat) (h : n ≤ xs.length) : cutV xs (some (n : Int)) none = xs.drop n := by
  unfold cutV
  rw [HT.sIx_nat, Nat.min_eq_left h]
  show (xs.drop n).take (xs.length - n) = xs.drop n
  rw [← List.length_drop, List.take_length]
theorem xq {K : PySem.W.Frag} {H : Hp} {l : Addr} {las : List Addr} {rows : List (List Int)} (hl : H l = some (.lst (las.map V.ref))) (hp : Paired (fun a r => H a = some (.lst ((r : List Int).map V.int))) las rows) : Dp K H (.ref l) (gh (some rows)) := by
  refine .lst (SqL.of hl) ?_
  clear hl
  induction hp with
  | nil => exact .nil
  | cons h t ih => exact .cons (.lst (SqL.of h) (jy _)) ih
inductive spGrownS (K : PySem.W.Frag) (vs : List V) (H : Hp) (Q : VK) : Prop
  | mk (a d : Addr) (ns : List Int) (h0 : vs = [.ref a, .ref d]) (h1 : SqL K H a (ns.map V.int)) (h2 : H d = some (.dK (dv []))) (h3 : ∀ t h fl pl xs m hp fs ps H', Kp (· = d) H H' → H' t = some (.tup [.ref h, .ref fl, .ref pl]) → H' d = some (.dK (dv m)) → m.length ≤ 40 → (xs : List Str).length = 8 → (∀ x ∈ xs, NameG x) → (∀ x ∈ xs ++ [("nil" : Str)], (lkI m x).isSome = true) → lkI m "nil" = some 0 → Made K H' h fl pl (xs ++ [("nil" : Str)]) hp fs ps → Q (.ref t) H') : spGrownS K vs H Q
noncomputable def y8 (K : PySem.W.Frag) : Sp := fun vs H Q _ => spGrownS K vs H Q
section
variable {P : Program} {w : World} {K : PySem.W.Frag} {mg : Str → Option Value} {base : Heap} {f gC gN gB gX gE gV gF : Addr} {fd dC dN dB dX dE dV dF : FuncData}
theorem scGrown : FnScope ["_law_script", "_law_values", "_law_names_here", "_law_heap", "_law_parts", "_law_rows", "_law_facts_here", "_law_turn", "_law_handed", "_law_telling"] ["_law_script", "_law_values"] (ak jh) := ⟨rfl, rfl, rfl, by decide +kernel, rfl, by decide +kernel, by decide +kernel⟩
theorem a31 (C : Con K mg w) (F : Fun K "_law_grown" "_law_grown" jh f fd) (GC : FnOk P w K mg base CX0 1 gC dC ["_law_script", "_law_k"] (jk K)) (cC : Cal K mg "_law_cell_at" gC dC ["_law_script", "_law_k"])
    (GN : FnOk P w K mg base CX0 1 gN dN ["_law_base", "_law_place", "_law_many"] vq) (cN : Cal K mg "_law_names" gN dN ["_law_base", "_law_place", "_law_many"])
    (GB : FnOk P w K mg base CX0 3 gB dB ["_law_script", "_law_names_here", "_law_values", "_law_heap"] (ur K)) (cB : Cal K mg "_law_built" gB dB ["_law_script", "_law_names_here", "_law_values", "_law_heap"])
    (GX : FnOk P w K mg base CX0 1 gX dX ["_law_script", "_law_names_here", "_law_values"] (v3 K)) (cX : Cal K mg "_law_facts" gX dX ["_law_script", "_law_names_here", "_law_values"])
    (GE : FnOk P w K mg base CX0 1 gE dE ["_law_cell", "_law_names_here", "_law_facts_here", "_law_parts", "_law_heap"] (a0x K)) (cE : Cal K mg "_law_bent" gE dE ["_law_cell", "_law_names_here", "_law_facts_here", "_law_parts", "_law_heap"])
    (GV : FnOk P w K mg base (CXE P w base) 5 gV dV ["values", "heap", "telling"] (jf K)) (cV : Cal K mg "cover" gV dV ["values", "heap", "telling"])
    (GF : FnOk P w K mg base (CXE P w base) 6 gF dF ["values", "heap", "telling"] (ue K)) (cF : Cal K mg "fits" gF dF ["values", "heap", "telling"]) : FnOk P w K mg base CX0 7 f fd ["_law_script", "_law_values"] (y8 K) := by
  refine F.okQ scGrown (fun vs H Q E h => ?_) (fun cdv A outer s H vs Q E hr h => ?_)
  · obtain ⟨a, d, ns, rfl, _⟩ := h; rfl
  obtain ⟨a, d, ns, rfl, hS, hD, q⟩ := h
  have nd := scGrown.nd
  have hr1 := hr.mono (j := 1) (by lia)
  have hr3 := hr.mono (j := 3) (by lia)
  have hr5 := hr.mono (j := 5) (by lia)
  have hu1 := dw hr
  have hu := Nat.lt_of_le_of_lt (Nat.add_le_add_left (show 32 ≤ 64 by decide) _) hr.units
  refine ⟨_, ae (al (i := 2) nd rfl (Or.inl rfl) (ao GN hr1 rfl cN.name cN.keep cN.bind .nil aw (cz (ai df (ao GC hr1 rfl cC.name cC.keep cC.bind .nil aw (af (qv 0) (b8 ac))) ag) (bh (ao GC hr1 rfl cC.name cC.keep cC.bind .nil aw (af (qv 0) (b8 ac))) (b8 ac)))))
    (ae (al (i := 3) nd rfl (Or.inl rfl) ib)
    (ae (fh (ao GB hr3 rfl cB.name cB.keep cB.bind .nil aw (af (qv 0) (af (qv 2) (af (qv 1) (af (qv 3) ac))))) (ng (ba (i := 4) nd rfl (Or.inl rfl)) (ba (i := 5) nd rfl (Or.inl rfl))))
    (ae (al (i := 6) nd rfl (Or.inl rfl) (ao GX hr1 rfl cX.name cX.keep cX.bind .nil aw (af (qv 0) (af (qv 2) (af (qv 1) ac)))))
    (ae (jv (al (i := 7) nd rfl (Or.inl rfl) (ai b0 (ao GC hr1 rfl cC.name cC.keep cC.bind .nil aw (af (qv 0) (b8 ac))) (ai bp (b7 (dk (K := K) rfl) rfl C.len PySem.boot_len (af (qv 4) ac)) ag))))
    (ae (al (i := 4) nd rfl (Or.inl rfl) (ai cx (cn (slLk (K := K) rfl) (qv 4) (cg (qv 7)) dz) (cn (slLk (K := K) rfl) (qv 4) dz (cg (qv 7)))))
    (ae (al (i := 5) nd rfl (Or.inl rfl) (ai cx (cn (slLk (K := K) rfl) (qv 5) (cg (qv 7)) dz) (cn (slLk (K := K) rfl) (qv 5) dz (cg (qv 7)))))
    (ae (jv (al (i := 8) nd rfl (Or.inl rfl) (bt iu rfl C.dict PyProof.Rows.boot_dict (af (qv 1) ac))))
    (ae (bi (ot (qv 8) cb))
    (ae (al (i := 9) nd rfl (Or.inl rfl) (d0 (bh (bt gf rfl C.list PyProof.Rows.boot_list (af (qv 6) ac)) (bh (bt gf rfl C.list PyProof.Rows.boot_list (af (qv 4) ac)) ac))))
    (ae (bd (QW.qt (my (av (neDk (K := K) rfl hu) (ao GV hr5 rfl cV.name cV.keep cV.bind .nil o0 (af (qv 8) (af (qv 3) (af (qv 9) ac)))) (qv 5) (au _)) (jo (av a44 (ao GF hr rfl cF.name cF.keep cF.bind .nil o0 (af (qv 8) (af (qv 3) (af (qv 9) ac)))) kt (au _))))) (am (az d9)) b9)
    (ae (bi (ao GE hr1 rfl cE.name cE.keep cE.bind .nil aw (bh (ao GC hr1 rfl cC.name cC.keep cC.bind .nil aw (af (qv 0) (b8 ac))) (af (qv 2) (af (qv 6) (af (qv 4) (af (qv 3) ac)))))))
    (am (az (d0 (af (qv 3) (af (qv 6) (af (qv 4) ac))))))))))))))))), ?_⟩
  refine ⟨_, rfl, a, ns, 0, rfl, hS, _, _, rfl, rfl, (show CDiv _ 2 from ⟨by decide, by decide⟩), _, rfl, a, ns, 1, rfl, hS, ap ns 0 / 2, ap ns 1, 8, rfl, by decide, fun nl xs H2 e2 hnl0 hN hx8 hxn hxd => ?_⟩
  intro h hh
  have s1 := ad hh (.dK (hv []))
  have hD2 := e2 _ _ hD
  have hdh : d ≠ h := aj hD2 hh
  have hnh : nl ≠ h := aj hN hh
  have hS2 := e2.seq hS
  refine ⟨_, rfl, _, rfl, _, rfl, _, rfl, a, nl, d, h, ns, xs, rfl, s1.seq hS2, s1 _ _ hN, hx8, hxd, hxn, s1 _ _ hD2, aa, hdh, fun t pl rl las m cs ps rows H3 k3 hpl0 hrl0 ht hps hpo hp5 hrl hrows hd3 hm3 hin hnil hH3 hc50 hpart hnd hlen => ?_⟩
  have k23 : Kp (· = d) H2 H3 := fun b o hb hn => k3 b o (s1 _ _ hb) fun z => by
    rcases z with z | z
    · exact hn z
    · rw [z, hh] at hb; cases hb
  have hdnl : nl ≠ d := fun z => by rw [z, hD2] at hN; cases hN
  have hN3 := k23 _ _ hN hdnl
  have hmu : ∀ c, (c = d) → ∃ kv, H2 c = some (.dK kv) := fun c z => by rw [z]; exact ⟨_, hD2⟩
  have hS3 : SqL K H3 a (ns.map V.int) := SqL.kpD hS2 hmu k23
  refine ⟨t, _, rfl, SqT.of ht, rfl, _, _, rfl, _, _, rfl, rfl, ?_⟩
  refine ⟨_, rfl, _, rfl, _, rfl, a, nl, d, ns, xs, m, rfl, hS3, hN3, hx8, hd3, hin, hnil, fun fl fs H4 e4 hfl0 hfs hfo hf3 hfh => ?_⟩
  obtain ⟨pas, hpl3, hpp⟩ := hps
  have hpal := Paired.length hpp
  have hlal := Paired.length hrows
  have hplr : ps.length = rows.length := Paired.length hpart
  have hpl4 := e4 _ _ hpl3
  have hrl4 := e4 _ _ hrl
  have hS4 := e4.seq hS3
  have hpos : (0 : Int) < ((pas.map V.ref).length : Nat) + 1 := by lia
  refine ⟨_, rfl, a, ns, 2, rfl, hS4, _, rfl, pl, _, rfl, .inl (SqL.of hpl4), _, _, rfl, rfl, _, _, rfl, rfl, hpos, ?_⟩
  have hj0 := Int.emod_nonneg (ap ns 2) (Int.ne_of_gt hpos)
  have hj1 := Int.emod_lt_of_pos (ap ns 2) hpos
  intro τ eτ
  obtain rfl : τ = [some (.ref a), some (.ref d), some (.ref nl), some (.ref h), some (.ref pl), some (.ref rl), some (.ref fl), some (.int (ap ns 2 % ((((pas.map V.ref).length : Nat) : Int) + 1))), none, none] := eτ
  rw [List.length_map] at hj0 hj1 ⊢
  generalize ap ns 2 % ((pas.length : Int) + 1) = jj at hj0 hj1 ⊢
  obtain ⟨j, rfl⟩ := Int.eq_ofNat_of_zero_le hj0
  have hjp : j ≤ pas.length := by lia
  have hjr : j ≤ las.length := by lia
  refine ⟨_, rfl, _, rfl, _, rfl, pl, _, rfl, SqL.of hpl4, fun c1 hc1 => ?_⟩
  rw [r9 _ _ (by rw [List.length_map]; exact hjp)]
  have s5 := ad hc1 (.lst ((pas.map V.ref).drop j))
  refine ⟨_, rfl, _, rfl, _, rfl, pl, _, rfl, SqL.of (s5 _ _ hpl4), fun c2 hc2 => ?_⟩
  rw [a3i]
  have s6 := ad hc2 (.lst ((pas.map V.ref).take j))
  refine ⟨c1, c2, _, _, rfl, rfl, s6 _ _ aa, aa, ?_, fun pl2 hpl2 => ?_⟩
  · rw [List.length_drop, List.length_take, List.length_map]; exact Nat.le_trans (show _ ≤ 1000 by lia) (by decide)
  have s7 := ad hpl2 (.lst ((pas.map V.ref).drop j ++ (pas.map V.ref).take j))
  have e57 := s5.trans (s6.trans s7)
  have hpl2v : (upd (upd (upd H4 c1 (.lst ((pas.map V.ref).drop j))) c2 (.lst ((pas.map V.ref).take j))) pl2 (.lst ((pas.map V.ref).drop j ++ (pas.map V.ref).take j))) pl2 = some (.lst ((tn j pas).map V.ref)) := by rw [aa, a0m]; rfl
  have hpl2n : H4 pl2 = none := (s5.trans s6).free hpl2
  generalize upd (upd (upd H4 c1 (.lst ((pas.map V.ref).drop j))) c2 (.lst ((pas.map V.ref).take j))) pl2 (.lst ((pas.map V.ref).drop j ++ (pas.map V.ref).take j)) = H5 at e57 hpl2v ⊢
  have hrl5 := e57 _ _ hrl4
  refine ⟨_, rfl, _, rfl, _, rfl, rl, _, rfl, SqL.of hrl5, fun c3 hc3 => ?_⟩
  rw [r9 _ _ (by rw [List.length_map]; exact hjr)]
  have s8 := ad hc3 (.lst ((las.map V.ref).drop j))
  refine ⟨_, rfl, _, rfl, _, rfl, rl, _, rfl, SqL.of (s8 _ _ hrl5), fun c4 hc4 => ?_⟩
  rw [a3i]
  have s9 := ad hc4 (.lst ((las.map V.ref).take j))
  refine ⟨c3, c4, _, _, rfl, rfl, s9 _ _ aa, aa, ?_, fun rl2 hrl2 => ?_⟩
  · rw [List.length_drop, List.length_take, List.length_map]; exact Nat.le_trans (show _ ≤ 1000 by lia) (by decide)
  have s10 := ad hrl2 (.lst ((las.map V.ref).drop j ++ (las.map V.ref).take j))
  have e810 := s8.trans (s9.trans s10)
  have hrl2v : (upd (upd (upd H5 c3 (.lst ((las.map V.ref).drop j))) c4 (.lst ((las.map V.ref).take j))) rl2 (.lst ((las.map V.ref).drop j ++ (las.map V.ref).take j))) rl2 = some (.lst ((tn j las).map V.ref)) := by rw [aa, a0m]; rfl
  generalize upd (upd (upd H5 c3 (.lst ((las.map V.ref).drop j))) c4 (.lst ((las.map V.ref).take j))) rl2 (.lst ((las.map V.ref).drop j ++ (las.map V.ref).take j)) = H6 at e810 hrl2v ⊢
  have e46 := e57.trans e810
  have hd6 := e46 _ _ (e4 _ _ hd3)
  refine ⟨_, rfl, d, _, rfl, hd6, fun d2 hd2n => ?_⟩
  intro τ eτ
  obtain rfl : τ = [some (.ref a), some (.ref d), some (.ref nl), some (.ref h), some (.ref pl2), some (.ref rl2), some (.ref fl), some (.int (j : Int)), some (.ref d2), none] := eτ
  have s11 := ad hd2n (.dK (dv m))
  refine ⟨_, rfl, d2, rfl, .inl ⟨_, .inl aa⟩, _, Sum.inr "nil", .int 0, aa, rfl, (by rw [et, hnil]; rfl), ?_⟩
  rw [tu, eu]
  have s12 := ad hd2n (.dK (dv (bf m "nil")))
  have e47 := e46.trans s12
  have hd7 : (upd H6 d2 (.dK (dv (bf m "nil")))) d2 = some (.dK (dv (bf m "nil"))) := aa
  have hrl7 := s12 _ _ hrl2v
  have hpl7 := s12 _ _ (e810 _ _ hpl2v)
  generalize upd H6 d2 (.dK (dv (bf m "nil"))) = H7 at e47 hd7 hrl7 hpl7 ⊢
  have hm7 := a1c m "nil"
  obtain ⟨fas, hfl4, hfp⟩ := hfs
  have hfal := Paired.length hfp
  have hfl7 := e47 _ _ hfl4
  refine ⟨_, rfl, fl, _, rfl, .inl (SqL.of hfl7), fun l1 hl1 => ?_⟩
  have s13 := ad hl1 (.lst (fas.map V.ref))
  refine ⟨_, rfl, pl2, _, rfl, .inl (SqL.of (s13 _ _ hpl7)), fun l2 hl2 => ?_⟩
  have s14 := ad hl2 (.lst ((tn j pas).map V.ref))
  refine ⟨(show 2 ≤ sizeLine by decide), fun tt htt => ?_⟩
  have s15 := ad htt (.tup [.ref l1, .ref l2])
  have e715 := s13.trans (s14.trans s15)
  have e415 := e47.trans e715
  have hTl : TellAt K (upd (upd (upd H7 l1 (.lst (fas.map V.ref))) l2 (.lst ((tn j pas).map V.ref))) tt (.tup [.ref l1, .ref l2])) tt [fs, tn j ps] := ⟨[l1, l2], SqT.of aa, .cons ⟨fas, s15 _ _ (s14 _ _ aa), Paired.mapP hfp fun _ _ z => e415.seqT z⟩ (.cons ⟨tn j pas, s15 _ _ aa, Paired.mapP (j0 j hpp) fun _ _ z => (e4.trans e415).seqT z⟩ .nil)⟩
  generalize upd (upd (upd H7 l1 (.lst (fas.map V.ref))) l2 (.lst ((tn j pas).map V.ref))) tt (.tup [.ref l1, .ref l2]) = H8 at e715 e415 hTl ⊢
  have hpo2 : dh (xs ++ [("nil" : Str)]) (tn j ps) := fun r hr => hpo r ((nv j ps).mem_iff.mp hr)
  have hpl5 : (tn j ps).length = ps.length := (nv j ps).length_eq
  have hTR : TellR (bf m "nil") fs (tn j ps) := me hxn hx8 (fun x hx _ => by rw [jw, if_neg (hxn x hx).nil]; exact hin x (List.mem_append.mpr (.inl hx))) hfo hpo2 (by lia) (by lia)
  have hfl2 : (tn j rows).flatten.Perm rows.flatten := (nv j rows).flatten
  have hcov : bc (bf m "nil") cs fs (tn j ps) = some (tn j rows) := by
    rw [a0s (uc m)]
    exact ox (List.all_eq_true.mpr hfh) (j0 j hpart) (hfl2.nodup_iff.mpr hnd)
  have hfits : fk (bf m "nil") cs fs (tn j ps) = true := by
    rw [nc hcov]
    exact decide_eq_true (hfl2.length_eq.trans hlen.symm)
  have hH8 : HeapAt K H8 h cs := hH3.same (e4.trans e415)
  have hd8 := e715 _ _ hd7
  refine ⟨_, rfl, _, rfl, _, rfl, d2, h, tt, bf m "nil", cs, fs, tn j ps, rfl, hd8, hH8, by lia, hTl, hTR, ?_⟩
  rw [hcov]
  intro lc lcs H9 e9 _ _ hlc hlcp
  have hrl9 := e9 _ _ (e715 _ _ hrl7)
  have hrw9 : Paired (fun a r => H9 a = some (.lst ((r : List Int).map V.int))) (tn j las) (tn j rows) := Paired.mapP (j0 j hrows) fun _ _ z => e9 _ _ (e415 _ _ (e4 _ _ z))
  refine ⟨_, rfl, gh (some (tn j rows)), gh (some (tn j rows)), xq hlc hlcp, xq hrl9 hrw9, fj _, fj _, _, rfl, iteN (SeqAt.eqv_refl _ (fj _).1) ?_⟩
  refine ⟨_, rfl, _, rfl, _, rfl, d2, h, tt, bf m "nil", cs, fs, tn j ps, rfl, e9 _ _ hd8, hH8.same e9, by lia, hTl.same e9, hTR, fun H10 e10 => ?_⟩
  rw [hfits]
  refine ⟨true, true, rfl, rfl, _, rfl, iteF ?_⟩
  have e410 := e415.trans (e9.trans e10)
  have e310 := e4.trans e410
  have hN10 := e310 _ _ hN3
  have hfl10 := e410 _ _ hfl4
  have hpl10 := e10 _ _ (e9 _ _ (e715 _ _ hpl7))
  obtain ⟨hp, hh3, hcells⟩ := hH3
  have hh10 := e310 _ _ hh3
  have hcov0 : bc m cs fs ps = some rows := ox (List.all_eq_true.mpr hfh) hpart hnd
  have hknd : (hp.map (·.1)).Nodup := a49 hcells hnd hlen (wm hcov0)
  have hpcl : hp.length = cs.length := Paired.length hcells
  have hok10 : CellsOk K H10 hp := fun p hpm => by
    obtain ⟨i, hi, rfl⟩ := List.getElem_of_mem hpm
    obtain ⟨c, _, hc⟩ := Paired.nth hcells (List.getElem?_eq_getElem hi)
    exact ⟨_, _, e310.seqT hc.2⟩
  have dis : BD nl fl pl2 h := ⟨(fun z => by rw [z] at hh3; rw [hh3] at hfl0; cases hfl0), (fun z => by rw [z, hpl10] at hh10; cases hh10), (fun z => by rw [z, hpl2n] at hfl4; cases hfl4), (fun z => by rw [z, hfl0] at hN3; cases hN3), (fun z => by have := e4 _ _ hN3; rw [z, hpl2n] at this; cases this), hnh⟩
  have htl : (tn j pas).length = pas.length := (nv j pas).length_eq
  have B0 : BI K H10 nl fl pl2 h xs 5 59 H10 := ⟨(Same.refl _).kp _, hN10, ⟨fas, hfl10, by lia, qo (Paired.mapP hfp fun _ _ z => e410.seqT z) (W := FactOf (xs ++ [("nil" : Str)])) hfo⟩, ⟨tn j pas, hpl10, by lia, qo (Paired.mapP (j0 j hpp) fun _ _ z => e310.seqT z) hpo2⟩, hp, hh10, hok10, hknd, by lia⟩
  refine ⟨_, rfl, a, ns, 12, rfl, e310.seq hS3, _, rfl, _, rfl, _, rfl, _, rfl, ap ns 12, nl, fl, pl2, h, xs, rfl, hx8, hxn, dis, B0, fun H11 B11 => ?_⟩
  obtain ⟨hp4, q1, q2, q3, q4⟩ := B11.heap
  obtain ⟨fas4, f1, f2, f3⟩ := B11.facts
  obtain ⟨pas4, p1, p2, p3⟩ := B11.parts
  obtain ⟨fs4, r1, r2⟩ := mx f3
  obtain ⟨ps4, r3, r4⟩ := mx p3
  have hl1 := Paired.length r1
  have hl2 := Paired.length r3
  have hdfl : d ≠ fl := fun z => by rw [← z, hd3] at hfl0; cases hfl0
  have hdpl : d ≠ pl2 := fun z => by have := e4 _ _ hd3; rw [z, hpl2n] at this; cases this
  have kf : Kp (· = d) H H11 := fun b o hb hn => B11.kp b o (e310 _ _ (k23 b o (e2 _ _ hb) hn)) fun z => by
    have hb2 := e2 _ _ hb
    have hb3 := k23 b o hb2 hn
    rcases z with z | z | z
    · rw [z, hfl0] at hb3; cases hb3
    · have hb4 := e4 _ _ hb3; rw [z, hpl2n] at hb4; cases hb4
    · rw [z, hh] at hb2; cases hb2
  have hd11 : H11 d = some (.dK (dv m)) := B11.kp d _ (e310 _ _ hd3) fun z => by
    rcases z with z | z | z
    · exact hdfl z
    · exact hdpl z
    · exact hdh z
  refine ⟨_, rfl, _, rfl, _, rfl, (show 3 ≤ sizeLine by decide), fun t2 ht2 => ?_⟩
  have s16 := ad ht2 (.tup [.ref h, .ref fl, .ref pl2])
  exact q t2 h fl pl2 xs m hp4 fs4 ps4 _ (kf.trans (s16.kp _)) aa (s16 _ _ hd11) (by lia) hx8 hxn hin hnil ⟨s16 _ _ q1, q2.same s16, q3, q4, ⟨fas4, s16 _ _ f1, Paired.mapP r1 fun _ _ z => s16.seqT z⟩, ⟨pas4, s16 _ _ p1, Paired.mapP r3 fun _ _ z => s16.seqT z⟩, r2, r4, by lia, by lia⟩
end
end K13
namespace K13
open PySem PySem.Spec L2 Mir
noncomputable abbrev sLaw : Stmt := top 35
theorem i0 {α β : Type} {R : α → β → Prop} : ∀ {xs : List α} {ys : List β}, Paired R xs ys → Paired R xs.reverse ys.reverse
  | _, _, .nil => .nil
  | _, _, .cons h t => by rw [List.reverse_cons, List.reverse_cons]; exact Paired.snocP (i0 t) h
theorem qw {m : List (Str × Int)} {cs : ar} {fs ps : List (List Str)} {rows : List (List Int)} (h : bc m cs fs ps = some rows) : bc m cs fs.reverse ps.reverse = some rows.reverse := by
  obtain ⟨h1, h2, h3⟩ := j5 h
  refine ox (by rw [List.all_reverse]; exact h1) (i0 h2) ?_
  exact ((List.reverse_perm rows).flatten).nodup_iff.mpr h3
theorem a2f (m : List (Str × Int)) (cs : ar) (fs ps : List (List Str)) : fk m cs fs.reverse ps.reverse = fk m cs fs ps := by
  cases h : bc m cs fs ps with
  | some rows =>
    rw [nc h, nc (qw h), ((List.reverse_perm rows).flatten).length_eq]
  | none =>
    rw [ll h]
    refine ll ?_
    cases h2 : bc m cs fs.reverse ps.reverse with
    | none => rfl
    | some rows =>
      have := qw h2
      rw [List.reverse_reverse, List.reverse_reverse, h] at this
      cases this
inductive tMadeXS (K : PySem.W.Frag) (D : Ends) (σ : St) (H : Hp) : Prop
  | mk (a d : Addr) (ns : List Int) (h0 : σ = [some (.ref a), some (.ref d), none, none, none, none, none, none, none, none, none, none]) (h1 : SqL K H a (ns.map V.int)) (h2 : H d = some (.dK (dv []))) (h3 : ∀ t h fl pl xs m hp fs ps H', H' t = some (.tup [.ref h, .ref fl, .ref pl]) → H' d = some (.dK (dv m)) → m.length ≤ 40 → (xs : List Str).length = 8 → (∀ x ∈ xs, NameG x) → (∀ x ∈ xs ++ [("nil" : Str)], (lkI m x).isSome = true) → lkI m "nil" = some 0 → Made K H' h fl pl (xs ++ [("nil" : Str)]) hp fs ps → D.nx [some (.ref a), some (.ref d), some (.ref t), none, none, none, none, none, none, none, none, none] H') : tMadeXS K D σ H
noncomputable def a6f (K : PySem.W.Frag) : TS := fun D σ H => tMadeXS K D σ H
inductive tPassS (D : Ends) (σ : St) (H : Hp) : Prop
  | mk (v : V) (b : Bool) (h0 : σ[7]? = some (some v)) (h1 : σ[10]? = some (some (.bl b))) (h2 : (v = .non → b = false)) (h3 : D.nx σ H) : tPassS D σ H
noncomputable def a6p : TS := fun D σ H => tPassS D σ H
inductive tSumS (K : PySem.W.Frag) (D : Ends) (σ : St) (H : Hp) : Prop
  | mk (h : Addr) (o : Option (List (List Int))) (v : V) (b : Bool) (hp : List (Int × Addr)) (h0 : σ[3]? = some (some (.ref h))) (h1 : σ[7]? = some (some v)) (h2 : σ[10]? = some (some (.bl b))) (h3 : σ[11]? = some none) (h4 : H h = some (.dK (hv hp))) (h5 : RowsF H H o v) (h6 : (∀ rows, o = some rows → rows.length ≤ 6 ∧ (∀ r ∈ rows, r.length ≤ 600) ∧ b = decide (rows.flatten.length = hp.length))) (h7 : ∀ z H', Same H H' → D.nx (σ.set 11 z) H') : tSumS K D σ H
noncomputable def tSum (K : PySem.W.Frag) : TS := fun D σ H => tSumS K D σ H
section
variable {P : Program} {w : World} {K : PySem.W.Frag} {mg : Str → Option Value} {base : Heap} {f gC gA gG gD gV gF : Addr} {fd dC dA dG dD dV dF : FuncData}
theorem scLaw : FnScope ["_law_script", "_law_values", "_law_made", "_law_heap", "_law_facts_here", "_law_parts", "_law_handed", "_law_due_here", "_law_kept", "_law_found", "_law_fit", "_law_many"] ["_law_script"] (ak sLaw) := ⟨rfl, rfl, rfl, by decide +kernel, rfl, by decide +kernel, by decide +kernel⟩
theorem a5u (C : Con K mg w) (F : Fun K "law" "law" sLaw f fd) (GC : FnOk P w K mg base CX0 1 gC dC ["_law_script", "_law_k"] (jk K)) (cC : Cal K mg "_law_cell_at" gC dC ["_law_script", "_law_k"])
    (GA : FnOk P w K mg base CX0 4 gA dA ["_law_script", "_law_values"] (a3z K)) (cA : Cal K mg "_law_any" gA dA ["_law_script", "_law_values"])
    (GG : FnOk P w K mg base CX0 7 gG dG ["_law_script", "_law_values"] (y8 K)) (cG : Cal K mg "_law_grown" gG dG ["_law_script", "_law_values"])
    (GD : FnOk P w K mg base CX0 6 gD dD ["_law_values", "_law_handed", "_law_heap", "_law_facts_here", "_law_parts"] (a3q K)) (cD : Cal K mg "_law_due" gD dD ["_law_values", "_law_handed", "_law_heap", "_law_facts_here", "_law_parts"])
    (GV : FnOk P w K mg base (CXE P w base) 5 gV dV ["values", "heap", "telling"] (jf K)) (cV : Cal K mg "cover" gV dV ["values", "heap", "telling"])
    (GF : FnOk P w K mg base (CXE P w base) 6 gF dF ["values", "heap", "telling"] (ue K)) (cF : Cal K mg "fits" gF dF ["values", "heap", "telling"]) : FnOk P w K mg base CX0 8 f fd ["_law_script"] (su K) := by
  refine F.okQ scLaw (fun vs H Q E h => ?_) (fun cdv A outer s H vs Q E hr h => ?_)
  · obtain ⟨a, ns, rfl, _⟩ := h; rfl
  obtain ⟨a, ns, rfl, hS, q⟩ := h
  have nd := scLaw.nd
  have hr1 := hr.mono (j := 1) (by lia)
  have hr4 := hr.mono (j := 4) (by lia)
  have hr5 := hr.mono (j := 5) (by lia)
  have hr6 := hr.mono (j := 6) (by lia)
  have hu1 := dw hr
  have hu := Nat.lt_of_le_of_lt (Nat.add_le_add_left (show 32 ≤ 64 by decide) _) hr.units
  refine ⟨_, ae (al (i := 1) nd rfl (Or.inl rfl) ib)
    (ae (cu (t' := a6f K) (bd (av bn (ai b0 (ao GC hr1 rfl cC.name cC.keep cC.bind .nil aw (af (qv 0) (b8 ac))) ag) ag (au _)) (am (al (i := 2) nd rfl (Or.inl rfl) (ao GA hr4 rfl cA.name cA.keep cA.bind .nil aw (af (qv 0) (af (qv 1) ac))))) (am (al (i := 2) nd rfl (Or.inl rfl) (ao GG hr rfl cG.name cG.keep cG.bind .nil aw (af (qv 0) (af (qv 1) ac)))))) (fun D σ H1 hh => by
      obtain ⟨a, d, ns, rfl, hS, hD, go⟩ := hh
      refine ⟨_, rfl, a, ns, 0, rfl, hS, _, _, rfl, rfl, (show (0 : Int) < 2 by decide), rfl, _, rfl, iteB (fun _ => ?_) (fun _ => ?_)⟩
      · exact ⟨_, rfl, _, rfl, a, d, ns, rfl, hS, hD, fun t h fl pl xs m hp fs ps H' k hh hf hp' ht hd hm hx8' hxn' hin hz M d1 d2 d3 => go t h fl pl xs m hp fs ps H' ht hd (by lia) hx8' hxn' hin hz M⟩
      · exact ⟨_, rfl, _, rfl, a, d, ns, rfl, hS, hD, fun t h fl pl xs m hp fs ps H' k ht hd hm hx8' hxn' hin hz M => go t h fl pl xs m hp fs ps H' ht hd hm hx8' hxn' hin hz M⟩))
    (ae (bd (av vo (qv 2) d9 (au _)) (am (az kt)) b9)
    (ae (fh (qv 2) (qe (ba (i := 3) nd rfl (Or.inl rfl)) (ba (i := 4) nd rfl (Or.inl rfl)) (ba (i := 5) nd rfl (Or.inl rfl))))
    (ae (al (i := 6) nd rfl (Or.inl rfl) (bt iu rfl C.dict PyProof.Rows.boot_dict (af (qv 1) ac)))
    (ae (bi (ot (qv 6) cb))
    (ae (al (i := 7) nd rfl (Or.inl rfl) (ao GD hr6 rfl cD.name cD.keep cD.bind .nil aw (af (qv 1) (af (qv 6) (af (qv 3) (af (qv 4) (af (qv 5) ac)))))))
    (ae (jv (al (i := 8) nd rfl (Or.inl rfl) (ay (bh (bt iu rfl C.dict PyProof.Rows.boot_dict (af (qv 6) ac)) (bh (bt iu rfl C.dict PyProof.Rows.boot_dict (af (qv 3) ac)) (bh (bt gf rfl C.list PyProof.Rows.boot_list (af (qv 4) ac)) (bh (bt gf rfl C.list PyProof.Rows.boot_list (af (qv 5) ac)) ac)))))))
    (ae (al (i := 9) nd rfl (Or.inl rfl) (ao GV hr5 rfl cV.name cV.keep cV.bind .nil o0 (af (qv 6) (af (qv 3) (fu (af (qv 4) (af (qv 5) ac)) ac)))))
    (ae (bd (QW.qt (my (av (neDk (K := K) rfl hu) (qv 9) (qv 7) (au _)) (jo (av (a62 hu) (ay (af (qv 6) (af (qv 3) (af (qv 4) (af (qv 5) ac))))) (qv 8) (au _))))) (am (az kt)) b9)
    (ae (jv (al (i := 10) nd rfl (Or.inl rfl) (ao GF hr6 rfl cF.name cF.keep cF.bind .nil o0 (af (qv 6) (af (qv 3) (fu (af (qv 4) (af (qv 5) ac)) ac))))))
    (ae (cu (t' := a6p) (bd (QW.qt (my (md (jz (b7 wo rfl C.isi PyProof.Rows.boot_isinstance (af (qv 10) (af ⟨gty C.bool PyProof.Rows.boot_bool⟩ ac))))) (jo (QW.qt (gw (av vo (qv 7) d9 (au _)) (gb (jz (qv 10)))))))) (am (az kt)) b9) (fun D σ H1 hh => by
      obtain ⟨v, b, h7, h10, hb, go⟩ := hh
      refine ⟨_, h10, b, rfl, _, rfl, iteF ?_⟩
      refine ⟨_, h7, rfl, _, rfl, iteB (fun c => ?_) (fun c => ?_)⟩
      · have := hb (of_decide_eq_true c)
        subst this
        exact ⟨_, h10, _, rfl, iteF go⟩
      · exact go))
    (ae (cu (t' := tSum K) (bd (av xu (qv 7) d9 (au _)) (ae (al (i := 11) nd rfl (Or.inl rfl) (b7 (lj rfl) rfl C.sum PyProof.Rows.boot_sum (fv (vm (dn (K := K) rfl (qv 7)) (fun _ _ _ _ => ga) (fun _ _ _ _ => (b7 (lenK (K := K) rfl) rfl C.len PySem.boot_len (af (qv 0) ac)))) ac)))
    (am (bd (av pg (qv 10) (de bn (qv 11) (b7 mo rfl C.len PySem.boot_len (af (qv 3) ac)) (au _)) (au _)) (am (az kt)) b9))) b9) (fun D σ H1 hh => by
      obtain ⟨h, o, v, b, hp, h3, h7, h10, h11, hh, hv7, hb, go⟩ := hh
      refine ⟨_, h7, rfl, _, rfl, ?_⟩
      rcases hv7 with ⟨rfl, rfl⟩ | ⟨l, las, rows, rfl, rfl, hl, hlp⟩
      · refine iteF ?_
        have := go none H1 (Same.refl _)
        rw [kz h11] at this
        exact this
      · refine iteT ?_
        obtain ⟨b1, b2, b3⟩ := hb rows rfl
        have hll : las.length = rows.length := Paired.length hlp
        refine ⟨_, h7, l, rfl, ⟨_, SqL.of hl⟩, ?_⟩
        refine j8 (las.map V.ref) (rows.map fun r => V.int (r.length : Int)) gx (SqL.of hl) (by rw [List.length_map]; exact Nat.le_trans (show las.length ≤ 1000 by lia) (by decide)) (by rw [List.length_map, List.length_map, hll]) (fun i x y hx hy H2 e2 Q' q' => ?_) fun D1 H2 hD1 e2 hd1 => ?_
        · obtain ⟨c, hc, rfl⟩ := gv hx
          obtain ⟨r, hr1', hr2'⟩ := Paired.nth hlp hc
          rw [List.getElem?_map, hr1'] at hy
          have hy' : y = .int (r.length : Int) := (Option.some.inj hy).symm
          subst hy'
          have := q' H2 (Same.refl _)
          refine ⟨_, rfl, c, _, rfl, .inl (SqL.of (e2 _ _ hr2')), ?_⟩
          rw [List.length_map]
          exact this
        refine ⟨D1, rows.map (fun r => (r.length : Int)), rfl, SqL.of (by rw [hd1, List.map_map]; rfl), fun n hn => ?_, by rw [List.length_map]; lia, ?_⟩
        · obtain ⟨r, hr', rfl⟩ := List.mem_map.mp hn
          have := b2 r hr'
          lia
        have hsum : (rows.map fun r => (r.length : Int)).sum = ((rows.flatten.length : Nat) : Int) := by
          clear b3 hlp hll b1 b2 hl hd1 hb
          induction rows with
          | nil => rfl
          | cons r l ih => rw [List.map_cons, List.sum_cons, ih, List.flatten_cons, List.length_append]; lia
        rw [hsum]
        have hlt : 11 < σ.length := (List.getElem?_eq_some_iff.mp h11).1
        have g10 : (σ.set 11 (some (V.int (rows.flatten.length : Int))))[10]? = some (some (.bl b)) := by rw [List.getElem?_set_ne (by decide)]; exact h10
        have g3 : (σ.set 11 (some (V.int (rows.flatten.length : Int))))[3]? = some (some (.ref h)) := by rw [List.getElem?_set_ne (by decide)]; exact h3
        have g11 : (σ.set 11 (some (V.int (rows.flatten.length : Int))))[11]? = some (some (V.int (rows.flatten.length : Int))) := List.getElem?_set_self hlt
        refine ⟨_, g10, _, g11, _, g3, h, _, rfl, e2 _ _ hh, rfl, ?_⟩
        have eb : decide (V.int (rows.flatten.length : Int) = V.int ((hv hp).length : Int)) = b := by
          rw [b3]
          unfold hv
          rw [List.length_map]
          simp only [V.int.injEq]
          congr 1
          apply propext
          lia
        rw [eb]
        refine ⟨rfl, _, rfl, iteN (decide_eq_true rfl) ?_⟩
        exact go _ _ e2))
    (am (az (de bn (ao GF hr6 rfl cF.name cF.keep cF.bind .nil o0 (af (qv 6) (af (qv 3) (fu (ax (ua (qv 4)) (ax (ua (qv 5)) ac)) ac)))) (qv 10) (au _)))))))))))))))), ?_⟩
  intro d hd
  have s1 := ad hd (.dK (dv []))
  refine ⟨a, d, ns, rfl, s1.seq hS, aa, fun t h fl pl xs m hp fs ps H2 ht hd2 hm2 hx8 hxn hin hnil M => ?_⟩
  refine ⟨_, rfl, rfl, _, rfl, iteF ?_⟩
  refine ⟨_, rfl, t, _, rfl, SqT.of ht, rfl, _, _, rfl, _, _, rfl, _, _, rfl, rfl, ?_⟩
  refine ⟨_, rfl, d, _, rfl, hd2, fun d2 hd2n => ?_⟩
  refine ⟨_, rfl, d2, rfl, .inl ⟨_, .inl aa⟩, _, Sum.inr "nil", .int 0, aa, rfl, (by rw [et, hnil]; rfl), ?_⟩
  rw [tu, eu]
  have s3 := ad hd2n (.dK (dv (bf m "nil")))
  have hd3 : (upd H2 d2 (.dK (dv (bf m "nil")))) d2 = some (.dK (dv (bf m "nil"))) := aa
  generalize upd H2 d2 (.dK (dv (bf m "nil"))) = H3 at s3 hd3 ⊢
  obtain ⟨cs, hcs, hcl⟩ := M.cells.cells
  have hHA : HeapAt K H3 h cs := ⟨hp, s3 _ _ M.heap, hcs.same s3⟩
  have hfew := M.few
  have hF3 := M.facts.same s3
  have hP3 := M.parts.same s3
  have hTR : TellR (bf m "nil") fs ps := me hxn hx8 (fun x hx _ => by rw [jw, if_neg (hxn x hx).nil]; exact hin x (List.mem_append.mpr (.inl hx))) M.fof M.pof M.f8 M.p6
  have hnum : ∀ r ∈ fs, ∀ y ∈ r.drop 1, lkI m y = some (num (bf m "nil") y) := fun r hr y hy => by
    rw [uc]
    obtain ⟨k, u, v, rfl, _, h1, h2⟩ := M.fof r hr
    have hy' : y ∈ xs ++ [("nil" : Str)] := by
      simp only [List.drop_succ_cons, List.drop_zero, List.mem_cons, List.not_mem_nil, or_false] at hy
      rcases hy with rfl | rfl
      · exact h1
      · exact h2
    obtain ⟨n, hn⟩ := Option.isSome_iff_exists.mp (hin y hy')
    rw [hn, fg hnil hn]
  refine ⟨_, rfl, _, rfl, _, rfl, _, rfl, _, rfl, d, d2, h, fl, pl, m, bf m "nil", cs, fs, ps, rfl, s3 _ _ hd2, hd3, hHA, by lia, hF3, hP3, hTR, hnum, GivesR.introF fun v7 H4 e4 hv4 => ?_⟩
  generalize ho : bc (bf m "nil") cs fs ps = o at hv4
  have hd4 := e4 _ _ hd3
  have hh4 := e4 _ _ (s3 _ _ M.heap)
  obtain ⟨fas, hfl3, hfp⟩ := hF3
  obtain ⟨pas, hpl3, hpp⟩ := hP3
  have hfl4 := e4 _ _ hfl3
  have hpl4 := e4 _ _ hpl3
  refine ⟨_, rfl, d2, _, rfl, hd4, fun k1 hk1 => ?_⟩
  have t1 := ad hk1 (.dK (dv (bf m "nil")))
  refine ⟨_, rfl, h, _, rfl, t1 _ _ hh4, fun k2 hk2 => ?_⟩
  have t2 := ad hk2 (.dK (hv hp))
  have t12 := t1.trans t2
  refine ⟨_, rfl, fl, _, rfl, .inl (SqL.of (t12 _ _ hfl4)), fun k3 hk3 => ?_⟩
  have t3 := ad hk3 (.lst (fas.map V.ref))
  have t13 := t12.trans t3
  refine ⟨_, rfl, pl, _, rfl, .inl (SqL.of (t13 _ _ hpl4)), fun k4 hk4 => ?_⟩
  have t4 := ad hk4 (.lst (pas.map V.ref))
  refine ⟨(show 4 ≤ sizeLine by decide), fun kl hkl => ?_⟩
  have t5 := ad hkl (.lst [.ref k1, .ref k2, .ref k3, .ref k4])
  have e45 := t13.trans (t4.trans t5)
  intro τ eτ
  obtain rfl : τ = [some (.ref a), some (.ref d), some (.ref t), some (.ref h), some (.ref fl), some (.ref pl), some (.ref d2), some v7, some (.ref kl), none, none, none] := eτ
  have hk5 : (upd (upd (upd (upd (upd H4 k1 (.dK (dv (bf m "nil")))) k2 (.dK (hv hp))) k3 (.lst (fas.map V.ref))) k4 (.lst (pas.map V.ref))) kl (.lst [.ref k1, .ref k2, .ref k3, .ref k4])) kl = some (.lst [.ref k1, .ref k2, .ref k3, .ref k4]) := aa
  have hk1 := t5 _ _ (t4 _ _ (t3 _ _ (t2 _ _ (show (upd H4 k1 (.dK (dv (bf m "nil")))) k1 = _ from aa))))
  have hk2 := t5 _ _ (t4 _ _ (t3 _ _ (show (upd (upd H4 k1 (.dK (dv (bf m "nil")))) k2 (.dK (hv hp))) k2 = _ from aa)))
  have hk3 := t5 _ _ (t4 _ _ (show (upd (upd (upd H4 k1 (.dK (dv (bf m "nil")))) k2 (.dK (hv hp))) k3 (.lst (fas.map V.ref))) k3 = _ from aa))
  have hk4 := t5 _ _ (show (upd (upd (upd (upd H4 k1 (.dK (dv (bf m "nil")))) k2 (.dK (hv hp))) k3 (.lst (fas.map V.ref))) k4 (.lst (pas.map V.ref))) k4 = _ from aa)
  have hd1n : d2 ≠ k1 := aj hd4 (by assumption)
  have hh2n : h ≠ k2 := aj (t1 _ _ hh4) (by assumption)
  generalize upd (upd (upd (upd (upd H4 k1 (.dK (dv (bf m "nil")))) k2 (.dK (hv hp))) k3 (.lst (fas.map V.ref))) k4 (.lst (pas.map V.ref))) kl (.lst [.ref k1, .ref k2, .ref k3, .ref k4]) = H5 at e45 hk1 hk2 hk3 hk4 hk5 ⊢
  clear t1 t2 t12 t3 t13 t4 t5
  have e35 := e4.trans e45
  have hfp5 : ∀ {H' : Hp}, Same H3 H' → Paired (fun b r => RowAt K H' b r) fas fs := fun e => Paired.mapP hfp fun _ _ z => e.seqT z
  have hpp5 : ∀ {H' : Hp}, Same H3 H' → Paired (fun b r => RowAt K H' b r) pas ps := fun e => Paired.mapP hpp fun _ _ z => e.seqT z
  have mkT : ∀ {H' : Hp} {tt : Addr}, Same H3 H' → H' tt = none → TellAt K (upd H' tt (.tup [.ref fl, .ref pl])) tt [fs, ps] := fun {H' tt} e ht => by
    have s := ad ht (.tup [.ref fl, .ref pl])
    exact ⟨[fl, pl], SqT.of aa, .cons ⟨fas, s _ _ (e _ _ hfl3), hfp5 (e.trans s)⟩ (.cons ⟨pas, s _ _ (e _ _ hpl3), hpp5 (e.trans s)⟩ .nil)⟩
  refine ⟨_, rfl, _, rfl, _, rfl, _, rfl, (show 2 ≤ sizeLine by decide), fun tt htt => ?_⟩
  have s6 := ad htt (.tup [.ref fl, .ref pl])
  have e36 := e35.trans s6
  refine ⟨d2, h, tt, bf m "nil", cs, fs, ps, rfl, e36 _ _ hd3, hHA.same e36, by lia, mkT e35 htt, hTR, ?_⟩
  rw [ho]
  refine GivesR.introF fun v9 H7 e7 hv9 => ?_
  have e57 := s6.trans e7
  have e37 := e35.trans e57
  have hv7' : ∀ {H' : Hp}, Same H5 H' → RowsF H' H' o v7 := fun {H'} e => by
    rcases hv4 with ⟨h1, h2⟩ | ⟨l, las, rows, h1, h2, h3, h4⟩
    · exact .inl ⟨h1, h2⟩
    · exact .inr ⟨l, las, rows, h1, h2, e _ _ (e45 _ _ h3), Paired.mapP h4 fun _ _ z => e _ _ (e45 _ _ z)⟩
  refine ⟨_, rfl, _, rfl, gh o, gh o, hv9.dp (fun _ _ z => z), (hv7' e57).dp (fun _ _ z => z), fj _, fj _, _, rfl, iteN (SeqAt.eqv_refl _ (fj _).1) ?_⟩
  refine ⟨_, rfl, _, rfl, _, rfl, _, rfl, (show 4 ≤ sizeLine by decide), fun ql hql => ?_⟩
  have s8 := ad hql (.lst [.ref d2, .ref h, .ref fl, .ref pl])
  have e58 := e57.trans s8
  have e38 := e37.trans s8
  refine ⟨_, rfl, ql, kl, _, _, rfl, rfl, aa, e58 _ _ hk5, ?_, _, rfl, iteF ?_⟩
  · have okw := tm hxn
    refine .cons (.inr (.inl ⟨d2, k1, _, rfl, rfl, hd1n, e38 _ _ hd3, e58 _ _ hk1, fun z hz => ?_⟩)) (.cons (.inr (.inl ⟨h, k2, _, rfl, rfl, hh2n, e38 _ _ (s3 _ _ M.heap), e58 _ _ hk2, fun z hz => ?_⟩)) (.cons (.inr (.inr ⟨.list (fs.map dRow), RowsAt.dp ⟨fas, e38 _ _ hfl3, hfp5 e38⟩, RowsAt.dp ⟨fas, e58 _ _ hk3, hfp5 e38⟩, la fun r hr => (FactOf.ok (M.fof r hr) okw)⟩)) (.cons (.inr (.inr ⟨.list (ps.map dRow), RowsAt.dp ⟨pas, e38 _ _ hpl3, hpp5 e38⟩, RowsAt.dp ⟨pas, e58 _ _ hk4, hpp5 e38⟩, la fun r hr => (PartOf.ok (M.pof r hr) okw)⟩)) .nil)))
    · unfold dv at hz
      obtain ⟨p, _, rfl⟩ := List.mem_map.mp hz
      rfl
    · unfold hv at hz
      obtain ⟨p, _, rfl⟩ := List.mem_map.mp hz
      rfl
  generalize upd H7 ql (.lst [.ref d2, .ref h, .ref fl, .ref pl]) = H8 at s8 e58 e38 ⊢
  refine ⟨_, rfl, _, rfl, _, rfl, _, rfl, (show 2 ≤ sizeLine by decide), fun tt2 htt2 => ?_⟩
  have s9 := ad htt2 (.tup [.ref fl, .ref pl])
  have e39 := e38.trans s9
  refine ⟨d2, h, tt2, bf m "nil", cs, fs, ps, rfl, e39 _ _ hd3, hHA.same e39, by lia, mkT e38 htt2, hTR, fun H10 e10 => ?_⟩
  have e510 := e58.trans (s9.trans e10)
  have e310 := e39.trans e10
  generalize hbf : fk (bf m "nil") cs fs ps = b
  intro τ eτ
  obtain rfl : τ = [some (.ref a), some (.ref d), some (.ref t), some (.ref h), some (.ref fl), some (.ref pl), some (.ref d2), some v7, some (.ref kl), some v9, some (.bl b), none] := eτ
  have hbn : o = none → b = false := fun z => by rw [← hbf, ll (ho.trans z)]
  have hv10 := hv7' e510
  refine ⟨v7, b, rfl, rfl, fun z => ?_, ?_⟩
  · rcases hv10 with ⟨h1, _⟩ | ⟨_, _, _, _, h2, _⟩
    · exact hbn h1
    · rw [z] at h2; cases h2
  have hpl : hp.length = cs.length := hcl.symm
  refine ⟨h, o, v7, b, hp, rfl, rfl, rfl, rfl, e310 _ _ (s3 _ _ M.heap), hv10, fun rows hrows => ?_, fun z H11 e11 => ?_⟩
  · have hc := ho.trans hrows
    obtain ⟨_, h2, _⟩ := j5 hc
    have hl := Paired.length h2
    have h6 := M.p6
    refine ⟨by lia, fun r hr => ?_, ?_⟩
    · obtain ⟨i, hi, rfl⟩ := List.getElem_of_mem hr
      have hi' : i < ps.length := by lia
      obtain ⟨y, hy1, hy2⟩ := Paired.nth h2 (List.getElem?_eq_getElem hi')
      rw [List.getElem?_eq_getElem hi] at hy1
      have := Option.some.inj hy1
      subst this
      have := (gz hy2).len
      lia
    · rw [← hbf, nc hc, hpl]
  have e311 := e310.trans e11
  refine ⟨_, rfl, _, rfl, _, rfl, fl, _, rfl, SqL.of (e311 _ _ hfl3), fun r1 hr1' => ?_⟩
  have u1 := ad hr1' (.lst (fas.map V.ref).reverse)
  refine ⟨_, rfl, pl, _, rfl, SqL.of (u1 _ _ (e311 _ _ hpl3)), fun r2 hr2' => ?_⟩
  have u2 := ad hr2' (.lst (pas.map V.ref).reverse)
  refine ⟨(show 2 ≤ sizeLine by decide), fun t3 ht3 => ?_⟩
  have u3 := ad ht3 (.tup [.ref r1, .ref r2])
  have e3u := e311.trans (u1.trans (u2.trans u3))
  have hTl : TellAt K (upd (upd (upd H11 r1 (.lst (fas.map V.ref).reverse)) r2 (.lst (pas.map V.ref).reverse)) t3 (.tup [.ref r1, .ref r2])) t3 [fs.reverse, ps.reverse] :=
    ⟨[r1, r2], SqT.of aa, .cons ⟨fas.reverse, by rw [List.map_reverse]; exact u3 _ _ (u2 _ _ aa), i0 (hfp5 e3u)⟩ (.cons ⟨pas.reverse, by rw [List.map_reverse]; exact u3 _ _ aa, i0 (hpp5 e3u)⟩ .nil)⟩
  have hTR2 : TellR (bf m "nil") fs.reverse ps.reverse := me hxn hx8 (fun x hx _ => by rw [jw, if_neg (hxn x hx).nil]; exact hin x (List.mem_append.mpr (.inl hx))) (fun r hr => M.fof r (List.mem_reverse.mp hr)) (fun r hr => M.pof r (List.mem_reverse.mp hr)) (by rw [List.length_reverse]; exact M.f8) (by rw [List.length_reverse]; exact M.p6)
  refine ⟨d2, h, t3, bf m "nil", cs, fs.reverse, ps.reverse, rfl, e3u _ _ hd3, hHA.same e3u, by lia, hTl, hTR2, fun H12 e12 => ?_⟩
  rw [a2f, hbf]
  refine ⟨_, rfl, rfl, ?_⟩
  rw [decide_eq_true rfl]
  exact q _
end
end K13
namespace K13
open PySem PySem.Spec L2 Mir
theorem a2m {K : PySem.W.Frag} {h : Heap} {mg : Str → Option Value} {x : Str} {a : Addr} (X : K.In h) (G : h.Ns mainGlobals mg) (e : PySem.W.nsIn K mainGlobals x = some (some (.ref a))) : Glob mg x (.ref a) := ⟨_, PySem.W.mg_of X G e, rfl⟩
theorem us1 {us : List Value} (h : us.length = 1) : ∃ a, us = [a] := by
  cases us with
  | nil => cases h
  | cons a us =>
  cases us with
  | nil => exact ⟨a, rfl⟩
  | cons z us => simp at h
theorem us2 {us : List Value} (h : us.length = 2) : ∃ a b, us = [a, b] := by
  cases us with
  | nil => cases h
  | cons a us =>
  cases us with
  | nil => cases h
  | cons b us =>
  cases us with
  | nil => exact ⟨a, b, rfl⟩
  | cons z us => simp at h
theorem us3 {us : List Value} (h : us.length = 3) : ∃ a b c, us = [a, b, c] := by
  cases us with
  | nil => cases h
  | cons a us =>
  cases us with
  | nil => cases h
  | cons b us =>
  cases us with
  | nil => cases h
  | cons c us =>
  cases us with
  | nil => exact ⟨a, b, c, rfl⟩
  | cons z us => simp at h
theorem us4 {us : List Value} (h : us.length = 4) : ∃ a b c d, us = [a, b, c, d] := by
  cases us with
  | nil => cases h
  | cons a us =>
  cases us with
  | nil => cases h
  | cons b us =>
  cases us with
  | nil => cases h
  | cons c us =>
  cases us with
  | nil => cases h
  | cons d us =>
  cases us with
  | nil => exact ⟨a, b, c, d, rfl⟩
  | cons z us => simp at h
theorem us5 {us : List Value} (h : us.length = 5) : ∃ a b c d e, us = [a, b, c, d, e] := by
  cases us with
  | nil => cases h
  | cons a us =>
  cases us with
  | nil => cases h
  | cons b us =>
  cases us with
  | nil => cases h
  | cons c us =>
  cases us with
  | nil => cases h
  | cons d us =>
  cases us with
  | nil => cases h
  | cons e us =>
  cases us with
  | nil => exact ⟨a, b, c, d, e, rfl⟩
  | cons z us => simp at h
theorem us6 {us : List Value} (h : us.length = 6) : ∃ a b c d e f, us = [a, b, c, d, e, f] := by
  cases us with
  | nil => cases h
  | cons a us =>
  cases us with
  | nil => cases h
  | cons b us =>
  cases us with
  | nil => cases h
  | cons c us =>
  cases us with
  | nil => cases h
  | cons d us =>
  cases us with
  | nil => cases h
  | cons e us =>
  cases us with
  | nil => cases h
  | cons f us =>
  cases us with
  | nil => exact ⟨a, b, c, d, e, f, rfl⟩
  | cons z us => simp at h
theorem all_mk {l : PySem.W.OpenLaw} {w : World} {K : PySem.W.Frag} {h : Heap} {mg : Str → Option Value} {fa f1 f2 f3 f4 f5 f6 f7 f8 f9 f10 f11 f12 f13 f14 f15 f16 f17 f18 f19 f20 f21 f22 f23 f24 f25 f26 f27 f28 f29 : Addr} (X : K.In h) (G : h.Ns mainGlobals mg) (hfa : mg "law" = some (.ref fa))
    {od1 an1 od2 an2 od3 an3 od4 an4 od5 an5 od6 an6 od7 an7 od8 an8 od9 an9 od10 an10 od11 an11 od12 an12 od13 an13 od14 an14 od15 an15 od16 an16 od17 an17 od18 an18 od19 an19 od20 an20 od21 an21 od22 an22 od23 an23 od24 an24 od25 an25 od26 an26 od27 an27 od28 an28 od29 an29 : Option Addr} {sl1 sl2 sl3 sl4 sl5 sl6 sl7 sl8 sl9 sl10 sl11 sl12 sl13 sl14 sl15 sl16 sl17 sl18 sl19 sl20 sl21 sl22 sl23 sl24 sl25 sl26 sl27 sl28 sl29 : Array (Option Value)} {oc1 kV1 dc1 pm1 cd1 ct1 oc2 kV2 dc2 pm2 cd2 ct2 oc3 kV3 dc3 pm3 cd3 ct3 oc4 kV4 dc4 pm4 cd4 ct4 oc5 kV5 dc5 pm5 cd5 ct5 oc6 kV6 dc6 pm6 cd6 ct6 oc7 kV7 dc7 pm7 cd7 ct7 oc8 kV8 dc8 pm8 cd8 ct8 oc9 kV9 dc9 pm9 cd9 ct9 oc10 kV10 dc10 pm10 cd10 ct10 oc11 kV11 dc11 pm11 cd11 ct11 oc12 kV12 dc12 pm12 cd12 ct12 oc13 kV13 dc13 pm13 cd13 ct13 oc14 kV14 dc14 pm14 cd14 ct14 oc15 kV15 dc15 pm15 cd15 ct15 oc16 kV16 dc16 pm16 cd16 ct16 oc17 kV17 dc17 pm17 cd17 ct17 oc18 kV18 dc18 pm18 cd18 ct18 oc19 kV19 dc19 pm19 cd19 ct19 oc20 kV20 dc20 pm20 cd20 ct20 oc21 kV21 dc21 pm21 cd21 ct21 oc22 kV22 dc22 pm22 cd22 ct22 oc23 kV23 dc23 pm23 cd23 ct23 oc24 kV24 dc24 pm24 cd24 ct24 oc25 kV25 dc25 pm25 cd25 ct25 oc26 kV26 dc26 pm26 cd26 ct26 oc27 kV27 dc27 pm27 cd27 ct27 oc28 kV28 dc28 pm28 cd28 ct28 oc29 kV29 dc29 pm29 cd29 ct29 : Value}
    (a1 : PySem.W.nsIn K mainGlobals "names_of" = some (some (.ref f1))) (l1 : K.lookup f1 = some ⟨oc1, od1, .func (PySem.W.fnOf "names_of" "names_of" (bb gt) (b6 gt) (ak gt) .none kV1 dc1 pm1 an1 cd1 ct1), sl1⟩) (c1 : PySem.W.codeIn K cd1 "names_of" = true) (k1 : PySem.W.keepIn K (.ref f1) = true)
    (a2 : PySem.W.nsIn K mainGlobals "check_values" = some (some (.ref f2))) (l2 : K.lookup f2 = some ⟨oc2, od2, .func (PySem.W.fnOf "check_values" "check_values" (bb ia) (b6 ia) (ak ia) .none kV2 dc2 pm2 an2 cd2 ct2), sl2⟩) (c2 : PySem.W.codeIn K cd2 "check_values" = true) (k2 : PySem.W.keepIn K (.ref f2) = true)
    (a3 : PySem.W.nsIn K mainGlobals "number_of" = some (some (.ref f3))) (l3 : K.lookup f3 = some ⟨oc3, od3, .func (PySem.W.fnOf "number_of" "number_of" (bb sNum) (b6 sNum) (ak sNum) .none kV3 dc3 pm3 an3 cd3 ct3), sl3⟩) (c3 : PySem.W.codeIn K cd3 "number_of" = true) (k3 : PySem.W.keepIn K (.ref f3) = true)
    (a4 : PySem.W.nsIn K mainGlobals "holds" = some (some (.ref f4))) (l4 : K.lookup f4 = some ⟨oc4, od4, .func (PySem.W.fnOf "holds" "holds" (bb je) (b6 je) (ak je) .none kV4 dc4 pm4 an4 cd4 ct4), sl4⟩) (c4 : PySem.W.codeIn K cd4 "holds" = true) (k4 : PySem.W.keepIn K (.ref f4) = true)
    (a5 : PySem.W.nsIn K mainGlobals "may_be" = some (some (.ref f5))) (l5 : K.lookup f5 = some ⟨oc5, od5, .func (PySem.W.fnOf "may_be" "may_be" (bb sMay) (b6 sMay) (ak sMay) .none kV5 dc5 pm5 an5 cd5 ct5), sl5⟩) (c5 : PySem.W.codeIn K cd5 "may_be" = true) (k5 : PySem.W.keepIn K (.ref f5) = true)
    (a6 : PySem.W.nsIn K mainGlobals "cell_taken" = some (some (.ref f6))) (l6 : K.lookup f6 = some ⟨oc6, od6, .func (PySem.W.fnOf "cell_taken" "cell_taken" (bb j9) (b6 j9) (ak j9) .none kV6 dc6 pm6 an6 cd6 ct6), sl6⟩) (c6 : PySem.W.codeIn K cd6 "cell_taken" = true) (k6 : PySem.W.keepIn K (.ref f6) = true)
    (a7 : PySem.W.nsIn K mainGlobals "stretch_taken" = some (some (.ref f7))) (l7 : K.lookup f7 = some ⟨oc7, od7, .func (PySem.W.fnOf "stretch_taken" "stretch_taken" (bb fz) (b6 fz) (ak fz) .none kV7 dc7 pm7 an7 cd7 ct7), sl7⟩) (c7 : PySem.W.codeIn K cd7 "stretch_taken" = true) (k7 : PySem.W.keepIn K (.ref f7) = true)
    (a8 : PySem.W.nsIn K mainGlobals "tree_taken" = some (some (.ref f8))) (l8 : K.lookup f8 = some ⟨oc8, od8, .func (PySem.W.fnOf "tree_taken" "tree_taken" (bb jq) (b6 jq) (ak jq) .none kV8 dc8 pm8 an8 cd8 ct8), sl8⟩) (c8 : PySem.W.codeIn K cd8 "tree_taken" = true) (k8 : PySem.W.keepIn K (.ref f8) = true)
    (a9 : PySem.W.nsIn K mainGlobals "part_taken" = some (some (.ref f9))) (l9 : K.lookup f9 = some ⟨oc9, od9, .func (PySem.W.fnOf "part_taken" "part_taken" (bb jd) (b6 jd) (ak jd) .none kV9 dc9 pm9 an9 cd9 ct9), sl9⟩) (c9 : PySem.W.codeIn K cd9 "part_taken" = true) (k9 : PySem.W.keepIn K (.ref f9) = true)
    (a10 : PySem.W.nsIn K mainGlobals "cover" = some (some (.ref f10))) (l10 : K.lookup f10 = some ⟨oc10, od10, .func (PySem.W.fnOf "cover" "cover" (bb ji) (b6 ji) (ak ji) .none kV10 dc10 pm10 an10 cd10 ct10), sl10⟩) (c10 : PySem.W.codeIn K cd10 "cover" = true) (k10 : PySem.W.keepIn K (.ref f10) = true)
    (a11 : PySem.W.nsIn K mainGlobals "fits" = some (some (.ref f11))) (l11 : K.lookup f11 = some ⟨oc11, od11, .func (PySem.W.fnOf "fits" "fits" (bb n0) (b6 n0) (ak n0) .none kV11 dc11 pm11 an11 cd11 ct11), sl11⟩) (c11 : PySem.W.codeIn K cd11 "fits" = true) (k11 : PySem.W.keepIn K (.ref f11) = true)
    (a12 : PySem.W.nsIn K mainGlobals "_law_cell_at" = some (some (.ref f12))) (l12 : K.lookup f12 = some ⟨oc12, od12, .func (PySem.W.fnOf "_law_cell_at" "_law_cell_at" (bb nt) (b6 nt) (ak nt) .none kV12 dc12 pm12 an12 cd12 ct12), sl12⟩) (c12 : PySem.W.codeIn K cd12 "_law_cell_at" = true) (k12 : PySem.W.keepIn K (.ref f12) = true)
    (a13 : PySem.W.nsIn K mainGlobals "_law_stream" = some (some (.ref f13))) (l13 : K.lookup f13 = some ⟨oc13, od13, .func (PySem.W.fnOf "_law_stream" "_law_stream" (bb ie) (b6 ie) (ak ie) .none kV13 dc13 pm13 an13 cd13 ct13), sl13⟩) (c13 : PySem.W.codeIn K cd13 "_law_stream" = true) (k13 : PySem.W.keepIn K (.ref f13) = true)
    (a14 : PySem.W.nsIn K mainGlobals "_law_digit" = some (some (.ref f14))) (l14 : K.lookup f14 = some ⟨oc14, od14, .func (PySem.W.fnOf "_law_digit" "_law_digit" (bb ja) (b6 ja) (ak ja) .none kV14 dc14 pm14 an14 cd14 ct14), sl14⟩) (c14 : PySem.W.codeIn K cd14 "_law_digit" = true) (k14 : PySem.W.keepIn K (.ref f14) = true)
    (a15 : PySem.W.nsIn K mainGlobals "_law_name" = some (some (.ref f15))) (l15 : K.lookup f15 = some ⟨oc15, od15, .func (PySem.W.fnOf "_law_name" "_law_name" (bb ni) (b6 ni) (ak ni) .none kV15 dc15 pm15 an15 cd15 ct15), sl15⟩) (c15 : PySem.W.codeIn K cd15 "_law_name" = true) (k15 : PySem.W.keepIn K (.ref f15) = true)
    (a16 : PySem.W.nsIn K mainGlobals "_law_number" = some (some (.ref f16))) (l16 : K.lookup f16 = some ⟨oc16, od16, .func (PySem.W.fnOf "_law_number" "_law_number" (bb ny) (b6 ny) (ak ny) .none kV16 dc16 pm16 an16 cd16 ct16), sl16⟩) (c16 : PySem.W.codeIn K cd16 "_law_number" = true) (k16 : PySem.W.keepIn K (.ref f16) = true)
    (a17 : PySem.W.nsIn K mainGlobals "_law_any_heap" = some (some (.ref f17))) (l17 : K.lookup f17 = some ⟨oc17, od17, .func (PySem.W.fnOf "_law_any_heap" "_law_any_heap" (bb gu) (b6 gu) (ak gu) .none kV17 dc17 pm17 an17 cd17 ct17), sl17⟩) (c17 : PySem.W.codeIn K cd17 "_law_any_heap" = true) (k17 : PySem.W.keepIn K (.ref f17) = true)
    (a18 : PySem.W.nsIn K mainGlobals "_law_any_parts" = some (some (.ref f18))) (l18 : K.lookup f18 = some ⟨oc18, od18, .func (PySem.W.fnOf "_law_any_parts" "_law_any_parts" (bb fw) (b6 fw) (ak fw) .none kV18 dc18 pm18 an18 cd18 ct18), sl18⟩) (c18 : PySem.W.codeIn K cd18 "_law_any_parts" = true) (k18 : PySem.W.keepIn K (.ref f18) = true)
    (a19 : PySem.W.nsIn K mainGlobals "_law_any" = some (some (.ref f19))) (l19 : K.lookup f19 = some ⟨oc19, od19, .func (PySem.W.fnOf "_law_any" "_law_any" (bb sAny) (b6 sAny) (ak sAny) .none kV19 dc19 pm19 an19 cd19 ct19), sl19⟩) (c19 : PySem.W.codeIn K cd19 "_law_any" = true) (k19 : PySem.W.keepIn K (.ref f19) = true)
    (a20 : PySem.W.nsIn K mainGlobals "_law_names" = some (some (.ref f20))) (l20 : K.lookup f20 = some ⟨oc20, od20, .func (PySem.W.fnOf "_law_names" "_law_names" (bb jg) (b6 jg) (ak jg) .none kV20 dc20 pm20 an20 cd20 ct20), sl20⟩) (c20 : PySem.W.codeIn K cd20 "_law_names" = true) (k20 : PySem.W.keepIn K (.ref f20) = true)
    (a21 : PySem.W.nsIn K mainGlobals "_law_tree" = some (some (.ref f21))) (l21 : K.lookup f21 = some ⟨oc21, od21, .func (PySem.W.fnOf "_law_tree" "_law_tree" (bb n9) (b6 n9) (ak n9) .none kV21 dc21 pm21 an21 cd21 ct21), sl21⟩) (c21 : PySem.W.codeIn K cd21 "_law_tree" = true) (k21 : PySem.W.keepIn K (.ref f21) = true)
    (a22 : PySem.W.nsIn K mainGlobals "_law_row" = some (some (.ref f22))) (l22 : K.lookup f22 = some ⟨oc22, od22, .func (PySem.W.fnOf "_law_row" "_law_row" (bb sRow) (b6 sRow) (ak sRow) .none kV22 dc22 pm22 an22 cd22 ct22), sl22⟩) (c22 : PySem.W.codeIn K cd22 "_law_row" = true) (k22 : PySem.W.keepIn K (.ref f22) = true)
    (a23 : PySem.W.nsIn K mainGlobals "_law_laid" = some (some (.ref f23))) (l23 : K.lookup f23 = some ⟨oc23, od23, .func (PySem.W.fnOf "_law_laid" "_law_laid" (bb nb) (b6 nb) (ak nb) .none kV23 dc23 pm23 an23 cd23 ct23), sl23⟩) (c23 : PySem.W.codeIn K cd23 "_law_laid" = true) (k23 : PySem.W.keepIn K (.ref f23) = true)
    (a24 : PySem.W.nsIn K mainGlobals "_law_built" = some (some (.ref f24))) (l24 : K.lookup f24 = some ⟨oc24, od24, .func (PySem.W.fnOf "_law_built" "_law_built" (bb js) (b6 js) (ak js) .none kV24 dc24 pm24 an24 cd24 ct24), sl24⟩) (c24 : PySem.W.codeIn K cd24 "_law_built" = true) (k24 : PySem.W.keepIn K (.ref f24) = true)
    (a25 : PySem.W.nsIn K mainGlobals "_law_facts" = some (some (.ref f25))) (l25 : K.lookup f25 = some ⟨oc25, od25, .func (PySem.W.fnOf "_law_facts" "_law_facts" (bb ii) (b6 ii) (ak ii) .none kV25 dc25 pm25 an25 cd25 ct25), sl25⟩) (c25 : PySem.W.codeIn K cd25 "_law_facts" = true) (k25 : PySem.W.keepIn K (.ref f25) = true)
    (a26 : PySem.W.nsIn K mainGlobals "_law_bent" = some (some (.ref f26))) (l26 : K.lookup f26 = some ⟨oc26, od26, .func (PySem.W.fnOf "_law_bent" "_law_bent" (bb nu) (b6 nu) (ak nu) .none kV26 dc26 pm26 an26 cd26 ct26), sl26⟩) (c26 : PySem.W.codeIn K cd26 "_law_bent" = true) (k26 : PySem.W.keepIn K (.ref f26) = true)
    (a27 : PySem.W.nsIn K mainGlobals "_law_due" = some (some (.ref f27))) (l27 : K.lookup f27 = some ⟨oc27, od27, .func (PySem.W.fnOf "_law_due" "_law_due" (bb sDue) (b6 sDue) (ak sDue) .none kV27 dc27 pm27 an27 cd27 ct27), sl27⟩) (c27 : PySem.W.codeIn K cd27 "_law_due" = true) (k27 : PySem.W.keepIn K (.ref f27) = true)
    (a28 : PySem.W.nsIn K mainGlobals "_law_grown" = some (some (.ref f28))) (l28 : K.lookup f28 = some ⟨oc28, od28, .func (PySem.W.fnOf "_law_grown" "_law_grown" (bb jh) (b6 jh) (ak jh) .none kV28 dc28 pm28 an28 cd28 ct28), sl28⟩) (c28 : PySem.W.codeIn K cd28 "_law_grown" = true) (k28 : PySem.W.keepIn K (.ref f28) = true)
    (a29 : PySem.W.nsIn K mainGlobals "law" = some (some (.ref f29))) (l29 : K.lookup f29 = some ⟨oc29, od29, .func (PySem.W.fnOf "law" "law" (bb sLaw) (b6 sLaw) (ak sLaw) .none kV29 dc29 pm29 an29 cd29 ct29), sl29⟩) (c29 : PySem.W.codeIn K cd29 "law" = true) (k29 : PySem.W.keepIn K (.ref f29) = true)
    (z1 : PySem.W.nsIn K mainGlobals "len" = some none)
    (z2 : PySem.W.nsIn K mainGlobals "all" = some none)
    (z3 : PySem.W.nsIn K mainGlobals "isinstance" = some none)
    (z4 : PySem.W.nsIn K mainGlobals "list" = some none)
    (z5 : PySem.W.nsIn K mainGlobals "int" = some none)
    (z6 : PySem.W.nsIn K mainGlobals "bool" = some none)
    (z7 : PySem.W.nsIn K mainGlobals "dict" = some none)
    (z8 : PySem.W.nsIn K mainGlobals "sorted" = some none)
    (z9 : PySem.W.nsIn K mainGlobals "set" = some none)
    (z10 : PySem.W.nsIn K mainGlobals "sum" = some none)
    (z11 : PySem.W.nsIn K mainGlobals "range" = some none)
    (z12 : PySem.W.nsIn K mainGlobals "tuple" = some none)
    (z13 : PySem.W.nsIn K mainGlobals "max" = some none)
    (z14 : PySem.W.nsIn K mainGlobals "zip" = some none)
    {aN : Addr} {oN : Obj} {itN : Array Value} {nN : Nat}
    (gN : PySem.W.nsIn K mainGlobals "NO_NAMES" = some (some (.ref aN))) (lN : K.lookup aN = some oN) (cN : oN.cls = .type "tuple") (dN : oN.data = .seq itN nN) (sN : itN.size ≤ 100) (vN : Vals (Mir.noNames.map V.str) itN.toList)
    {E2 : Addr} (x2 : PySem.W.nsIn K mainGlobals "NoValue" = some (some (.ref E2)))
    (xe : PySem.W.excIn K E2 [.type "ValueError", .type "Exception", .type "BaseException", .type "object"] "ValueError.__new__" = true) :
    ∃ fd : FuncData, (∀ (s : Shared) (v : Value), BindsTo s fd ⟨[v], []⟩ [("_law_script", v)]) ∧ ∀ base : Heap, K.In base → base.Ns mainGlobals mg → FnOk l.prog w K mg base CX0 8 fa fd ["_law_script"] (su K) := by
  have e := hfa.symm.trans (PySem.W.mg_of X G a29)
  cases e
  have F1 := bo (st := gt) l1 c1 k1
  have B1 := F1.binds (ps := ["telling"]) fun _ _ _ _ _ _ us hl => by obtain ⟨a, rfl⟩ := us1 hl; rfl
  have C1 : Cal K mg "names_of" f1 _ ["telling"] := ⟨PySem.W.mg_of X G a1, k1, B1⟩
  have F2 := bo (st := ia) l2 c2 k2
  have B2 := F2.binds (ps := ["values", "telling"]) fun _ _ _ _ _ _ us hl => by obtain ⟨a, b, rfl⟩ := us2 hl; rfl
  have C2 : Cal K mg "check_values" f2 _ ["values", "telling"] := ⟨PySem.W.mg_of X G a2, k2, B2⟩
  have F3 := bo (st := sNum) l3 c3 k3
  have B3 := F3.binds (ps := ["values", "word"]) fun _ _ _ _ _ _ us hl => by obtain ⟨a, b, rfl⟩ := us2 hl; rfl
  have C3 : Cal K mg "number_of" f3 _ ["values", "word"] := ⟨PySem.W.mg_of X G a3, k3, B3⟩
  have F4 := bo (st := je) l4 c4 k4
  have B4 := F4.binds (ps := ["values", "fact"]) fun _ _ _ _ _ _ us hl => by obtain ⟨a, b, rfl⟩ := us2 hl; rfl
  have C4 : Cal K mg "holds" f4 _ ["values", "fact"] := ⟨PySem.W.mg_of X G a4, k4, B4⟩
  have F5 := bo (st := sMay) l5 c5 k5
  have B5 := F5.binds (ps := ["values", "word", "number"]) fun _ _ _ _ _ _ us hl => by obtain ⟨a, b, c, rfl⟩ := us3 hl; rfl
  have C5 : Cal K mg "may_be" f5 _ ["values", "word", "number"] := ⟨PySem.W.mg_of X G a5, k5, B5⟩
  have F6 := bo (st := j9) l6 c6 k6
  have B6 := F6.binds (ps := ["values", "heap", "part"]) fun _ _ _ _ _ _ us hl => by obtain ⟨a, b, c, rfl⟩ := us3 hl; rfl
  have C6 : Cal K mg "cell_taken" f6 _ ["values", "heap", "part"] := ⟨PySem.W.mg_of X G a6, k6, B6⟩
  have F7 := bo (st := fz) l7 c7 k7
  have B7 := F7.binds (ps := ["heap", "place", "end"]) fun _ _ _ _ _ _ us hl => by obtain ⟨a, b, c, rfl⟩ := us3 hl; rfl
  have C7 : Cal K mg "stretch_taken" f7 _ ["heap", "place", "end"] := ⟨PySem.W.mg_of X G a7, k7, B7⟩
  have F8 := bo (st := jq) l8 c8 k8
  have B8 := F8.binds (ps := ["heap", "top"]) fun _ _ _ _ _ _ us hl => by obtain ⟨a, b, rfl⟩ := us2 hl; rfl
  have C8 : Cal K mg "tree_taken" f8 _ ["heap", "top"] := ⟨PySem.W.mg_of X G a8, k8, B8⟩
  have F9 := bo (st := jd) l9 c9 k9
  have B9 := F9.binds (ps := ["values", "heap", "part"]) fun _ _ _ _ _ _ us hl => by obtain ⟨a, b, c, rfl⟩ := us3 hl; rfl
  have C9 : Cal K mg "part_taken" f9 _ ["values", "heap", "part"] := ⟨PySem.W.mg_of X G a9, k9, B9⟩
  have F10 := bo (st := ji) l10 c10 k10
  have B10 := F10.binds (ps := ["values", "heap", "telling"]) fun _ _ _ _ _ _ us hl => by obtain ⟨a, b, c, rfl⟩ := us3 hl; rfl
  have C10 : Cal K mg "cover" f10 _ ["values", "heap", "telling"] := ⟨PySem.W.mg_of X G a10, k10, B10⟩
  have F11 := bo (st := n0) l11 c11 k11
  have B11 := F11.binds (ps := ["values", "heap", "telling"]) fun _ _ _ _ _ _ us hl => by obtain ⟨a, b, c, rfl⟩ := us3 hl; rfl
  have C11 : Cal K mg "fits" f11 _ ["values", "heap", "telling"] := ⟨PySem.W.mg_of X G a11, k11, B11⟩
  have F12 := bo (st := nt) l12 c12 k12
  have B12 := F12.binds (ps := ["_law_script", "_law_k"]) fun _ _ _ _ _ _ us hl => by obtain ⟨a, b, rfl⟩ := us2 hl; rfl
  have C12 : Cal K mg "_law_cell_at" f12 _ ["_law_script", "_law_k"] := ⟨PySem.W.mg_of X G a12, k12, B12⟩
  have F13 := bo (st := ie) l13 c13 k13
  have B13 := F13.binds (ps := ["_law_cell", "_law_many"]) fun _ _ _ _ _ _ us hl => by obtain ⟨a, b, rfl⟩ := us2 hl; rfl
  have C13 : Cal K mg "_law_stream" f13 _ ["_law_cell", "_law_many"] := ⟨PySem.W.mg_of X G a13, k13, B13⟩
  have F14 := bo (st := ja) l14 c14 k14
  have B14 := F14.binds (ps := ["_law_digits", "_law_many"]) fun _ _ _ _ _ _ us hl => by obtain ⟨a, b, rfl⟩ := us2 hl; rfl
  have C14 : Cal K mg "_law_digit" f14 _ ["_law_digits", "_law_many"] := ⟨PySem.W.mg_of X G a14, k14, B14⟩
  have F15 := bo (st := ni) l15 c15 k15
  have B15 := F15.binds (ps := ["_law_cell"]) fun _ _ _ _ _ _ us hl => by obtain ⟨a, rfl⟩ := us1 hl; rfl
  have C15 : Cal K mg "_law_name" f15 _ ["_law_cell"] := ⟨PySem.W.mg_of X G a15, k15, B15⟩
  have F16 := bo (st := ny) l16 c16 k16
  have B16 := F16.binds (ps := ["_law_digits", "_law_spots"]) fun _ _ _ _ _ _ us hl => by obtain ⟨a, b, rfl⟩ := us2 hl; rfl
  have C16 : Cal K mg "_law_number" f16 _ ["_law_digits", "_law_spots"] := ⟨PySem.W.mg_of X G a16, k16, B16⟩
  have F17 := bo (st := gu) l17 c17 k17
  have B17 := F17.binds (ps := ["_law_script"]) fun _ _ _ _ _ _ us hl => by obtain ⟨a, rfl⟩ := us1 hl; rfl
  have C17 : Cal K mg "_law_any_heap" f17 _ ["_law_script"] := ⟨PySem.W.mg_of X G a17, k17, B17⟩
  have F18 := bo (st := fw) l18 c18 k18
  have B18 := F18.binds (ps := ["_law_digits", "_law_names_here"]) fun _ _ _ _ _ _ us hl => by obtain ⟨a, b, rfl⟩ := us2 hl; rfl
  have C18 : Cal K mg "_law_any_parts" f18 _ ["_law_digits", "_law_names_here"] := ⟨PySem.W.mg_of X G a18, k18, B18⟩
  have F19 := bo (st := sAny) l19 c19 k19
  have B19 := F19.binds (ps := ["_law_script", "_law_values"]) fun _ _ _ _ _ _ us hl => by obtain ⟨a, b, rfl⟩ := us2 hl; rfl
  have C19 : Cal K mg "_law_any" f19 _ ["_law_script", "_law_values"] := ⟨PySem.W.mg_of X G a19, k19, B19⟩
  have F20 := bo (st := jg) l20 c20 k20
  have B20 := F20.binds (ps := ["_law_base", "_law_place", "_law_many"]) fun _ _ _ _ _ _ us hl => by obtain ⟨a, b, c, rfl⟩ := us3 hl; rfl
  have C20 : Cal K mg "_law_names" f20 _ ["_law_base", "_law_place", "_law_many"] := ⟨PySem.W.mg_of X G a20, k20, B20⟩
  have F21 := bo (st := n9) l21 c21 k21
  have B21 := F21.binds (ps := ["_law_xs", "_law_spots", "_law_heap"]) fun _ _ _ _ _ _ us hl => by obtain ⟨a, b, c, rfl⟩ := us3 hl; rfl
  have C21 : Cal K mg "_law_tree" f21 _ ["_law_xs", "_law_spots", "_law_heap"] := ⟨PySem.W.mg_of X G a21, k21, B21⟩
  have F22 := bo (st := sRow) l22 c22 k22
  have B22 := F22.binds (ps := ["_law_heap", "_law_top"]) fun _ _ _ _ _ _ us hl => by obtain ⟨a, b, rfl⟩ := us2 hl; rfl
  have C22 : Cal K mg "_law_row" f22 _ ["_law_heap", "_law_top"] := ⟨PySem.W.mg_of X G a22, k22, B22⟩
  have F23 := bo (st := nb) l23 c23 k23
  have B23 := F23.binds (ps := ["_law_cell", "_law_k", "_law_names_here", "_law_values", "_law_heap", "_law_spots"]) fun _ _ _ _ _ _ us hl => by obtain ⟨a, b, c, d, e, f, rfl⟩ := us6 hl; rfl
  have C23 : Cal K mg "_law_laid" f23 _ ["_law_cell", "_law_k", "_law_names_here", "_law_values", "_law_heap", "_law_spots"] := ⟨PySem.W.mg_of X G a23, k23, B23⟩
  have F24 := bo (st := js) l24 c24 k24
  have B24 := F24.binds (ps := ["_law_script", "_law_names_here", "_law_values", "_law_heap"]) fun _ _ _ _ _ _ us hl => by obtain ⟨a, b, c, d, rfl⟩ := us4 hl; rfl
  have C24 : Cal K mg "_law_built" f24 _ ["_law_script", "_law_names_here", "_law_values", "_law_heap"] := ⟨PySem.W.mg_of X G a24, k24, B24⟩
  have F25 := bo (st := ii) l25 c25 k25
  have B25 := F25.binds (ps := ["_law_script", "_law_names_here", "_law_values"]) fun _ _ _ _ _ _ us hl => by obtain ⟨a, b, c, rfl⟩ := us3 hl; rfl
  have C25 : Cal K mg "_law_facts" f25 _ ["_law_script", "_law_names_here", "_law_values"] := ⟨PySem.W.mg_of X G a25, k25, B25⟩
  have F26 := bo (st := nu) l26 c26 k26
  have B26 := F26.binds (ps := ["_law_cell", "_law_names_here", "_law_facts_here", "_law_parts", "_law_heap"]) fun _ _ _ _ _ _ us hl => by obtain ⟨a, b, c, d, e, rfl⟩ := us5 hl; rfl
  have C26 : Cal K mg "_law_bent" f26 _ ["_law_cell", "_law_names_here", "_law_facts_here", "_law_parts", "_law_heap"] := ⟨PySem.W.mg_of X G a26, k26, B26⟩
  have F27 := bo (st := sDue) l27 c27 k27
  have B27 := F27.binds (ps := ["_law_values", "_law_handed", "_law_heap", "_law_facts_here", "_law_parts"]) fun _ _ _ _ _ _ us hl => by obtain ⟨a, b, c, d, e, rfl⟩ := us5 hl; rfl
  have C27 : Cal K mg "_law_due" f27 _ ["_law_values", "_law_handed", "_law_heap", "_law_facts_here", "_law_parts"] := ⟨PySem.W.mg_of X G a27, k27, B27⟩
  have F28 := bo (st := jh) l28 c28 k28
  have B28 := F28.binds (ps := ["_law_script", "_law_values"]) fun _ _ _ _ _ _ us hl => by obtain ⟨a, b, rfl⟩ := us2 hl; rfl
  have C28 : Cal K mg "_law_grown" f28 _ ["_law_script", "_law_values"] := ⟨PySem.W.mg_of X G a28, k28, B28⟩
  have F29 := bo (st := sLaw) l29 c29 k29
  have C : Con K mg w := {
    noNames := ⟨aN, a2m X G gN, fun _ => .inr ⟨oN, itN, nN, lN, cN, dN, Nat.le_trans sN (by decide), vN⟩⟩
    len := PySem.W.mg_none_of X G z1
    all := PySem.W.mg_none_of X G z2
    isi := PySem.W.mg_none_of X G z3
    list := PySem.W.mg_none_of X G z4
    int := PySem.W.mg_none_of X G z5
    bool := PySem.W.mg_none_of X G z6
    dict := PySem.W.mg_none_of X G z7
    sorted := PySem.W.mg_none_of X G z8
    set := PySem.W.mg_none_of X G z9
    sum := PySem.W.mg_none_of X G z10
    range := PySem.W.mg_none_of X G z11
    tuple := PySem.W.mg_none_of X G z12
    max := PySem.W.mg_none_of X G z13
    zip := PySem.W.mg_none_of X G z14 }
  have NE : ErrC K mg "NoValue" E2 := ⟨PySem.W.mg_of X G x2, xe⟩
  refine ⟨PySem.W.fnOf "law" "law" (bb sLaw) (b6 sLaw) (ak sLaw) .none kV29 dc29 pm29 an29 cd29 ct29, fun s v => .of_eq rfl, fun base _ _ => ?_⟩
  have O1 := yf (P := l.prog) (base := base) C F1
  have O2 := zy C F2 O1 C1 NE
  have O3 := a56 (P := l.prog) (w := w) (mg := mg) (base := base) F3
  have O4 := a2u F4 O3 C3
  have O5 := a5r F5 O3 C3
  have O6 := a2j F6 O3 C3 O5 C5
  have O7 := wp (P := l.prog) (base := base) C F7
  have O8 := a2q (P := l.prog) (base := base) C F8
  have O9 := a1t F9 O3 C3 O6 C6 O7 C7 O8 C8
  have O10 := a1s C F10 O2 C2 O4 C4 O9 C9
  have O11 := a4v C F11 O10 C10
  have O12 := a0i (P := l.prog) (base := base) C F12
  have O13 := a0n (P := l.prog) (base := base) C F13
  have O14 := a2w (P := l.prog) (w := w) (mg := mg) (base := base) F14
  have O15 := a4g C F15 O14 C14
  have O16 := a50 C F16 O14 C14
  have O17 := zg C F17 O12 C12 O14 C14 O16 C16
  have O18 := wc C F18 O14 C14
  have O19 := a6e C F19 O12 C12 O15 C15 O17 C17 O16 C16 O14 C14 O18 C18
  have O20 := a0w (P := l.prog) (base := base) C F20
  have O21 := a37 (P := l.prog) (base := base) C F21
  have O22 := a4k (P := l.prog) (base := base) C F22
  have O23 := a1u C F23 O13 C13 O21 C21 O22 C22
  have O24 := a0z C F24 O12 C12 O23 C23
  have O25 := a0u (P := l.prog) (base := base) C F25
  have O26 := a4m (P := l.prog) (base := base) C F26
  have O27 := a54 C F27 O10 C10
  have O28 := a31 C F28 O12 C12 O20 C20 O24 C24 O25 C25 O26 C26 O10 C10 O11 C11
  exact a5u C F29 O12 C12 O19 C19 O28 C28 O27 C27 O10 C10 O11 C11
theorem walk {l : PySem.W.OpenLaw} {q : Program} {loose : List Str} {XP : (Str → Option Value) → Heap → Prop} {YP : World → Heap → Prop} {d : DefRec} {K : Params → PySem.W.Frag} (hn : l.most = some 63) (hdf : d.params.defaults = [])
    (hY : ∀ (w : World) (h : Heap), YP w h → (K w.params).In h)
    (F : ∀ (w : World) (mg : Str → Option Value) (fa : Addr) (h : Heap), (K w.params).In h → h.Ns mainGlobals mg → mg d.name = some (.ref fa) →
      ∃ fd : FuncData, (∀ (s : Shared) (u : Value), BindsTo s fd ⟨[u], []⟩ [("_law_script", u)]) ∧ ∀ base : Heap, (K w.params).In base → base.Ns mainGlobals mg → FnOk l.prog w (K w.params) mg base CX0 8 fa fd ["_law_script"] (su (K w.params))) :
    PySem.W.WalkO q loose XP YP l.row.toRowW d [] (fun f vs => PySem.call f vs) :=
  L2.walk_of (n := 63) (k := 8) (x := "_law_script") (CX := fun _ => CX0) (sp := fun w => su (K w.params)) hn (by decide) hdf ⟨rfl, by decide, by decide⟩ hY F (fun _ _ a ns hl _ hS => ⟨a, ns, rfl, hS, fun _ => rfl⟩) fun _ _ _ _ _ z => z
end K13
open PySem PySem.W PyProof.Rows
set_option maxRecDepth 100000 in
set_option maxHeartbeats 0 in
theorem PySem.Challenge.cw_apart_k13_parts_apart_holds : PySem.Challenge.rw_apart_k13_parts_apart.Holds := by
  w_on; o_law; k_head; (case hw => w_witness2)
  k_fill
  refine K13.walk (l := PySem.Challenge.rw_apart_k13_parts_apart) rfl rfl (fun w h Y => PySem.W.kIn_of Y) ?F
  case F =>
    intro w mg fa h KX G hmg
    refine' K13.all_mk KX G hmg ?a1 ?l1 ?c1 ?k1 ?a2 ?l2 ?c2 ?k2 ?a3 ?l3 ?c3 ?k3 ?a4 ?l4 ?c4 ?k4 ?a5 ?l5 ?c5 ?k5 ?a6 ?l6 ?c6 ?k6 ?a7 ?l7 ?c7 ?k7 ?a8 ?l8 ?c8 ?k8 ?a9 ?l9 ?c9 ?k9 ?a10 ?l10 ?c10 ?k10 ?a11 ?l11 ?c11 ?k11 ?a12 ?l12 ?c12 ?k12 ?a13 ?l13 ?c13 ?k13 ?a14 ?l14 ?c14 ?k14 ?a15 ?l15 ?c15 ?k15 ?a16 ?l16 ?c16 ?k16 ?a17 ?l17 ?c17 ?k17 ?a18 ?l18 ?c18 ?k18 ?a19 ?l19 ?c19 ?k19 ?a20 ?l20 ?c20 ?k20 ?a21 ?l21 ?c21 ?k21 ?a22 ?l22 ?c22 ?k22 ?a23 ?l23 ?c23 ?k23 ?a24 ?l24 ?c24 ?k24 ?a25 ?l25 ?c25 ?k25 ?a26 ?l26 ?c26 ?k26 ?a27 ?l27 ?c27 ?k27 ?a28 ?l28 ?c28 ?k28 ?a29 ?l29 ?c29 ?k29 ?z1 ?z2 ?z3 ?z4 ?z5 ?z6 ?z7 ?z8 ?z9 ?z10 ?z11 ?z12 ?z13 ?z14 ?gN ?lN ?cN ?dN ?sN ?vN ?x2 ?xe
    (case a1 => k_is)
    (case l1 => k_is)
    (case c1 => k_is)
    (case k1 => k_is)
    (case a2 => k_is)
    (case l2 => k_is)
    (case c2 => k_is)
    (case k2 => k_is)
    (case a3 => k_is)
    (case l3 => k_is)
    (case c3 => k_is)
    (case k3 => k_is)
    (case a4 => k_is)
    (case l4 => k_is)
    (case c4 => k_is)
    (case k4 => k_is)
    (case a5 => k_is)
    (case l5 => k_is)
    (case c5 => k_is)
    (case k5 => k_is)
    (case a6 => k_is)
    (case l6 => k_is)
    (case c6 => k_is)
    (case k6 => k_is)
    (case a7 => k_is)
    (case l7 => k_is)
    (case c7 => k_is)
    (case k7 => k_is)
    (case a8 => k_is)
    (case l8 => k_is)
    (case c8 => k_is)
    (case k8 => k_is)
    (case a9 => k_is)
    (case l9 => k_is)
    (case c9 => k_is)
    (case k9 => k_is)
    (case a10 => k_is)
    (case l10 => k_is)
    (case c10 => k_is)
    (case k10 => k_is)
    (case a11 => k_is)
    (case l11 => k_is)
    (case c11 => k_is)
    (case k11 => k_is)
    (case a12 => k_is)
    (case l12 => k_is)
    (case c12 => k_is)
    (case k12 => k_is)
    (case a13 => k_is)
    (case l13 => k_is)
    (case c13 => k_is)
    (case k13 => k_is)
    (case a14 => k_is)
    (case l14 => k_is)
    (case c14 => k_is)
    (case k14 => k_is)
    (case a15 => k_is)
    (case l15 => k_is)
    (case c15 => k_is)
    (case k15 => k_is)
    (case a16 => k_is)
    (case l16 => k_is)
    (case c16 => k_is)
    (case k16 => k_is)
    (case a17 => k_is)
    (case l17 => k_is)
    (case c17 => k_is)
    (case k17 => k_is)
    (case a18 => k_is)
    (case l18 => k_is)
    (case c18 => k_is)
    (case k18 => k_is)
    (case a19 => k_is)
    (case l19 => k_is)
    (case c19 => k_is)
    (case k19 => k_is)
    (case a20 => k_is)
    (case l20 => k_is)
    (case c20 => k_is)
    (case k20 => k_is)
    (case a21 => k_is)
    (case l21 => k_is)
    (case c21 => k_is)
    (case k21 => k_is)
    (case a22 => k_is)
    (case l22 => k_is)
    (case c22 => k_is)
    (case k22 => k_is)
    (case a23 => k_is)
    (case l23 => k_is)
    (case c23 => k_is)
    (case k23 => k_is)
    (case a24 => k_is)
    (case l24 => k_is)
    (case c24 => k_is)
    (case k24 => k_is)
    (case a25 => k_is)
    (case l25 => k_is)
    (case c25 => k_is)
    (case k25 => k_is)
    (case a26 => k_is)
    (case l26 => k_is)
    (case c26 => k_is)
    (case k26 => k_is)
    (case a27 => k_is)
    (case l27 => k_is)
    (case c27 => k_is)
    (case k27 => k_is)
    (case a28 => k_is)
    (case l28 => k_is)
    (case c28 => k_is)
    (case k28 => k_is)
    (case a29 => k_is)
    (case l29 => k_is)
    (case c29 => k_is)
    (case k29 => k_is)
    (case z1 => k_is)
    (case z2 => k_is)
    (case z3 => k_is)
    (case z4 => k_is)
    (case z5 => k_is)
    (case z6 => k_is)
    (case z7 => k_is)
    (case z8 => k_is)
    (case z9 => k_is)
    (case z10 => k_is)
    (case z11 => k_is)
    (case z12 => k_is)
    (case z13 => k_is)
    (case z14 => k_is)
    (case gN => k_is)
    (case lN => k_is)
    (case cN => rfl)
    (case dN => rfl)
    (case sN => decide)
    (case vN => repeat (first | exact .nil | refine .cons ⟨_, rfl⟩ ?_))
    (case x2 => k_is)
    (case xe => k_exc)
