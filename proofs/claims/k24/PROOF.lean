import PyProof.Rows.All
import Wide.All
import OpenK.AllK
import Wide.FinOn
import Lean
import PyProof.EqAt
import PyProof.EqKinds
import PyProof.TupleCall
import PySem.Challenge.RW_apart_k24_whole_going_on
set_option Elab.async false
set_option linter.all false
set_option maxRecDepth 100000
namespace L2
open PySem PySem.Spec PyProof.Rows
abbrev Key := Sum Int Str
noncomputable def keyIs : Key → Value → Bool
  | .inl k, v => Value.isInt k v
  | .inr x, v => Value.isStrOf x v
noncomputable def keyH (w : World) : Key → Int
  | .inl k => hashInt k
  | .inr x => hashStr w x
theorem keyIs_shape : ∀ {k : Key} {v : Value}, keyIs k v = true → (∃ i t, k = Sum.inl i ∧ v = Value.int i t) ∨ (∃ x t, k = Sum.inr x ∧ v = Value.str x t)
  | .inl i, v, h => by
    obtain ⟨t, e⟩ := Value.isInt_shape (k := i) (v := v) h
    exact .inl ⟨i, t, rfl, e⟩
  | .inr x, v, h => by
    obtain ⟨t, e⟩ := Value.isStrOf_shape (x := x) (v := v) h
    exact .inr ⟨x, t, rfl, e⟩
theorem keyIs_int (i : Int) (t : Tok) : keyIs (.inl i) (.int i t) = true := by simp [keyIs, Value.isInt]
theorem keyIs_str (x : Str) (t : Tok) : keyIs (.inr x) (.str x t) = true := by simp [keyIs, Value.isStrOf]
theorem key_ll (a b : Int) : decide ((Sum.inl a : Key) = Sum.inl b) = (a == b) := by
  by_cases e : a = b
  · subst e; simp
  · have h : ¬ (Sum.inl a : Key) = Sum.inl b := fun q => e (Sum.inl.inj q)
    rw [decide_eq_false h]
    exact (beq_eq_false_iff_ne.mpr e).symm
theorem key_rr (a b : Str) : decide ((Sum.inr a : Key) = Sum.inr b) = decide (a = b) := by
  by_cases e : a = b
  · subst e; simp
  · have h : ¬ (Sum.inr a : Key) = Sum.inr b := fun q => e (Sum.inr.inj q)
    rw [decide_eq_false h, decide_eq_false e]
theorem key_lr (a : Int) (b : Str) : decide ((Sum.inl a : Key) = Sum.inr b) = false := decide_eq_false (fun q => nomatch q)
theorem key_rl (a : Str) (b : Int) : decide ((Sum.inr a : Key) = Sum.inl b) = false := decide_eq_false (fun q => nomatch q)
noncomputable def mixKind (prog : Program) (w : World) : PySem.KeyKind prog w Key where
  is := keyIs
  hash := keyH w
  inj := fun v a b ha hb => by
    rcases keyIs_shape ha with ⟨i, t, rfl, rfl⟩ | ⟨x, t, rfl, rfl⟩
    · rcases keyIs_shape hb with ⟨j, u, rfl, e⟩ | ⟨y, u, rfl, e⟩
      · injection e with e1 _; rw [e1]
      · exact nomatch e
    · rcases keyIs_shape hb with ⟨j, u, rfl, e⟩ | ⟨y, u, rfl, e⟩
      · exact nomatch e
      · injection e with e1 _; rw [e1]
  byValue := fun k v h => by
    rcases keyIs_shape h with ⟨i, t, rfl, rfl⟩ | ⟨x, t, rfl, rfl⟩ <;> rfl
  pyHash := fun hv h => by
    rcases keyIs_shape hv with ⟨i, t, rfl, rfl⟩ | ⟨x, t, rfl, rfl⟩
    · exact wpAny_pyHash_int h
    · exact wpAny_pyHash_str h
  eqBool := fun hu hv h => by
    rcases keyIs_shape hu with ⟨i, t, rfl, rfl⟩ | ⟨x, t, rfl, rfl⟩
    · rcases keyIs_shape hv with ⟨j, u, rfl, rfl⟩ | ⟨y, u, rfl, rfl⟩
      · rw [key_ll] at h; exact wpAny_eqBool_int h
      · rw [key_lr] at h; exact SeqAt.EqAt.int_str i t y u _ _ _ _ h
    · rcases keyIs_shape hv with ⟨j, u, rfl, rfl⟩ | ⟨y, u, rfl, rfl⟩
      · rw [key_rl] at h; exact SeqAt.EqAt.str_int x t j u _ _ _ _ h
      · rw [key_rr] at h; exact wpAny_eqBool_str h
  «strs» := fun k x t v h => by
    rcases keyIs_shape h with ⟨i, u, rfl, e⟩ | ⟨y, u, rfl, e⟩
    · exact nomatch e
    · injection e with e1 _
      subst e1
      cases v <;> rfl
theorem mixKind_int (prog : Program) (w : World) (i : Int) (t : Tok) : (mixKind prog w).is (.inl i) (.int i t) = true := keyIs_int i t
theorem mixKind_str (prog : Program) (w : World) (x : Str) (t : Tok) : (mixKind prog w).is (.inr x) (.str x t) = true := keyIs_str x t
end L2
namespace L2
open PySem PySem.Spec PyProof.Rows
inductive V where
  | non | bl (b : Bool) | int (i : Int) | str (x : Str) | byt (b : Array UInt8) | flt (b : UInt64) | ref (a : Addr) | ty (n : String)
  deriving DecidableEq
noncomputable def RelV : V → Value → Prop
  | .non, u => u = Value.none
  | .bl b, u => u = Value.bool b
  | .int i, u => ∃ t, u = Value.int i t
  | .str x, u => ∃ t, u = Value.str x t
  | .byt b, u => ∃ t, u = Value.bytes b t
  | .flt b, u => ∃ t, u = Value.float b t
  | .ref a, u => u = Value.ref a
  | .ty n, u => u = Value.type n
abbrev Vals : List V → List Value → Prop := Paired RelV
theorem Vals.length {xs : List V} {us : List Value} (r : Vals xs us) : xs.length = us.length := Paired.length r
theorem Vals.get : ∀ {xs : List V} {us : List Value} {i : Nat} {x : V}, Vals xs us → xs[i]? = some x → ∃ u, us[i]? = some u ∧ RelV x u
  | _, _, _, _, .nil, e => by simp at e
  | _, _, 0, _, .cons r _, e => by simp at e; subst e; exact ⟨_, rfl, r⟩
  | _, _, i + 1, x, .cons _ t, e => by
    obtain ⟨u, h1, h2⟩ := Vals.get (i := i) (x := x) t (by simpa using e)
    exact ⟨u, by simpa using h1, h2⟩
theorem Vals.set {x : V} {u : Value} (r : RelV x u) : ∀ {xs : List V} {us : List Value} (i : Nat), Vals xs us → Vals (xs.set i x) (us.set i u)
  | _, _, _, .nil => .nil
  | _, _, 0, .cons _ t => .cons r t
  | _, _, i + 1, .cons q t => .cons q (Vals.set r i t)
theorem Vals.append : ∀ {xs ys : List V} {us ws : List Value}, Vals xs us → Vals ys ws → Vals (xs ++ ys) (us ++ ws)
  | _, _, _, _, .nil, s => s
  | _, _, _, _, .cons r t, s => .cons r (Vals.append t s)
theorem Vals.take : ∀ {xs : List V} {us : List Value} (n : Nat), Vals xs us → Vals (xs.take n) (us.take n)
  | _, _, 0, _ => .nil
  | _, _, _ + 1, .nil => .nil
  | _, _, n + 1, .cons r t => .cons r (Vals.take n t)
theorem Vals.drop : ∀ {xs : List V} {us : List Value} (n : Nat), Vals xs us → Vals (xs.drop n) (us.drop n)
  | _, _, 0, r => r
  | _, _, _ + 1, .nil => .nil
  | _, _, n + 1, .cons _ t => Vals.drop n t
noncomputable def RelO : Option V → Option Value → Prop
  | some v, some u => RelV v u
  | none, none => True
  | _, _ => False
noncomputable def KV {κ : Type} : List (κ × V) → List (κ × Value) → Prop := Paired fun (p : κ × V) (q : κ × Value) => p.1 = q.1 ∧ RelV p.2 q.2
noncomputable def kV : Key → V
  | .inl i => .int i
  | .inr x => .str x
inductive HO where
  /-- a list -/
  | lst (xs : List V)
  /-- a tuple (never changes) -/
  | tup (xs : List V)
  /-- a dict whose keys are ints and texts; one whose keys are tuples of ints and texts (the empty one is both) -/
  | dK (kvs : List (Key × V)) | dT (kvs : List (List Key × V))
  /-- a set of ints: its members, its size -/
  | set (S : Int → Bool) (n : Nat)
  /-- an instance of the class at C, its dict at dx, its attributes -/
  | ins (C dx : Addr) (fs : List (Str × V))
  /-- the dict of the instance at x -/
  | own (x : Addr)
  /-- the dict of an exception -/
  | xd (fs : List (Str × V))
  /-- a bound method, f of x -/
  | met (f x : Addr)
  /-- a range object lo, lo + 1, .. below hi -/
  | rng (lo hi : Int)
  /-- a thing that is known to the object (the script; a dict while a loop walks it): read, never written while it is so -/
  | frz (o : Obj) (u : HO)
  /-- a code object's table -/
  | tbl (ps : Array Value)
  /-- any other thing, by what is true of its one object (a def of one's own: SetO a S n := HO.ext fun h => ..) -/
  | ext (φ : Heap → Prop)
abbrev Hp := Addr → Option HO
noncomputable def upd (H : Hp) (a : Addr) (o : HO) : Hp := fun b => if b = a then some o else H b
theorem upd_same {H : Hp} {a : Addr} {o : HO} : upd H a o a = some o := by unfold upd; rw [if_pos rfl]
theorem upd_ne {H : Hp} {a b : Addr} {o : HO} (h : b ≠ a) : upd H a o b = H b := by unfold upd; rw [if_neg h]
theorem ne_of {H : Hp} {a b : Addr} {o u : HO} (h : H a = some o) (h' : H b = some u) (d : o ≠ u) : a ≠ b := by
  intro e; subst e; rw [h] at h'; exact d (Option.some.inj h')
theorem ne_of_none {H : Hp} {a b : Addr} {o : HO} (h : H a = some o) (h' : H b = none) : a ≠ b := by
  intro e; subst e; rw [h] at h'; cases h'
section
variable (P : Program) (w : World)
noncomputable def ObjOk (H : Hp) (h : Heap) (a : Addr) : HO → Prop
  | .lst xs => xs.length ≤ sizeLine ∧ ∃ (its : List Value) (n : Nat), Vals xs its ∧ h.get? a = some { cls := .type "list", data := .seq its.toArray n }
  | .tup xs => xs.length ≤ sizeLine ∧ ∃ its : List Value, Vals xs its ∧ IsTup h a its.toArray
  | .dK kvs => kvs.length ≤ sizeLine ∧ (a == sysModules) = false ∧ ∃ vs, KV kvs vs ∧ h.DictOf (mixKind P w) a vs
  | .dT kvs => kvs.length ≤ sizeLine ∧ (a == sysModules) = false ∧ ∃ xs : List (List Key × Addr × Value),
      Paired (fun (p : List Key × V) (q : List Key × Addr × Value) => p.1 = q.1 ∧ H q.2.1 = some (.tup (p.1.map kV)) ∧ RelV p.2 q.2.2) kvs xs ∧
      ∃ o es ep, h.get? a = some o ∧ o.ExactDict ∧ o.data = .dict es ep ∧ es.toList = xs.map (entryOfKey (tupleKind (mixKind P w))) ∧ (xs.map (·.1)).Nodup
  | .set S n => h.SetOf (intKind P w) a S n
  | .ins C dx fs => H dx = some (.own a) ∧ fs.length ≤ 1000 ∧ dx ≠ a ∧ h.get? a = some (PySem.W.instObj C dx) ∧
      ∃ mA, h.Ns1 dx mA ∧ (∀ f, RelO (fs.lookup f) (mA f)) ∧ PySem.Within mA (fs.map (·.1))
  | .own _ => ∃ o, h.get? a = some o
  | .xd fs => ∃ mA, h.Ns1 a mA ∧ ∀ f, RelO (fs.lookup f) (mA f)
  | .rng lo hi => ∃ t u v, h.get? a = some { cls := .type "range", data := .fields #[.int lo t, .int hi u, .int 1 v] }
  | .frz o u => h.get? a = some o ∧ ObjOk H h a u
  | .tbl ps => h.get? a = some { cls := .none, data := .fields ps }
  | .met f x => h.get? a = some (PySem.W.methodObj (.ref f) (.ref x))
  | .ext φ => φ h ∧ (∃ o, h.get? a = some o) ∧ ∀ h1 h2 : Heap, φ h1 → (∀ o, h1.get? a = some o → h2.get? a = some o) → φ h2
noncomputable def HOk (H : Hp) (h : Heap) : Prop := ∀ a o, H a = some o → ObjOk P w H h a o
end
section
variable {P : Program} {w : World} {H H' : Hp} {h h' : Heap} {a : Addr} {o : HO}
theorem ObjOk.lt (x : ObjOk P w H h a o) : a < h.objs.size := by
  cases o with
  | lst xs => obtain ⟨_, _, _, _, e⟩ := x; exact Heap.lt_size e
  | tup xs => obtain ⟨_, _, _, p⟩ := x; exact p.lt
  | dK kvs => obtain ⟨_, _, _, _, o, _, _, e, _⟩ := x; exact Heap.lt_size e
  | dT kvs => obtain ⟨_, _, _, _, o, _, _, e, _⟩ := x; exact Heap.lt_size e
  | set S n => obtain ⟨o, _, _, _, e, _⟩ := x; exact Heap.lt_size e
  | ins C dx fs => obtain ⟨_, _, _, e, _⟩ := x; exact Heap.lt_size e
  | own y => obtain ⟨_, e⟩ := x; exact Heap.lt_size e
  | xd fs => obtain ⟨_, ⟨_, _, _, e, _⟩, _⟩ := x; exact Heap.lt_size e
  | rng lo hi => obtain ⟨_, _, _, e⟩ := x; exact Heap.lt_size e
  | frz ob u => obtain ⟨e, _⟩ := x; exact Heap.lt_size e
  | tbl ps => exact Heap.lt_size (show h.get? a = some _ from x)
  | met f y => exact Heap.lt_size (show h.get? a = some _ from x)
  | ext φ => obtain ⟨_, ⟨_, e⟩, _⟩ := x; exact Heap.lt_size e
theorem Paired.mapP {α β : Type} {F G : α → β → Prop} : ∀ {l₁ : List α} {l₂ : List β}, Paired F l₁ l₂ → (∀ a b, F a b → G a b) → Paired G l₁ l₂
  | _, _, .nil, _ => .nil
  | _, _, .cons r t, f => .cons (f _ _ r) (Paired.mapP t f)
theorem ObjOk.stay (x : ObjOk P w H h a o) (k : ∀ b u, (b = a ∨ H b = some (.own a)) → h.get? b = some u → h'.get? b = some u)
    (ho : ∀ b, H b = some (.own a) → H' b = some (.own a)) (ht : ∀ b xs, H b = some (.tup xs) → H' b = some (.tup xs)) : ObjOk P w H' h' a o := by
  induction o with
  | lst xs => obtain ⟨z, its, n, r, e⟩ := x; exact ⟨z, its, n, r, k _ _ (.inl rfl) e⟩
  | tup xs => obtain ⟨z, its, r, ob, e, c⟩ := x; exact ⟨z, its, r, ob, k _ _ (.inl rfl) e, c⟩
  | dK kvs => obtain ⟨z, y, vs, r, ob, es, ep, e, c⟩ := x; exact ⟨z, y, vs, r, ob, es, ep, k _ _ (.inl rfl) e, c⟩
  | dT kvs =>
    obtain ⟨z, y, xs, r, ob, es, ep, e, c⟩ := x
    exact ⟨z, y, xs, Paired.mapP r fun p q z => ⟨z.1, ht _ _ z.2.1, z.2.2⟩, ob, es, ep, k _ _ (.inl rfl) e, c⟩
  | set S n => obtain ⟨ob, es, ep, t, e, c⟩ := x; exact ⟨ob, es, ep, t, k _ _ (.inl rfl) e, c⟩
  | ins C dx fs =>
    obtain ⟨d, z, ne, e, mA, ⟨od, es, ep, e2, c⟩, r⟩ := x
    exact ⟨ho _ d, z, ne, k _ _ (.inl rfl) e, mA, ⟨od, es, ep, k _ _ (.inr d) e2, c⟩, r⟩
  | own y => obtain ⟨ob, e⟩ := x; exact ⟨ob, k _ _ (.inl rfl) e⟩
  | xd fs => obtain ⟨mA, ⟨od, es, ep, e, c⟩, r⟩ := x; exact ⟨mA, ⟨od, es, ep, k _ _ (.inl rfl) e, c⟩, r⟩
  | rng lo hi => obtain ⟨t, u, v, e⟩ := x; exact ⟨t, u, v, k _ _ (.inl rfl) e⟩
  | frz ob u ih => obtain ⟨e, q⟩ := x; exact ⟨k _ _ (.inl rfl) e, ih q⟩
  | tbl ps =>
    have e : h.get? a = some { cls := .none, data := .fields ps } := x
    show h'.get? a = some { cls := .none, data := .fields ps }
    exact k a _ (.inl rfl) e
  | met f y =>
    have e : h.get? a = some (PySem.W.methodObj (.ref f) (.ref y)) := x
    show h'.get? a = some (PySem.W.methodObj (.ref f) (.ref y))
    exact k a _ (.inl rfl) e
  | ext φ => obtain ⟨p, ⟨o, e⟩, st⟩ := x; exact ⟨st _ _ p fun o q => k _ _ (.inl rfl) q, ⟨o, k _ _ (.inl rfl) e⟩, st⟩
theorem HOk.lt (x : HOk P w H h) (e : H a = some o) : a < h.objs.size := (x a o e).lt
theorem HOk.fresh (x : HOk P w H h) (e : h.objs.size ≤ a) : H a = none := by
  cases q : H a with
  | none => rfl
  | some u => exact absurd (Nat.lt_of_lt_of_le (x.lt q) e) (Nat.lt_irrefl _)
theorem HOk.kept (x : HOk P w H h) (k : ∀ b u, h.get? b = some u → h'.get? b = some u) : HOk P w H h' := fun a o e =>
  (x a o e).stay (fun b u _ q => k b u q) (fun _ q => q) fun _ _ q => q
theorem HOk.laid (x : HOk P w H h) (k : ∀ b u, h.get? b = some u → h'.get? b = some u) (hp : h.objs.size ≤ a) (new : ObjOk P w (upd H a o) h' a o) : HOk P w (upd H a o) h' := fun b u e => by
  have hn := x.fresh hp
  by_cases hb : b = a
  · subst hb; rw [upd_same] at e; cases e; exact new
  · rw [upd_ne hb] at e
    exact (x b u e).stay (fun c v _ q => k c v q) (fun c q => by rw [upd_ne (ne_of_none q hn)]; exact q) fun c xs q => by rw [upd_ne (ne_of_none q hn)]; exact q
end
noncomputable def Rd (H : Hp) (a : Addr) (u : HO) : Prop := H a = some u ∨ ∃ o, H a = some (.frz o u)
theorem Rd.ok {P : Program} {w : World} {H : Hp} {h : Heap} {a : Addr} {u : HO} (r : Rd H a u) (x : HOk P w H h) : ObjOk P w H h a u := by
  rcases r with r | ⟨o, r⟩
  · exact x a u r
  · obtain ⟨_, q⟩ := x a _ r
    exact q
noncomputable def Mut : Option HO → Prop
  | some (.lst _) => True
  | some (.dK _) => True
  | some (.dT _) => True
  | some (.set _ _) => True
  | some (.ins _ _ _) => True
  | some (.ext _) => True
  | _ => False
section
variable {P : Program} {w : World} {H : Hp} {h h' : Heap} {x e : Addr} {o' : HO}
theorem HOk.write (ok : HOk P w H h) (mu : Mut (H x)) (he : e = x ∨ H e = some (.own x)) (k : ∀ b u, b ≠ e → h.get? b = some u → h'.get? b = some u) (heo : ∃ u, h'.get? e = some u)
    (new : ObjOk P w (upd H x o') h' x o') : HOk P w (upd H x o') h' := fun b u q => by
  have nown : ∀ c y, H c = some (.own y) → c ≠ x := fun c y r z => by subst z; rw [r] at mu; exact mu
  have ntup : ∀ c xs, H c = some (.tup xs) → c ≠ x := fun c xs r z => by subst z; rw [r] at mu; exact mu
  by_cases hb : b = x
  · subst hb; rw [upd_same] at q; cases q; exact new
  · rw [upd_ne hb] at q
    by_cases hbe : b = e
    · have q' : H b = some (.own x) := by
        rcases he with z | z
        · exact absurd (hbe.trans z) hb
        · rw [hbe]; exact z
      rw [q] at q'; cases q'
      obtain ⟨v, hv⟩ := heo
      exact ⟨v, by rw [hbe]; exact hv⟩
    · refine (ok b u q).stay (fun c v hc r => k c v ?_ r) (fun c r => by rw [upd_ne (nown c b r)]; exact r) fun c xs r => by rw [upd_ne (ntup c xs r)]; exact r
      rcases hc with rfl | hc
      · exact hbe
      · rintro rfl
        rcases he with z | z
        · exact nown c b hc z
        · rw [hc] at z; cases z; exact hb rfl
end
structure Un (fs ex : List Addr) (H H' : Hp) (h h' : Heap) : Prop where
  keep : ∀ b o, h.get? b = some o → H b = none → b ∉ fs → b ∉ ex → h'.get? b = some o
  slot : ∀ b o, h.get? b = some o → H b = none → b ∈ fs → b ∉ ex → ∃ sl, h'.get? b = some { o with slots := sl }
  free : ∀ b o, h.get? b = some o → H b = none → b ∉ ex → H' b = none
  there : ∀ b o, h.get? b = some o → b ∉ ex → ∃ o', h'.get? b = some o'
  tups : ∀ b xs, H b = some (.tup xs) → H' b = some (.tup xs)
  frzs : ∀ b o u, H b = some (.frz o u) → H' b = some (.frz o u)
  tbls : ∀ b ps, H b = some (.tbl ps) → ∃ more, H' b = some (.tbl (ps ++ more))
section
variable {fs fs' ex ex' : List Addr} {H H1 H2 : Hp} {h h1 h2 h' : Heap} {a x e : Addr} {o : HO}
theorem Un.any (u : Un fs ex H H1 h h1) {b : Addr} {ob : Obj} (q : h.get? b = some ob) (n : H b = none) (hx : b ∉ ex) : ∃ sl, h1.get? b = some { ob with slots := sl } := by
  by_cases hb : b ∈ fs
  · exact u.slot b ob q n hb hx
  · exact ⟨ob.slots, u.keep b ob q n hb hx⟩
theorem Un.kept (k : ∀ b u, h.get? b = some u → h'.get? b = some u) : Un fs ex H H h h' :=
  ⟨fun b ob q _ _ _ => k b ob q, fun b ob q _ _ _ => ⟨ob.slots, k b ob q⟩, fun _ _ _ n _ => n, fun b ob q _ => ⟨ob, k b ob q⟩, fun _ _ q => q, fun _ _ _ q => q, fun _ ps q => ⟨#[], by rw [q]; simp⟩⟩
theorem Un.refl : Un fs ex H H h h := Un.kept fun _ _ q => q
theorem Un.laid (k : ∀ b u, h.get? b = some u → h'.get? b = some u) (hp : h.objs.size ≤ a) (hn : H a = none) : Un fs ex H (upd H a o) h h' where
  keep := fun b u q _ _ _ => k b u q
  slot := fun b u q _ _ _ => ⟨u.slots, k b u q⟩
  free := fun b u q n _ => by rw [upd_ne (Nat.ne_of_lt (Nat.lt_of_lt_of_le (Heap.lt_size q) hp))]; exact n
  there := fun b u q _ => ⟨u, k b u q⟩
  tups := fun b xs q => by rw [upd_ne (ne_of_none q hn)]; exact q
  frzs := fun b u xs q => by rw [upd_ne (ne_of_none q hn)]; exact q
  tbls := fun b ps q => ⟨#[], by rw [upd_ne (ne_of_none q hn), q]; simp⟩
theorem Un.write (mu : Mut (H x)) (he : e = x ∨ H e = some (.own x)) (k : ∀ b u, b ≠ e → h.get? b = some u → h'.get? b = some u) (heo : ∃ u, h'.get? e = some u) : Un fs ex H (upd H x o) h h' := by
  have hx : ∀ b, H b = none → b ≠ x := fun b n z => by subst z; rw [n] at mu; exact mu
  have hb : ∀ b, H b = none → b ≠ e := fun b n z => by
    subst z
    rcases he with r | r
    · exact hx b n r
    · rw [n] at r; cases r
  have hm : ∀ b u, H b = some u → ¬ Mut (some u) → b ≠ x := fun b u q nm z => by subst z; rw [q] at mu; exact nm mu
  refine ⟨fun b u q n _ _ => k b u (hb b n) q, fun b u q n _ _ => ⟨u.slots, k b u (hb b n) q⟩, fun b u q n _ => by rw [upd_ne (hx b n)]; exact n, fun b u q _ => ?_,
    fun b xs q => by rw [upd_ne (hm b _ q fun z => z)]; exact q, fun b u xs q => by rw [upd_ne (hm b _ q fun z => z)]; exact q, fun b ps q => ⟨#[], by rw [upd_ne (hm b _ q fun z => z), q]; simp⟩⟩
  by_cases hbe : b = e
  · subst hbe; exact heo
  · exact ⟨u, k b u hbe q⟩
end
noncomputable def trk (h : Heap) (H : Hp) : List Addr := (List.range h.objs.size).filter fun a => (H a).isSome
noncomputable def hidT (h : Heap) (H : Hp) : Heap := PySem.W.hideAll h (trk h H)
theorem hidT_size (h : Heap) (H : Hp) : (hidT h H).objs.size = h.objs.size := PySem.W.hideAll_size _ _
theorem hidT_get {h : Heap} {H : Hp} {b : Addr} {o : Obj} (e : h.get? b = some o) (n : H b = none) : (hidT h H).get? b = some o :=
  PySem.W.hideAll_get _ e fun hm => by
    have q : (H b).isSome = true := (List.mem_filter.mp hm).2
    rw [n] at q; simp at q
theorem of_hidT {h : Heap} {H : Hp} {b : Addr} {o : Obj} (e : (hidT h H).get? b = some o) : h.get? b = some o ∧ H b = none := by
  have e' : h.get? b = some o := PySem.W.of_hideAll (trk h H) e
  refine ⟨e', ?_⟩
  cases q : H b with
  | none => rfl
  | some x =>
    have hm : b ∈ trk h H := List.mem_filter.mpr ⟨List.mem_range.mpr (Heap.lt_size e'), by simp [q]⟩
    have z : (hidT h H).get? b = none := PySem.W.hideAll_none (trk h H) hm
    rw [z] at e; cases e
noncomputable def allNews (g h : Heap) (L : Addr) : List (Addr × Obj) := (List.range h.objs.size).filterMap fun a => if a = L ∨ (g.get? a).isSome = true then none else (h.get? a).map fun o => (a, o)
noncomputable def rest (g h : Heap) (L d : Addr) : List (Addr × Obj) := (allNews g h L).filter fun p => decide (p.1 ≠ d)
end L2
namespace L2
open PySem PySem.Spec PyProof.Rows
structure Mod (K : PySem.W.Frag) (mg : Str → Option Value) (base : Heap) : Prop where
  kin : K.In base
  glob : base.Ns mainGlobals mg
  blt : ∃ mb, base.Ns builtinsNs mb ∧ ∀ x : Str, x ≠ "__name__" → mb x = bootBuiltins x
  nolimit : base.NoLimit
structure Cx where
  prog : Program
  w : World
  K : PySem.W.Frag
  mg : Str → Option Value
  base : Heap
  A : Around
  N : List Str
  s₀ : Shared
  H₀ : Hp
  env : Env
  outer : List Env
  stack : List Env
  ex : List Addr
  fn : Str → Bool
  calm : Bool
  pn : List (Addr × Obj)
  xe : Value → Shared → Prop
noncomputable def frs (l : List Env) : List Addr := l.filterMap (·.frame)
noncomputable abbrev Cx.fs (X : Cx) : List Addr := frs X.outer
noncomputable def Vis (sc : Scope) (x : Str) : Prop := sc.names.lookup x = some .local ∨ sc.names.lookup x = some .cell ∨ sc.names.lookup x = some .free
noncomputable def Loc (sc : Scope) (x : Str) : Prop := sc.names.lookup x = some .local ∨ sc.names.lookup x = some .cell
noncomputable def Look (env : Env) (h : Heap) (m : Str → Option Value) (x : Str) (u : Value) : Prop :=
  (env.kindOf x = some .local ∧ m x = some u) ∨ ((env.kindOf x = some .cell ∨ env.kindOf x = some .free) ∧ ∃ c, env.cells.lookup x = some c ∧ h.IsCell c (some u))
structure Cx.Ok (X : Cx) : Prop where
  mod : Mod X.K X.mg X.base
  kind : X.env.scope.kind = .function
  glob : X.env.globals = mainGlobals
  blt : X.env.builtins = builtinsNs
  above : X.s₀.heap.objs.size ≤ X.env.locals
  inj : ∀ x y c, X.env.cells.lookup x = some c → X.env.cells.lookup y = some c → x = y
  has : ∀ x, (X.env.kindOf x = some .cell ∨ X.env.kindOf x = some .free) → ∃ c, X.env.cells.lookup x = some c
  cab : ∀ x c, X.fn x = true → X.env.cells.lookup x = some c → X.s₀.heap.objs.size ≤ c
  hd : X.calm = true → X.A.handled = none
  frames : X.A.frames = some X.stack
  stk : X.stack = X.outer ∨ (X.stack = X.env :: X.outer ∧ X.env.frame = some X.env.locals)
  exf : ∀ b ∈ X.ex, b ≠ X.env.locals ∧ ∀ x c, X.env.cells.lookup x = some c → c ≠ b
  bs : ∀ b o, X.base.get? b = some o → X.s₀.heap.get? b = some o ∧ X.H₀ b = none
  bsz : X.base.objs.size ≤ X.s₀.heap.objs.size
  noex : ∀ b o, X.base.get? b = some o → b ∉ X.ex
  exfs : ∀ b ∈ X.ex, b ∉ X.fs
  funs : X.s₀.heap.FunFrames X.base X.outer
  frf : ∀ b ∈ X.fs, X.H₀ b = none
structure Inv (X : Cx) (pins : List (Addr × Obj)) (σ : List (Option V)) (H : Hp) (s : Shared) : Prop where
  ok : X.Ok
  os : s.os = X.s₀.os
  bare : AllBare s.gens
  base : Un X.fs X.ex X.H₀ H X.s₀.heap s.heap
  loc : ∃ m, s.heap.Ns X.env.locals m ∧ ∀ (i : Nat) (x : Str) (v : V), X.N[i]? = some x → σ[i]? = some (some v) → Vis X.env.scope x → ∃ u, RelV v u ∧ Look X.env s.heap m x u
  cell : ∀ x c, X.env.cells.lookup x = some c → ∃ v, s.heap.IsCell c v
  free : H X.env.locals = none
  freeC : ∀ x c, X.env.cells.lookup x = some c → H c = none
  pin : ∀ p ∈ X.pn ++ pins, s.heap.get? p.1 = some p.2 ∧ H p.1 = none ∧ p.1 ≠ X.env.locals ∧ p.1 ∉ X.fs ∧ ∀ v, p.2.data ≠ .cell v
  hok : HOk X.prog X.w H s.heap
  len : σ.length = X.N.length
section
variable {X : Cx} {pins : List (Addr × Obj)} {σ : List (Option V)} {H H' : Hp} {s : Shared} {h' : Heap}
theorem Cx.Ok.nofr (ok : X.Ok) {b : Addr} {o : Obj} (e : X.base.get? b = some o) : b ∉ X.fs := fun hb => by
  have := (ok.funs.mem hb).1
  rw [e] at this; cases this
theorem Inv.bs (I : Inv X pins σ H s) : ∀ b o, X.base.get? b = some o → s.heap.get? b = some o ∧ H b = none := fun b o e =>
  ⟨I.base.keep b o (I.ok.bs b o e).1 (I.ok.bs b o e).2 (I.ok.nofr e) (I.ok.noex b o e), I.base.free b o (I.ok.bs b o e).1 (I.ok.bs b o e).2 (I.ok.noex b o e)⟩
theorem Inv.bk (I : Inv X pins σ H s) : ∀ b o, X.base.get? b = some o → s.heap.get? b = some o := fun b o e => (I.bs b o e).1
theorem Inv.mod (I : Inv X pins σ H s) : Mod X.K X.mg X.base := I.ok.mod
theorem Inv.kIn (I : Inv X pins σ H s) : X.K.In s.heap := I.ok.mod.kin.keeps I.bk
theorem Inv.lt (I : Inv X pins σ H s) : X.env.locals < s.heap.objs.size := let ⟨_, hn, _⟩ := I.loc; hn.lt
theorem Inv.sz (I : Inv X pins σ H s) : X.s₀.heap.objs.size ≤ s.heap.objs.size := Nat.le_trans I.ok.above (Nat.le_of_lt I.lt)
theorem Inv.nofs (I : Inv X pins σ H s) {a : Addr} (h : s.heap.objs.size ≤ a) : a ∉ X.fs := fun hb => by
  obtain ⟨_, o, ho, _⟩ := I.ok.funs.mem hb
  exact absurd (Nat.lt_of_lt_of_le (Heap.lt_size ho) (Nat.le_trans I.sz h)) (Nat.lt_irrefl _)
theorem Inv.cne (I : Inv X pins σ H s) : ∀ x c, X.env.cells.lookup x = some c → c ≠ X.env.locals := fun x c e z => by
  obtain ⟨v, o, ho, hd⟩ := I.cell x c e
  obtain ⟨m, ⟨o', es, ep, ho', hd', _⟩, _⟩ := I.loc
  rw [z, ho'] at ho; cases ho; rw [hd'] at hd; cases hd
theorem Inv.funs (I : Inv X pins σ H s) : s.heap.FunFrames X.base X.outer := by
  have all : ∀ (l : List Env), (∀ b ∈ frs l, b ∈ X.fs) → X.s₀.heap.FunFrames X.base l → s.heap.FunFrames X.base l := by
    intro l
    induction l with
    | nil => intro _ _; trivial
    | cons env r ih =>
      intro hs hl
      obtain ⟨hk, ⟨L, o, hf, hn, ho, hd⟩, hr⟩ := hl
      have hL : L ∈ X.fs := hs L (by unfold frs; rw [List.filterMap_cons, hf]; exact List.mem_cons_self)
      obtain ⟨sl, e⟩ := I.base.slot L o ho (I.ok.frf L hL) hL fun z => I.ok.exfs L z hL
      exact ⟨hk, ⟨L, _, hf, hn, e, hd⟩, ih (fun b hb => hs b (by unfold frs; rw [List.filterMap_cons, hf]; exact List.mem_cons_of_mem _ hb)) hr⟩
  exact all X.outer (fun _ hb => hb) I.ok.funs
theorem Inv.stack (I : Inv X pins σ H s) : s.heap.FunFrames X.base X.stack := by
  rcases I.ok.stk with e | ⟨e, hf⟩
  · rw [e]; exact I.funs
  · rw [e]
    obtain ⟨m, hn, _⟩ := I.loc
    refine .cons (by rw [I.ok.kind]; decide) hf hn ?_ I.funs
    exact Heap.get?_none_of_le (Nat.le_trans I.ok.bsz I.ok.above)
theorem Inv.stkSub (I : Inv X pins σ H s) : ∀ b ∈ frs X.stack, b ∈ X.env.locals :: X.fs := fun b hb => by
  rcases I.ok.stk with e | ⟨e, hf⟩
  · rw [e] at hb; exact List.mem_cons_of_mem _ hb
  · rw [e] at hb
    unfold frs at hb
    rw [List.filterMap_cons, hf] at hb
    exact hb
theorem Inv.stkFree (I : Inv X pins σ H s) : ∀ b ∈ frs X.stack, H b = none := fun b hb => by
  rcases List.mem_cons.mp (I.stkSub b hb) with e | hb
  · rw [e]; exact I.free
  · obtain ⟨_, o, ho, _⟩ := I.ok.funs.mem hb
    exact I.base.free b o ho (I.ok.frf b hb) fun z => I.ok.exfs b z hb
theorem Inv.step {g' : Array GenState} {t' : Nat} {d' : Drawn} {ch : List Addr} (I : Inv X pins σ H s)
    (hch : ∀ b ∈ ch, (b ∈ X.ex ∨ X.s₀.heap.objs.size ≤ b) ∧ b ≠ X.env.locals ∧ (∀ x c, X.env.cells.lookup x = some c → c ≠ b) ∧ ∀ p ∈ X.pn ++ pins, p.1 ≠ b)
    (keep : ∀ b o, b ≠ X.env.locals → b ∉ X.fs → b ∉ ch → s.heap.get? b = some o → H b = none → h'.get? b = some o)
    (slot : ∀ b o, b ≠ X.env.locals → b ∈ X.fs → b ∉ ch → s.heap.get? b = some o → H b = none → ∃ sl, h'.get? b = some { o with slots := sl }) (free : ∀ b o, b ∉ ch → s.heap.get? b = some o → H b = none → H' b = none)
    (there : ∀ b o, b ∉ ch → s.heap.get? b = some o → ∃ o', h'.get? b = some o')
    (tups : ∀ b xs, H b = some (.tup xs) → H' b = some (.tup xs)) (frzs : ∀ b o u, H b = some (.frz o u) → H' b = some (.frz o u)) (tbls : ∀ b ps, H b = some (.tbl ps) → ∃ more, H' b = some (.tbl (ps ++ more)))
    (ns : ∀ m, s.heap.Ns X.env.locals m → h'.Ns X.env.locals m) (hok : HOk X.prog X.w H' h') (hg : AllBare g') :
    Inv X pins σ H' { s with heap := h', gens := g', drawn := d', toks := t' } := by
  have neL : ∀ b o, X.s₀.heap.get? b = some o → b ≠ X.env.locals := fun b o e => Nat.ne_of_lt (Nat.lt_of_lt_of_le (Heap.lt_size e) I.ok.above)
  have neC : ∀ b o, X.s₀.heap.get? b = some o → b ∉ X.ex → b ∉ ch := fun b o e hx hb => by
    rcases (hch b hb).1 with z | z
    · exact hx z
    · exact absurd (Nat.lt_of_lt_of_le (Heap.lt_size e) z) (Nat.lt_irrefl _)
  have cellK : ∀ x c, X.env.cells.lookup x = some c → ∀ v, s.heap.IsCell c v → h'.IsCell c v := fun x c e v ⟨o, ho, hd⟩ => by
    have nch : c ∉ ch := fun z => (hch c z).2.2.1 x c e rfl
    by_cases hc : c ∈ X.fs
    · obtain ⟨sl, q⟩ := slot c o (I.cne x c e) hc nch ho (I.freeC x c e)
      exact ⟨_, q, hd⟩
    · exact ⟨o, keep c o (I.cne x c e) hc nch ho (I.freeC x c e), hd⟩
  refine ⟨I.ok, I.os, hg, ⟨fun b o e n hb hx => ?_, fun b o e n hb hx => ?_, fun b o e n hx => ?_, fun b o e hx => ?_, fun b xs e => tups b xs (I.base.tups b xs e), fun b o xs e => frzs b o xs (I.base.frzs b o xs e), fun b ps e => ?_⟩, ?_, fun x c e => ?_, ?_, fun x c e => ?_, fun p hp => ?_, hok, I.len⟩
  · exact keep b o (neL b o e) hb (neC b o e hx) (I.base.keep b o e n hb hx) (I.base.free b o e n hx)
  · obtain ⟨sl, e1⟩ := I.base.slot b o e n hb hx
    obtain ⟨sl', e2⟩ := slot b _ (neL b o e) hb (neC b o e hx) e1 (I.base.free b o e n hx)
    exact ⟨sl', e2⟩
  · obtain ⟨o', e1⟩ := I.base.there b o e hx
    exact free b o' (neC b o e hx) e1 (I.base.free b o e n hx)
  · obtain ⟨o', e1⟩ := I.base.there b o e hx
    exact there b o' (neC b o e hx) e1
  · obtain ⟨m1, e1⟩ := I.base.tbls b ps e
    obtain ⟨m2, e2⟩ := tbls b _ e1
    exact ⟨m1 ++ m2, by rw [e2, Array.append_assoc]⟩
  · obtain ⟨m, hn, hl⟩ := I.loc
    refine ⟨m, ns m hn, fun i x v e1 e2 e3 => ?_⟩
    obtain ⟨u, r, l⟩ := hl i x v e1 e2 e3
    refine ⟨u, r, ?_⟩
    rcases l with l | ⟨k, c, e, z⟩
    · exact .inl l
    · exact .inr ⟨k, c, e, cellK x c e _ z⟩
  · obtain ⟨v, z⟩ := I.cell x c e
    exact ⟨v, cellK x c e v z⟩
  · obtain ⟨m, ⟨o, _, _, ho, _⟩, _⟩ := I.loc
    exact free _ o (fun z => (hch _ z).2.1 rfl) ho I.free
  · obtain ⟨v, o, ho, hd⟩ := I.cell x c e
    exact free c o (fun z => (hch c z).2.2.1 x c e rfl) ho (I.freeC x c e)
  · obtain ⟨e, n, ne, nf, d⟩ := I.pin p hp
    have nch : p.1 ∉ ch := fun z => (hch p.1 z).2.2.2 p hp rfl
    exact ⟨keep p.1 p.2 ne nf nch e n, free p.1 p.2 nch e n, ne, nf, d⟩
theorem Inv.un {t' : Nat} (I : Inv X pins σ H s) (u : Un X.fs [] H H' s.heap h') (hok : HOk X.prog X.w H' h') : Inv X pins σ H' { s with heap := h', toks := t' } := by
  obtain ⟨m, ⟨o, es, ep, ho, r⟩, _⟩ := id I.loc
  obtain ⟨sl, hL⟩ := u.any ho I.free (by simp)
  exact I.step (g' := s.gens) (d' := s.drawn) (ch := []) (fun _ z => nomatch z) (fun b o _ hb _ e n => u.keep b o e n hb (by simp)) (fun b o _ hb _ e n => u.slot b o e n hb (by simp)) (fun b o _ e n => u.free b o e n (by simp)) (fun b o _ e => u.there b o e (by simp)) u.tups u.frzs u.tbls (fun m' hm => by
    obtain ⟨o', es', ep', ho', r'⟩ := hm
    rw [ho] at ho'; cases ho'
    exact ⟨_, es', ep', hL, r'⟩) hok I.bare
theorem Inv.call {g' : Array GenState} {t' : Nat} {d' : Drawn} {ch : List Addr} (I : Inv X pins σ H s) (u : Un (frs X.stack) ch H H' s.heap h') (hok : HOk X.prog X.w H' h') (hg : AllBare g')
    (hch : ∀ b ∈ ch, (b ∈ X.ex ∨ X.s₀.heap.objs.size ≤ b) ∧ b ≠ X.env.locals ∧ (∀ x c, X.env.cells.lookup x = some c → c ≠ b) ∧ ∀ p ∈ X.pn ++ pins, p.1 ≠ b) :
    Inv X pins σ H' { s with heap := h', gens := g', drawn := d', toks := t' } := by
  obtain ⟨m, ⟨o, es, ep, ho, r⟩, _⟩ := id I.loc
  obtain ⟨sl, hL⟩ := u.any ho I.free fun z => (hch _ z).2.1 rfl
  exact I.step (ch := ch) hch (fun b o hL hb hc e n => u.keep b o e n (fun z => (List.mem_cons.mp (I.stkSub b z)).elim hL hb) hc) (fun b o _ _ hc e n => u.any e n hc) (fun b o hc e n => u.free b o e n hc) (fun b o hc e => u.there b o e hc) u.tups u.frzs u.tbls (fun m' hm => by
    obtain ⟨o', es', ep', ho', r'⟩ := hm
    rw [ho] at ho'; cases ho'
    exact ⟨_, es', ep', hL, r'⟩) hok hg
theorem Inv.turned {t' : Nat} {it : Addr} (I : Inv X pins σ H s) (k : ∀ b o, b ≠ it → s.heap.get? b = some o → h'.get? b = some o) (hn : H it = none) (hL : it ≠ X.env.locals)
    (h1 : it ∈ X.ex ∨ X.s₀.heap.objs.size ≤ it) (h2 : ∀ x c, X.env.cells.lookup x = some c → c ≠ it) (h3 : ∀ p ∈ X.pn ++ pins, p.1 ≠ it) : Inv X pins σ H { s with heap := h', toks := t' } := by
  have nit : ∀ b u, H b = some u → b ≠ it := fun b u e z => by rw [z, hn] at e; cases e
  refine I.step (g' := s.gens) (d' := s.drawn) (ch := [it]) (fun b hb => ?_) (fun b o _ _ hc e _ => k b o (fun z => hc (by simp [z])) e) (fun b o _ _ hc e _ => ⟨o.slots, k b o (fun z => hc (by simp [z])) e⟩) (fun _ _ _ _ n => n)
    (fun b o hc e => ⟨o, k b o (fun z => hc (by simp [z])) e⟩) (fun _ _ e => e) (fun _ _ _ e => e) (fun b ps e => ⟨#[], by rw [e]; simp⟩) (fun m hm => ?_) (fun b u e => ?_) I.bare
  · have e : b = it := by simpa using hb
    subst e
    exact ⟨h1, hL, h2, h3⟩
  · obtain ⟨o, es, ep, ho, r⟩ := hm
    exact ⟨o, es, ep, k _ o (Ne.symm hL) ho, r⟩
  · refine (I.hok b u e).stay (fun c v hc q => k c v ?_ q) (fun _ q => q) fun _ _ q => q
    rcases hc with z | z
    · rw [z]; exact nit b u e
    · exact nit c _ z
theorem Inv.tok (I : Inv X pins σ H s) (t : Nat) : Inv X pins σ H { s with toks := t } := I.un (h' := s.heap) (t' := t) Un.refl I.hok
theorem Inv.kept {t' : Nat} (I : Inv X pins σ H s) (k : ∀ b u, s.heap.get? b = some u → h'.get? b = some u) : Inv X pins σ H { s with heap := h', toks := t' } := I.un (Un.kept k) (I.hok.kept k)
theorem Inv.laid {a : Addr} {o : HO} {t' : Nat} (I : Inv X pins σ H s) (k : ∀ b u, s.heap.get? b = some u → h'.get? b = some u) (hp : s.heap.objs.size ≤ a) (new : ObjOk X.prog X.w (upd H a o) h' a o) :
    Inv X pins σ (upd H a o) { s with heap := h', toks := t' } := I.un (Un.laid k hp (I.hok.fresh hp)) (I.hok.laid k hp new)
theorem Inv.write {x e : Addr} {o : HO} {t' : Nat} (I : Inv X pins σ H s) (mu : Mut (H x)) (he : e = x ∨ H e = some (.own x)) (k : ∀ b u, b ≠ e → s.heap.get? b = some u → h'.get? b = some u) (heo : ∃ u, h'.get? e = some u)
    (new : ObjOk X.prog X.w (upd H x o) h' x o) : Inv X pins σ (upd H x o) { s with heap := h', toks := t' } := I.un (Un.write mu he k heo) (I.hok.write mu he k heo new)
theorem Inv.pins_of {pins' : List (Addr × Obj)} (I : Inv X pins σ H s) (h : ∀ p ∈ pins', s.heap.get? p.1 = some p.2 ∧ H p.1 = none ∧ p.1 ≠ X.env.locals ∧ p.1 ∉ X.fs ∧ ∀ v, p.2.data ≠ .cell v) : Inv X pins' σ H s :=
  ⟨I.ok, I.os, I.bare, I.base, I.loc, I.cell, I.free, I.freeC, fun p hp => (List.mem_append.mp hp).elim (fun z => I.pin p (List.mem_append_left _ z)) (h p), I.hok, I.len⟩
theorem nodup_ix {N : List Str} (hN : N.Nodup) {i j : Nat} {x : Str} (a : N[i]? = some x) (b : N[j]? = some x) : i = j := by
  obtain ⟨h1, e1⟩ := List.getElem?_eq_some_iff.mp a
  obtain ⟨h2, e2⟩ := List.getElem?_eq_some_iff.mp b
  exact (List.getElem_inj hN).mp (e1.trans e2.symm)
theorem store_ok2 {M : Model} {A : Around} {E : Value → Shared → Prop} {i : Nat} {x : Str} {v : V} {u : Value} {Q : Unit → Shared → Prop} (I : Inv X pins σ H s) (hN : X.N.Nodup) (hi : X.N[i]? = some x) (hx : Loc X.env.scope x) (r : RelV v u)
    (h : ∀ s', Inv X pins (σ.set i (some v)) H s' → (∃ a, Heap.SameBut a s.heap s'.heap ∧ (a = X.env.locals ∨ X.env.cells.lookup x = some a)) → Q () s') (hf : X.fn x = true ∨ X.env.scope.names.lookup x = some .local := by first | exact .inl rfl | exact .inr rfl | assumption) : wpAny M A (storeName X.env x u) Q E s := by
  obtain ⟨m, hn, hl⟩ := id I.loc
  have hcls : (X.env.scope.kind == .class || (X.env.scope.kind == .module && X.env.locals != X.env.globals)) = false := by rw [I.ok.kind]; rfl
  have hiσ : i < σ.length := by rw [I.len]; exact (List.getElem?_eq_some_iff.mp hi).1
  have cne := I.cne
  have tracked : ∀ {a : Addr} {h' : Heap}, (∃ o, s.heap.get? a = some o ∧ H a = none) → Heap.SameBut a s.heap h' → HOk X.prog X.w H h' := fun {a h'} ha hs b ob e => by
    obtain ⟨_, _, hfree⟩ := ha
    refine (I.hok b ob e).stay (fun c w' hc q => (hs.2 c ?_).trans q) (fun _ q => q) fun _ _ q => q
    rintro rfl
    rcases hc with rfl | hc
    · rw [hfree] at e; cases e
    · rw [hfree] at hc; cases hc
  rcases hx with hk | hk
  · refine wpAny_storeName_local hk hn (fun h' hn' hs => ?_) hcls
    obtain ⟨oL, _, _, hoL, _⟩ := id hn
    refine h _ ⟨I.ok, I.os, I.bare, ⟨fun b o e n hb hx => ?_, fun b o e n hb hx => ?_, I.base.free, fun b o e hx => ?_, I.base.tups, I.base.frzs, I.base.tbls⟩, ⟨_, hn', fun j y v' e1 e2 e3 => ?_⟩, fun y c e => ?_, I.free, I.freeC, fun p hp => ?_, tracked ⟨oL, hoL, I.free⟩ hs, by simpa using I.len⟩ ⟨_, hs, .inl rfl⟩
    · exact (hs.2 b (Nat.ne_of_lt (Nat.lt_of_lt_of_le (Heap.lt_size e) I.ok.above))).trans (I.base.keep b o e n hb hx)
    · obtain ⟨sl, e1⟩ := I.base.slot b o e n hb hx
      exact ⟨sl, (hs.2 b (Nat.ne_of_lt (Nat.lt_of_lt_of_le (Heap.lt_size e) I.ok.above))).trans e1⟩
    · obtain ⟨o', e1⟩ := I.base.there b o e hx
      exact ⟨o', (hs.2 b (Nat.ne_of_lt (Nat.lt_of_lt_of_le (Heap.lt_size e) I.ok.above))).trans e1⟩
    · by_cases hj : j = i
      · subst hj
        rw [hi] at e1; cases e1
        rw [List.getElem?_set_self hiσ] at e2
        cases e2
        exact ⟨u, r, .inl ⟨hk, by simp⟩⟩
      · rw [List.getElem?_set_ne (Ne.symm hj)] at e2
        obtain ⟨u', r', q⟩ := hl j y v' e1 e2 e3
        refine ⟨u', r', ?_⟩
        rcases q with ⟨k, e⟩ | ⟨k, c, e, z⟩
        · refine .inl ⟨k, ?_⟩
          have : y ≠ x := fun e => hj (nodup_ix hN e1 (e ▸ hi))
          simp [this, e]
        · exact .inr ⟨k, c, e, z.sameBut hs (cne y c e)⟩
    · obtain ⟨w', z⟩ := I.cell y c e
      exact ⟨w', z.sameBut hs (cne y c e)⟩
    · obtain ⟨e, n, ne, nf, d⟩ := I.pin p hp
      exact ⟨(hs.2 p.1 ne).trans e, n, ne, nf, d⟩
  · have hfn : X.fn x = true := by
      rcases hf with z | z
      · exact z
      · rw [z] at hk; cases hk
    obtain ⟨c, hc⟩ := I.ok.has x (.inl hk)
    obtain ⟨w', z⟩ := I.cell x c hc
    refine wpAny_storeName_cell I.ok.kind hk hc z (fun h' hc' hs => ?_)
    obtain ⟨oc, hoc, hocd⟩ := id z
    refine h { s with heap := h' } ⟨I.ok, I.os, I.bare, ⟨fun b o e n hb hx => ?_, fun b o e n hb hx => ?_, I.base.free, fun b o e hx => ?_, I.base.tups, I.base.frzs, I.base.tbls⟩, ⟨m, hn.sameBut hs (Ne.symm (cne x c hc)), fun j y v' e1 e2 e3 => ?_⟩, fun y c' e => ?_, I.free, I.freeC, fun p hp => ?_, tracked ⟨oc, hoc, I.freeC x c hc⟩ hs, by simpa using I.len⟩ ⟨c, hs, .inr hc⟩
    · exact (hs.2 b (Nat.ne_of_lt (Nat.lt_of_lt_of_le (Heap.lt_size e) (I.ok.cab x c hfn hc)))).trans (I.base.keep b o e n hb hx)
    · obtain ⟨sl, e1⟩ := I.base.slot b o e n hb hx
      exact ⟨sl, (hs.2 b (Nat.ne_of_lt (Nat.lt_of_lt_of_le (Heap.lt_size e) (I.ok.cab x c hfn hc)))).trans e1⟩
    · obtain ⟨o', e1⟩ := I.base.there b o e hx
      exact ⟨o', (hs.2 b (Nat.ne_of_lt (Nat.lt_of_lt_of_le (Heap.lt_size e) (I.ok.cab x c hfn hc)))).trans e1⟩
    · by_cases hj : j = i
      · subst hj
        rw [hi] at e1; cases e1
        rw [List.getElem?_set_self hiσ] at e2
        cases e2
        exact ⟨u, r, .inr ⟨.inl hk, c, hc, hc'⟩⟩
      · rw [List.getElem?_set_ne (Ne.symm hj)] at e2
        obtain ⟨u', r', q⟩ := hl j y v' e1 e2 e3
        refine ⟨u', r', ?_⟩
        rcases q with q | ⟨k, c', e, z'⟩
        · exact .inl q
        · refine .inr ⟨k, c', e, z'.sameBut hs ?_⟩
          rintro rfl
          exact hj (nodup_ix hN e1 (I.ok.inj _ _ _ e hc ▸ hi))
    · by_cases hcc : c' = c
      · subst hcc; exact ⟨_, hc'⟩
      · obtain ⟨w2, z2⟩ := I.cell y c' e
        exact ⟨w2, z2.sameBut hs hcc⟩
    · obtain ⟨e, n, ne, nf, d⟩ := I.pin p hp
      refine ⟨(hs.2 p.1 ?_).trans e, n, ne, nf, d⟩
      intro q
      rw [q, hoc] at e
      have q' : oc = p.2 := Option.some.inj e
      exact d w' (by rw [← q']; exact hocd)
theorem store_ok {M : Model} {A : Around} {E : Value → Shared → Prop} {i : Nat} {x : Str} {v : V} {u : Value} {Q : Unit → Shared → Prop} (I : Inv X pins σ H s) (hN : X.N.Nodup) (hi : X.N[i]? = some x) (hx : Loc X.env.scope x) (r : RelV v u)
    (h : ∀ s', Inv X pins (σ.set i (some v)) H s' → Q () s') (hf : X.fn x = true ∨ X.env.scope.names.lookup x = some .local := by first | exact .inl rfl | exact .inr rfl | assumption) : wpAny M A (storeName X.env x u) Q E s :=
  store_ok2 I hN hi hx r (fun s' I' _ => h s' I') hf
theorem Inv.call' {s' : Shared} {ch : List Addr} (I : Inv X pins σ H s) (ho : s'.os = s.os) (u : Un (frs X.stack) ch H H' s.heap s'.heap) (hok : HOk X.prog X.w H' s'.heap) (hg : AllBare s'.gens)
    (hch : ∀ b ∈ ch, (b ∈ X.ex ∨ X.s₀.heap.objs.size ≤ b) ∧ b ≠ X.env.locals ∧ (∀ x c, X.env.cells.lookup x = some c → c ≠ b) ∧ ∀ p ∈ X.pn ++ pins, p.1 ≠ b) : Inv X pins σ H' s' := by
  obtain ⟨h', g', d', t', o'⟩ := s'
  have e : o' = s.os := ho
  subst e
  exact I.call (g' := g') (t' := t') (d' := d') u hok hg hch
end
abbrev XK := Value → Option Addr → Hp → Prop
abbrev St := List (Option V)
abbrev VK := V → Hp → Prop
abbrev TE := St → Hp → VK → Prop
abbrev TT := St → Hp → (Bool → Hp → Prop) → Prop
abbrev TA := St → Hp → (List V → Hp → Prop) → Prop
structure Ends where
  nx : St → Hp → Prop
  rt : VK
  bk : St → Hp → Prop := fun _ _ => False
  ct : St → Hp → Prop := fun _ _ => False
abbrev TS := Ends → St → Hp → Prop
inductive EPS (X : Cx) (pins : List (Addr × Obj)) (σ : St) (Q : VK) (u : Value) (s' : Shared) : Prop
  | mk (v : V) (H' : Hp) (h0 : Inv X pins σ H' s') (h1 : RelV v u) (h2 : Q v H') : EPS X pins σ Q u s'
noncomputable def EP (X : Cx) (pins : List (Addr × Obj)) (σ : St) (Q : VK) (u : Value) (s' : Shared) : Prop := EPS X pins σ Q u s'
noncomputable def TP (X : Cx) (pins : List (Addr × Obj)) (σ : St) (Q : Bool → Hp → Prop) (b : Bool) (s' : Shared) : Prop := ∃ H', Inv X pins σ H' s' ∧ Q b H'
inductive APS (X : Cx) (pins : List (Addr × Obj)) (σ : St) (Q : List V → Hp → Prop) (us : List Value) (s' : Shared) : Prop
  | mk (vs : List V) (H' : Hp) (h0 : Inv X pins σ H' s') (h1 : Vals vs us) (h2 : Q vs H') : APS X pins σ Q us s'
noncomputable def AP (X : Cx) (pins : List (Addr × Obj)) (σ : St) (Q : List V → Hp → Prop) (us : List Value) (s' : Shared) : Prop := APS X pins σ Q us s'
noncomputable def SP (X : Cx) (pins : List (Addr × Obj)) (D : Ends) (f : Flow) (s' : Shared) : Prop :=
  match f with
  | .next => ∃ σ' H', Inv X pins σ' H' s' ∧ D.nx σ' H'
  | .brk => ∃ σ' H', Inv X pins σ' H' s' ∧ D.bk σ' H'
  | .cont => ∃ σ' H', Inv X pins σ' H' s' ∧ D.ct σ' H'
  | .ret u => ∃ v σ' H', Inv X pins σ' H' s' ∧ RelV v u ∧ D.rt v H'
noncomputable def PE (X : Cx) (e : Expr) (t : TE) : Prop :=
  ∀ (pins : List (Addr × Obj)) (s : Shared) (σ : St) (H : Hp) (Q : VK), Inv X pins σ H s → t σ H Q → wpAny (model X.prog X.w) X.A (eval e X.env) (EP X pins σ Q) X.xe s
noncomputable def PT (X : Cx) (e : Expr) (t : TT) : Prop :=
  ∀ (pins : List (Addr × Obj)) (s : Shared) (σ : St) (H : Hp) (Q : Bool → Hp → Prop), Inv X pins σ H s → t σ H Q → wpAny (model X.prog X.w) X.A (isTrue e X.env (eval e X.env)) (TP X pins σ Q) X.xe s
noncomputable def PW (X : Cx) (e : Expr) (t : TT) : Prop :=
  ∀ (whole : Sem Value) (pins : List (Addr × Obj)) (s : Shared) (σ : St) (H : Hp) (Q : Bool → Hp → Prop), Inv X pins σ H s → t σ H Q → wpAny (model X.prog X.w) X.A (isTrue e X.env whole) (TP X pins σ Q) X.xe s
theorem PW.pt {X : Cx} {e : Expr} {t : TT} (h : PW X e t) : PT X e t := h _
noncomputable def PA (X : Cx) (es : List Expr) (t : TA) : Prop :=
  ∀ (pos : Pos) (pins : List (Addr × Obj)) (s : Shared) (σ : St) (H : Hp) (Q : List V → Hp → Prop), Inv X pins σ H s → t σ H Q → wpAny (model X.prog X.w) X.A (spliced (backTo pos (starEach es X.env))) (AP X pins σ Q) X.xe s
noncomputable def PS (X : Cx) (st : Stmt) (t : TS) : Prop :=
  ∀ (pins : List (Addr × Obj)) (s : Shared) (σ : St) (H : Hp) (D : Ends), Inv X pins σ H s → t D σ H → wpAny (model X.prog X.w) X.A (exec st X.env) (SP X pins D) X.xe s
noncomputable def PSs (X : Cx) (st : List Stmt) (t : TS) : Prop :=
  ∀ (pins : List (Addr × Obj)) (s : Shared) (σ : St) (H : Hp) (D : Ends), Inv X pins σ H s → t D σ H → wpAny (model X.prog X.w) X.A (execs st X.env) (SP X pins D) X.xe s
theorem thn {α : Type} {t : Sem α} {Q Q' : α → Shared → Prop} {M : Model} {A : Around} {E : Value → Shared → Prop} {s : Shared} (h : wpAny M A t Q E s) (hQ : ∀ a s, Q a s → Q' a s) : wpAny M A t Q' E s := wpAny_mono h hQ fun _ _ x => x
end L2
namespace L2
open PySem PySem.Spec PyProof.Rows
section
variable {X : Cx}
inductive tVarS (i : Nat) (σ : St) (H : Hp) (Q : VK) : Prop
  | mk (v : V) (h0 : σ[i]? = some (some v)) (h1 : Q v H) : tVarS i σ H Q
noncomputable def tVar (i : Nat) : TE := fun σ H Q => tVarS i σ H Q
noncomputable def tC (v : V) : TE := fun _ H Q => Q v H
theorem pe_var {i : Nat} {x : Str} {pos : Pos} (hN : X.N[i]? = some x) (hv : Vis X.env.scope x) (hd : (x == ("__debug__" : Str)) = false := by decide) (hcd : (x == ("__classdict__" : Str)) = false := by decide) : PE X (.Name x pos) (tVar i) := by
  intro pins s σ H Q I h
  obtain ⟨v, e, h⟩ := h
  obtain ⟨m, hn, hl⟩ := I.loc
  obtain ⟨u, r, l⟩ := hl i x v hN e hv
  have fin : EP X pins σ Q u s := ⟨v, H, I, r, h⟩
  rcases l with ⟨hk, hm⟩ | ⟨hk, c, hc, hcell⟩
  · exact wpAny_Name (wpAny_loadName_local I.ok.kind hk hn hm fin) hd
  · rcases hk with hk | hk
    · exact wpAny_Name (wpAny_loadName_cell I.ok.kind hk hc hcell fin) hd
    · exact wpAny_Name (wpAny_loadName_free I.ok.kind hk hc hcell fin hcd) hd
theorem pe_int {i j pos} : PE X (.Constant (.int i) j pos) (tC (.int i)) := fun _ _ _ H _ I h => wpAny_Constant_int ⟨.int i, H, I.tok _, ⟨_, rfl⟩, h⟩
theorem pe_bl {b j pos} : PE X (.Constant (.bool b) j pos) (tC (.bl b)) := fun _ _ _ H _ I h => Constant_bool ⟨.bl b, H, I, rfl, h⟩
theorem pe_non {j pos} : PE X (.Constant .none j pos) (tC .non) := fun _ _ _ H _ I h => Constant_none ⟨.non, H, I, rfl, h⟩
theorem pe_str {x j pos} : PE X (.Constant (.str x) j pos) (tC (.str x)) := fun _ _ _ H _ I h => Calls.Constant_str ⟨.str x, H, I.tok _, ⟨_, rfl⟩, h⟩
noncomputable def Gl (X : Cx) (x : Str) : Prop := X.env.kindOf x = some .globalImplicit
theorem ld_glob {E : Value → Shared → Prop} {pins : List (Addr × Obj)} {s : Shared} {σ : St} {H : Hp} {x : Str} {u : Value} {pos : Pos} {Q : Value → Shared → Prop} (I : Inv X pins σ H s) (hg : Gl X x) (hm : X.mg x = some u) (h : Q u s)
    (hd : (x == ("__debug__" : Str)) = false := by decide) : wpAny (model X.prog X.w) X.A (eval (.Name x pos) X.env) Q E s :=
  Calls.Name_function_global I.ok.kind hg (Calls.loadGlobal_global (by rw [I.ok.glob]; exact I.mod.glob.keeps I.bk) hm h) hd
theorem ld_blt {E : Value → Shared → Prop} {pins : List (Addr × Obj)} {s : Shared} {σ : St} {H : Hp} {x : Str} {u : Value} {pos : Pos} {Q : Value → Shared → Prop} (I : Inv X pins σ H s) (hg : Gl X x) (hm : X.mg x = none) (hv : bootBuiltins x = some u) (h : Q u s)
    (hn : x ≠ "__name__" := by decide) (hd : (x == ("__debug__" : Str)) = false := by decide) : wpAny (model X.prog X.w) X.A (eval (.Name x pos) X.env) Q E s := by
  obtain ⟨mb, h1, h2⟩ := I.mod.blt
  exact Calls.Name_function_global I.ok.kind hg (Calls.loadGlobal_builtin (by rw [I.ok.glob]; exact I.mod.glob.keeps I.bk) hm (by rw [I.ok.blt]; exact h1.keeps I.bk) ((h2 x hn).trans hv) h) hd
theorem pe_glob {x : Str} {v : V} {u : Value} {pos : Pos} (hg : Gl X x) (hm : X.mg x = some u) (r : RelV v u) (hd : (x == ("__debug__" : Str)) = false := by decide) : PE X (.Name x pos) (tC v) :=
  fun _ _ _ H _ I h => ld_glob I hg hm ⟨v, H, I, r, h⟩ hd
variable {a b : Expr} {ta tb : TE} {pos : Pos}
noncomputable def PC (X : Cx) (op : CmpOp) (a b : Expr) (t : TE) : Prop :=
  ∀ (pins : List (Addr × Obj)) (s : Shared) (σ : St) (H : Hp) (Q : VK), Inv X pins σ H s → t σ H Q →
    wpAny (model X.prog X.w) X.A (eval a X.env) (fun v s₁ => wpAny (model X.prog X.w) X.A (eval b X.env) (fun u s₂ => wpAny (model X.prog X.w) X.A (compareOp op v u) (EP X pins σ Q) X.xe s₂) X.xe s₁) X.xe s
inductive tBS (x : V) (H1 : Hp) (Q : Bool → Hp → Prop) : Prop
  | mk (c : Bool) (h0 : x = .bl c) (h1 : Q c H1) : tBS x H1 Q
noncomputable def tB (t : TE) : TT := fun σ H Q => t σ H fun x H1 => tBS x H1 Q
theorem pe_cmp {op : CmpOp} {t : TE} (h : PC X op a b t) (h1 : behindInMarks op b = false := by first | exact nobehind _ (by decide) (by decide) | rfl) : PE X (.Compare a [op] [b] pos) t := fun pins s σ H Q I hw => wpAny_Compare1 (h pins s σ H Q I hw) h1
theorem pt_cmp {op : CmpOp} {t : TE} (h : PC X op a b t) (h1 : behindInMarks op b = false := by first | exact nobehind _ (by decide) (by decide) | rfl) : PT X (.Compare a [op] [b] pos) (tB t) := by
  intro pins s σ H Q I hw
  refine wpAny_isTrue_Compare1 (thn (h pins s σ H _ I hw) fun v s1 h1 => thn h1 fun u s2 h2 => thn h2 fun c s3 ⟨x, H1, I1, r1, q1⟩ => ?_) h1
  obtain ⟨d, rfl, q⟩ := q1
  cases r1
  exact wpAny_truthy_bool ⟨H1, I1, q⟩
theorem pt_val {e : Expr} {t : TE} (h : PE X e t) (he : ∀ whole, isTrue e X.env whole = (do let v ← whole; standAt e.pos; holding [v] (truthy v)) := by intro _; rfl) : PT X e (tB t) := by
  intro pins s σ H Q I hw
  refine isTrue_plain (thn (h pins s σ H _ I hw) fun v s1 ⟨x, H1, I1, r1, q1⟩ => ?_) (he _)
  obtain ⟨d, rfl, q⟩ := q1
  cases r1
  exact wpAny_truthy_bool ⟨H1, I1, q⟩
variable {tA tB' : TT} {rest : List Expr}
noncomputable def tAnd (t u : TT) : TT := fun σ H Q => t σ H fun c H1 => if c = true then u σ H1 Q else Q false H1
noncomputable def tOr (t u : TT) : TT := fun σ H Q => t σ H fun c H1 => if c = true then Q true H1 else u σ H1 Q
noncomputable def tNot (t : TT) : TT := fun σ H Q => t σ H fun c H1 => Q (!c) H1
theorem pw_and1 (ha : PT X a tA) : PW X (.BoolOp .And [a] pos) tA := by
  intro wh pins s σ H Q I h
  refine isTrue_and (thn (ha pins s σ H Q I h) fun c s1 e => ?_)
  cases c with
  | true => exact isTrue_and_nil e
  | false => exact e
theorem pw_or1 (ha : PT X a tA) : PW X (.BoolOp .Or [a] pos) tA := by
  intro wh pins s σ H Q I h
  refine isTrue_or (thn (ha pins s σ H Q I h) fun c s1 e => ?_)
  cases c with
  | false => exact isTrue_or_nil e
  | true => exact e
theorem pw_and (ha : PT X a tA) (hb : PW X (.BoolOp .And (b :: rest) pos) tB') : PW X (.BoolOp .And (a :: b :: rest) pos) (tAnd tA tB') := by
  intro wh pins s σ H Q I h
  refine isTrue_and (thn (ha pins s σ H _ I h) fun c s1 zq => ?_)
  obtain ⟨H1, I1, q1⟩ := zq
  cases c with
  | true => exact hb wh pins s1 σ H1 Q I1 q1
  | false => exact ⟨H1, I1, q1⟩
theorem pw_or (ha : PT X a tA) (hb : PW X (.BoolOp .Or (b :: rest) pos) tB') : PW X (.BoolOp .Or (a :: b :: rest) pos) (tOr tA tB') := by
  intro wh pins s σ H Q I h
  refine isTrue_or (thn (ha pins s σ H _ I h) fun c s1 zq => ?_)
  obtain ⟨H1, I1, q1⟩ := zq
  cases c with
  | true => exact ⟨H1, I1, q1⟩
  | false => exact hb wh pins s1 σ H1 Q I1 q1
theorem pt_not (ha : PT X a tA) : PT X (.UnaryOp .Not a pos) (tNot tA) := by
  intro pins s σ H Q I h
  exact isTrue_not (ha pins s σ H (fun c H1 => Q (!c) H1) I h)
inductive tAndVS (tb : TE) (σ : St) (x : V) (H1 : Hp) (Q : VK) : Prop
  | mk (c : Bool) (h0 : x = .bl c) (h1 : if c = true then tb σ H1 Q else Q (.bl false) H1) : tAndVS tb σ x H1 Q
noncomputable def tAndV (ta tb : TE) : TE := fun σ H Q => ta σ H fun x H1 => tAndVS tb σ x H1 Q
inductive tOrVS (tb : TE) (σ : St) (x : V) (H1 : Hp) (Q : VK) : Prop
  | mk (c : Bool) (h0 : x = .bl c) (h1 : if c = true then Q (.bl true) H1 else tb σ H1 Q) : tOrVS tb σ x H1 Q
noncomputable def tOrV (ta tb : TE) : TE := fun σ H Q => ta σ H fun x H1 => tOrVS tb σ x H1 Q
theorem pe_one {op} {t : TE} (h : PE X a t) : PE X (.BoolOp op [a] pos) t := fun pins s σ H Q I hw => BoolOp_one (h pins s σ H Q I hw)
theorem pe_and (ha : PE X a ta) (hb : PE X (.BoolOp .And (b :: rest) pos) tb) : PE X (.BoolOp .And (a :: b :: rest) pos) (tAndV ta tb) := by
  intro pins s σ H Q I h
  refine BoolOp_and (thn (ha pins s σ H _ I h) fun v s1 zq => ?_)
  obtain ⟨x, H1, I1, r1, q1⟩ := zq
  obtain ⟨c, rfl, q1⟩ := q1
  cases r1
  refine wpAny_truthy_bool ?_
  cases c with
  | true => exact hb pins s1 σ H1 Q I1 q1
  | false => exact ⟨.bl false, H1, I1, rfl, q1⟩
theorem pe_or (ha : PE X a ta) (hb : PE X (.BoolOp .Or (b :: rest) pos) tb) : PE X (.BoolOp .Or (a :: b :: rest) pos) (tOrV ta tb) := by
  intro pins s σ H Q I h
  refine BoolOp_or (thn (ha pins s σ H _ I h) fun v s1 zq => ?_)
  obtain ⟨x, H1, I1, r1, q1⟩ := zq
  obtain ⟨c, rfl, q1⟩ := q1
  cases r1
  refine wpAny_truthy_bool ?_
  cases c with
  | false => exact hb pins s1 σ H1 Q I1 q1
  | true => exact ⟨.bl true, H1, I1, rfl, q1⟩
noncomputable def tIf (t : TT) (ta tb : TE) : TE := fun σ H Q => t σ H fun c H1 => if c = true then ta σ H1 Q else tb σ H1 Q
theorem pe_ifExp {c : Expr} (hc : PT X c tA) (ha : PE X a ta) (hb : PE X b tb) : PE X (.IfExp c a b pos) (tIf tA ta tb) := by
  intro pins s σ H Q I h
  refine wpAny_IfExp (thn (hc pins s σ H _ I h) fun d s1 zq => ?_)
  obtain ⟨H1, I1, q1⟩ := zq
  cases d with
  | true => exact ha pins s1 σ H1 Q I1 q1
  | false => exact hb pins s1 σ H1 Q I1 q1
end
end L2
namespace L2
open PySem PySem.Spec PyProof.Rows
noncomputable def SqL (K : PySem.W.Frag) (H : Hp) (a : Addr) (xs : List V) : Prop :=
  Rd H a (.lst xs) ∨
    ∃ (o : Obj) (its : Array Value) (n : Nat), K.lookup a = some o ∧ o.cls = .type "list" ∧ o.dict = none ∧ o.data = .seq its n ∧ its.size ≤ sizeLine ∧ Vals xs its.toList
noncomputable def SqT (K : PySem.W.Frag) (H : Hp) (a : Addr) (xs : List V) : Prop :=
  Rd H a (.tup xs) ∨
    ∃ (o : Obj) (its : Array Value) (n : Nat), K.lookup a = some o ∧ o.cls = .type "tuple" ∧ o.data = .seq its n ∧ its.size ≤ sizeLine ∧ Vals xs its.toList
noncomputable def absV : Value → Option V
  | .none => some .non
  | .bool b => some (.bl b)
  | .int i _ => some (.int i)
  | .str x _ => some (.str x)
  | .bytes b _ => some (.byt b)
  | .float b _ => some (.flt b)
  | .ref a => some (.ref a)
  | .type n => some (.ty n)
  | _ => none
theorem RelV.abs {x : V} {u : Value} (r : RelV x u) : absV u = some x := by
  cases x with
  | non => cases r; rfl
  | bl _ => cases r; rfl
  | int _ => obtain ⟨t, rfl⟩ := r; rfl
  | str _ => obtain ⟨t, rfl⟩ := r; rfl
  | byt _ => obtain ⟨t, rfl⟩ := r; rfl
  | flt _ => obtain ⟨t, rfl⟩ := r; rfl
  | ref _ => cases r; rfl
  | ty _ => cases r; rfl
theorem RelV.inj {x y : V} {u : Value} (r : RelV x u) (q : RelV y u) : x = y := Option.some.inj (r.abs.symm.trans q.abs)
theorem Vals.inj : ∀ {xs ys : List V} {us : List Value}, Vals xs us → Vals ys us → xs = ys
  | _, _, _, .nil, .nil => rfl
  | _, _, _, .cons r t, .cons r' t' => by rw [r.inj r', Vals.inj t t']
section
variable {X : Cx} {pins : List (Addr × Obj)} {σ : St} {H : Hp} {s : Shared} {a : Addr} {xs ys : List V}
theorem SqL.of {K : PySem.W.Frag} (h : H a = some (.lst xs)) : SqL K H a xs := .inl (.inl h)
theorem SqT.of {K : PySem.W.Frag} (h : H a = some (.tup xs)) : SqT K H a xs := .inl (.inl h)
theorem Inv.list (I : Inv X pins σ H s) (h : SqL X.K H a xs) : ∃ its : List Value, Vals xs its ∧ PlainL s.heap a its.toArray ∧ xs.length ≤ sizeLine := by
  rcases h with h | ⟨o, its, n, hk, hc, hd, hs, hz, r⟩
  · obtain ⟨z, its, n, r, e⟩ := h.ok I.hok
    exact ⟨its, r, ⟨_, n, e, rfl, rfl, rfl⟩, z⟩
  · refine ⟨its.toList, r, ⟨o, n, I.kIn a o hk, hc, hd, by simpa using hs⟩, ?_⟩
    have e := r.length
    simp only [Array.length_toList] at e
    lia
theorem Inv.tuple (I : Inv X pins σ H s) (h : SqT X.K H a xs) : ∃ its : List Value, Vals xs its ∧ IsTup s.heap a its.toArray ∧ xs.length ≤ sizeLine := by
  rcases h with h | ⟨o, its, n, hk, hc, hs, hz, r⟩
  · obtain ⟨z, its, r, p⟩ := h.ok I.hok
    exact ⟨its, r, p, z⟩
  · refine ⟨its.toList, r, ⟨o, I.kIn a o hk, hc, n, by simpa using hs⟩, ?_⟩
    have e := r.length
    simp only [Array.length_toList] at e
    lia
theorem Inv.list_inj (I : Inv X pins σ H s) (h : SqL X.K H a xs) (h' : SqL X.K H a ys) : xs = ys := by
  obtain ⟨its, r, ⟨o, n, e, _, _, d⟩, _⟩ := I.list h
  obtain ⟨its', r', ⟨o', n', e', _, _, d'⟩, _⟩ := I.list h'
  rw [e] at e'; cases e'
  rw [d] at d'
  injection d' with d1 _
  have : its = its' := by simpa using congrArg Array.toList d1
  subst this
  exact r.inj r'
theorem Inv.tuple_inj (I : Inv X pins σ H s) (h : SqT X.K H a xs) (h' : SqT X.K H a ys) : xs = ys := by
  obtain ⟨its, r, ⟨o, e, _, n, d⟩, _⟩ := I.tuple h
  obtain ⟨its', r', ⟨o', e', _, n', d'⟩, _⟩ := I.tuple h'
  rw [e] at e'; cases e'
  rw [d] at d'
  injection d' with d1 _
  have : its = its' := by simpa using congrArg Array.toList d1
  subst this
  exact r.inj r'
end
noncomputable abbrev Cx.wish (X : Cx) (E : Value → Shared → Prop) : Cx := { X with xe := E }
noncomputable abbrev Cx.nox (X : Cx) : Cx := X.wish fun _ _ => False
theorem Cx.Ok.wish {X : Cx} (ok : X.Ok) (E : Value → Shared → Prop) : (X.wish E).Ok :=
  ⟨ok.mod, ok.kind, ok.glob, ok.blt, ok.above, ok.inj, ok.has, ok.cab, ok.hd, ok.frames, ok.stk, ok.exf, ok.bs, ok.bsz, ok.noex, ok.exfs, ok.funs, ok.frf⟩
theorem Cx.Ok.unwish {X : Cx} {E : Value → Shared → Prop} (ok : (X.wish E).Ok) : X.Ok :=
  ⟨ok.mod, ok.kind, ok.glob, ok.blt, ok.above, ok.inj, ok.has, ok.cab, ok.hd, ok.frames, ok.stk, ok.exf, ok.bs, ok.bsz, ok.noex, ok.exfs, ok.funs, ok.frf⟩
section
variable {X : Cx} {pins : List (Addr × Obj)} {σ : St} {H : Hp} {s : Shared} {E : Value → Shared → Prop}
theorem Inv.wish (I : Inv X pins σ H s) (E : Value → Shared → Prop) : Inv (X.wish E) pins σ H s := ⟨I.ok.wish E, I.os, I.bare, I.base, I.loc, I.cell, I.free, I.freeC, I.pin, I.hok, I.len⟩
theorem Inv.unwish (I : Inv (X.wish E) pins σ H s) : Inv X pins σ H s := ⟨I.ok.unwish, I.os, I.bare, I.base, I.loc, I.cell, I.free, I.freeC, I.pin, I.hok, I.len⟩
theorem SP.unwish {D : Ends} {f : Flow} {s' : Shared} (h : SP (X.wish E) pins D f s') : SP X pins D f s' := by
  cases f with
  | next => obtain ⟨σ', H', I, q⟩ := h; exact ⟨σ', H', I.unwish, q⟩
  | brk => obtain ⟨σ', H', I, q⟩ := h; exact ⟨σ', H', I.unwish, q⟩
  | cont => obtain ⟨σ', H', I, q⟩ := h; exact ⟨σ', H', I.unwish, q⟩
  | ret u => obtain ⟨v, σ', H', I, r, q⟩ := h; exact ⟨v, σ', H', I.unwish, r, q⟩
theorem PSs.nox {st : List Stmt} {t : TS} (h : PSs X.nox st t) : PSs X st t := fun pins s σ H D I hw =>
  wpAny_mono (h pins s σ H D (I.wish _) hw) (fun _ _ q => q.unwish) fun _ _ z => False.elim z
end
section
variable {X : Cx} {st : Stmt} {rest : List Stmt} {t u : TS} {e : Expr} {te : TE} {pos : Pos}
noncomputable def tNext : TS := fun D σ H => D.nx σ H
noncomputable def tSeq (t u : TS) : TS := fun D σ H => t { D with nx := u D } σ H
theorem pss_nil : PSs X [] tNext := fun _ _ σ H _ I h => wpAny_execs_nil ⟨σ, H, I, h⟩
theorem pss_cons (h1 : PS X st t) (h2 : PSs X rest u) : PSs X (st :: rest) (tSeq t u) := by
  intro pins s σ H D I h
  refine wpAny_execs_cons (thn (h1 pins s σ H { D with nx := u D } I h) fun f s1 q => ?_)
  cases f with
  | next =>
    obtain ⟨σ', H', I', q⟩ := q
    exact h2 pins s1 σ' H' D I' q
  | ret v => exact q
  | brk => exact q
  | cont => exact q
theorem pss_one (h1 : PS X st t) : PSs X [st] t := by
  intro pins s σ H D I h
  refine wpAny_execs_cons (thn (h1 pins s σ H D I h) fun f s1 q => ?_)
  cases f with
  | next => exact wpAny_execs_nil q
  | ret v => exact q
  | brk => exact q
  | cont => exact q
noncomputable def tBreak : TS := fun D σ H => D.bk σ H
noncomputable def tCont : TS := fun D σ H => D.ct σ H
theorem ps_break : PS X (.Break pos) tBreak := fun _ _ σ H _ I h => wpAny_Break ⟨σ, H, I, h⟩
theorem ps_continue : PS X (.Continue pos) tCont := fun _ _ σ H _ I h => wpAny_Continue ⟨σ, H, I, h⟩
theorem Inv.quiet {pins : List (Addr × Obj)} {σ : St} {H : Hp} {s : Shared} (I : Inv X pins σ H s) : interactive X.env = false := by simp [interactive, I.ok.kind]
noncomputable def tDrop (te : TE) : TS := fun D σ H => te σ H fun _ H1 => D.nx σ H1
theorem ps_expr (he : PE X e te) (hs : swapsWith e none pos.line X.env = pure false := by rfl) : PS X (.Expr e pos) (tDrop te) := by
  intro pins s σ H D I h
  exact wpAny_Expr_any (thn (he pins s σ H _ I h) fun v s1 ⟨x, H1, I1, r1, q1⟩ => ⟨σ, H1, I1, q1⟩) I.quiet hs
noncomputable def tRet (te : TE) : TS := fun D σ H => te σ H D.rt
theorem ps_ret (he : PE X e te) : PS X (.Return (some e) pos) (tRet te) := by
  intro pins s σ H D I h
  exact wpAny_Return_some (thn (he pins s σ H _ I h) fun v s1 ⟨x, H1, I1, r1, q1⟩ => ⟨x, σ, H1, I1, r1, q1⟩)
noncomputable def tIfS (c : TT) (t u : TS) : TS := fun D σ H => c σ H fun b H1 => if b = true then t D σ H1 else u D σ H1
theorem ps_if {c : Expr} {a b : List Stmt} {tc : TT} (hc : PT X c tc) (ha : PSs X a t) (hb : PSs X b u) : PS X (.If c a b pos) (tIfS tc t u) := by
  intro pins s σ H D I h
  refine wpAny_If (thn (hc pins s σ H _ I h) fun d s1 zq => ?_)
  obtain ⟨H1, I1, q1⟩ := zq
  cases d with
  | true => exact ha pins s1 σ H1 D I1 q1
  | false => exact hb pins s1 σ H1 D I1 q1
end
abbrev TG := V → St → Hp → (St → Hp → Prop) → Prop
abbrev TGs := List V → St → Hp → (St → Hp → Prop) → Prop
noncomputable def PG (X : Cx) (target : Expr) (t : TG) : Prop :=
  ∀ (pins : List (Addr × Obj)) (s : Shared) (σ : St) (H : Hp) (v : V) (u : Value) (Q : St → Hp → Prop), Inv X pins σ H s → RelV v u → t v σ H Q →
    wpAny (model X.prog X.w) X.A (assign target X.env u) (fun _ s' => ∃ σ' H', Inv X pins σ' H' s' ∧ Q σ' H') X.xe s
noncomputable def PGs (X : Cx) (ts : List Expr) (t : TGs) : Prop :=
  ∀ (pins : List (Addr × Obj)) (s : Shared) (σ : St) (H : Hp) (vs : List V) (us : List Value) (Q : St → Hp → Prop), Inv X pins σ H s → Vals vs us → t vs σ H Q →
    wpAny (model X.prog X.w) X.A (assignInOrder ((assignEach ts X.env).map (·.2)) us) (fun _ s' => ∃ σ' H', Inv X pins σ' H' s' ∧ Q σ' H') X.xe s
abbrev TSet := V → V → V → Hp → (Hp → Prop) → Prop
noncomputable def PSet (X : Cx) (t : TSet) : Prop :=
  ∀ (pins : List (Addr × Obj)) (s : Shared) (σ : St) (H : Hp) (o i v : V) (ov iv u : Value) (Q : Hp → Prop), Inv X pins σ H s → RelV o ov → RelV i iv → RelV v u → t o i v H Q →
    wpAny (model X.prog X.w) X.A (setItem ov iv u) (fun _ s' => ∃ H', Inv X pins σ H' s' ∧ Q H') X.xe s
section
variable {X : Cx} {pos : Pos}
noncomputable def gName (i : Nat) : TG := fun v σ H Q => Q (σ.set i (some v)) H
theorem pg_name {i : Nat} {x : Str} (hN : X.N.Nodup) (hi : X.N[i]? = some x) (hx : Loc X.env.scope x) (hf : X.fn x = true ∨ X.env.scope.names.lookup x = some .local := by first | exact .inl rfl | exact .inr rfl | assumption) : PG X (.Name x pos) (gName i) := by
  intro pins s σ H v u Q I r h
  exact wpAny_assign_Name (store_ok I hN hi hx r (fun s' I' => ⟨_, H, I', h⟩) hf)
noncomputable def gNil : TGs := fun vs σ H Q => vs = [] ∧ Q σ H
inductive gConsS (t : TG) (u : TGs) (vs : List V) (σ : St) (H : Hp) (Q : St → Hp → Prop) : Prop
  | mk (v : V) (r : List V) (h0 : vs = v :: r) (h1 : t v σ H fun σ' H' => u r σ' H' Q) : gConsS t u vs σ H Q
noncomputable def gCons (t : TG) (u : TGs) : TGs := fun vs σ H Q => gConsS t u vs σ H Q
theorem pgs_nil : PGs X [] gNil := by
  intro pins s σ H vs us Q I r h
  obtain ⟨e, h⟩ := h
  subst e
  cases r
  exact assignInOrder_nil ⟨σ, H, I, h⟩
theorem pgs_cons {e : Expr} {es : List Expr} {t : TG} {u : TGs} (h1 : PG X e t) (h2 : PGs X es u)
    (hs : (assignEach (e :: es) X.env).map (·.2) = assign e X.env :: (assignEach es X.env).map (·.2) := by rfl) : PGs X (e :: es) (gCons t u) := by
  intro pins s σ H vs us Q I r h
  obtain ⟨v, vr, e1, h⟩ := h
  subst e1
  cases r with
  | cons r rr =>
    rw [hs]
    refine assignInOrder_cons (thn (h1 pins s σ H _ _ _ I r h) fun _ s1 zq => ?_)
    obtain ⟨σ1, H1, I1, q1⟩ := zq
    exact h2 pins s1 σ1 H1 _ _ Q I1 rr q1
inductive gTupS (K : PySem.W.Frag) (n : Nat) (t : TGs) (v : V) (σ : St) (H : Hp) (Q : St → Hp → Prop) : Prop
  | mk (a : Addr) (xs : List V) (h0 : v = .ref a) (h1 : SqT K H a xs) (h2 : xs.length = n) (h3 : t xs σ H Q) : gTupS K n t v σ H Q
noncomputable def gTup (K : PySem.W.Frag) (n : Nat) (t : TGs) : TG := fun v σ H Q => gTupS K n t v σ H Q
theorem pg_tup {es : List Expr} {k : Nat} {t : TGs} {n : Nat} (hc : X.calm = true) (h : PGs X es t)
    (hn : (assignEach es X.env).length = n := by rfl) (hst : (assignEach es X.env).findIdx? (·.1) = none := by rfl) : PG X (.Tuple es k pos) (gTup X.K n t) := by
  intro pins s σ H v u Q I r hw
  obtain ⟨a, xs, e1, hq, hl, hw⟩ := hw
  subst e1
  cases r
  obtain ⟨its, rv, ht, hz⟩ := I.tuple hq
  refine assign_Tuple_tuple (I.ok.hd hc) ht (by simp [hn, ← hl, rv.length]) hst fun h' hx => ?_
  have I1 : Inv X pins σ H { s with heap := h' } := I.kept (t' := s.toks) fun b o e => hx b o (Nat.ne_of_lt (Heap.lt_size e)) e
  exact h pins _ σ H xs _ Q I1 (by simpa using rv) hw
noncomputable def gSub (to ti : TE) (t : TSet) : TG := fun v σ H Q => to σ H fun o H1 => ti σ H1 fun i H2 => t o i v H2 fun H3 => Q σ H3
theorem pg_sub {o i : Expr} {to ti : TE} {t : TSet} (ho : PE X o to) (hi : PE X i ti) (hs : PSet X t)
    (ha : ∀ v, assign (.Subscript o i pos) X.env v = (do
      let ov ← holding [v] (eval o X.env)
      let iv ← holding [v, ov] (eval i X.env)
      standAt pos
      holding [v, ov, iv] (setItem ov iv v)
      release [v, ov, iv] []) := by intro _; rfl) : PG X (.Subscript o i pos) (gSub to ti t) := by
  intro pins s σ H v u Q I r h
  rw [ha]
  refine wpAny_bind (wpAny_holding (thn (ho pins s σ H _ I h) fun ov s1 zq => ?_))
  obtain ⟨x, H1, I1, r1, q1⟩ := zq
  refine wpAny_bind (wpAny_holding (thn (hi pins s1 σ H1 _ I1 q1) fun iv s2 zq => ?_))
  obtain ⟨y, H2, I2, r2, q2⟩ := zq
  refine wpAny_bind (wpAny_standAt (wpAny_bind (wpAny_holding (thn (hs pins s2 σ H2 x y v ov iv u _ I2 r1 r2 r q2) fun _ s3 zq => ?_))))
  obtain ⟨H3, I3, q3⟩ := zq
  exact wpAny_release ⟨σ, H3, I3, q3⟩
noncomputable def tAsg (te : TE) (g : TG) : TS := fun D σ H => te σ H fun x H1 => g x σ H1 D.nx
theorem ps_asg {tg e : Expr} {te : TE} {g : TG} (he : PE X e te) (hg : PG X tg g) (hs : swapsWithSole [tg] e pos.line X.env = pure false := by rfl) (hw : swappedStores [tg] e X.env = pure none := by rfl)
    (h1 : (assignEach [tg] X.env).map (·.2) = [assign tg X.env] := by rfl) : PS X (.Assign [tg] e pos) (tAsg te g) := by
  intro pins s σ H D I h
  refine wpAny_Assign_stores (thn (he pins s σ H _ I h) fun v s1 ⟨x, H1, I1, r1, q1⟩ => ?_) hs hw
  rw [h1]
  exact thn (hg pins s1 σ H1 x v _ I1 r1 q1) fun _ s2 q => q
theorem ps_set {i : Nat} {x : Str} {e : Expr} {te : TE} {pos' : Pos} (hN : X.N.Nodup) (hi : X.N[i]? = some x) (hx : Loc X.env.scope x) (he : PE X e te) (hs : swapsWith e (some (.Name x pos')) pos.line X.env = pure false := by rfl) (hf : X.fn x = true ∨ X.env.scope.names.lookup x = some .local := by first | exact .inl rfl | exact .inr rfl | assumption) :
    PS X (.Assign [.Name x pos'] e pos) (tAsg te (gName i)) := by
  intro pins s σ H D I h
  refine wpAny_Assign_Name (thn (he pins s σ H _ I h) fun v s1 ⟨y, H1, I1, r1, q1⟩ => ?_) hs
  exact store_ok I1 hN hi hx r1 (fun s2 I2 => ⟨_, H1, I2, q1⟩) hf
end
section
variable {X : Cx} {pos : Pos}
noncomputable def tWhile (c : TT) (tb : TS) : TS := fun D σ H => ∃ W : Nat → St → Hp → Prop, (∃ m, W m σ H) ∧ ∀ m σ H, W m σ H →
  c σ H fun b H1 => if b = true then ∃ N : St → Hp → Prop, (∀ σ' H', N σ' H' → ∃ m', m' < m ∧ W m' σ' H') ∧ tb { D with nx := N, ct := N, bk := D.nx } σ H1 else D.nx σ H1
theorem ps_while {c : Expr} {body : List Stmt} {tc : TT} {tb : TS} (hp : PassesOwn (model X.prog X.w) X.A X.env X.xe) (hc : PT X c tc) (hb : PSs X body tb) : PS X (.While c body [] pos) (tWhile tc tb) := by
  intro pins s σ H D I h
  obtain ⟨W, ⟨m0, w0⟩, turn⟩ := h
  refine wpAny_While (codeAny_whileLoop (fun n s' => ∃ σ' H', Inv X pins σ' H' s' ∧ W n σ' H') ?_ m0 ⟨σ, H, I, w0⟩)
  rintro n s1 ⟨σ1, H1, I1, w1⟩
  refine wpAny_passesOwn hp (thn (hc pins s1 σ1 H1 _ I1 (turn n σ1 H1 w1)) fun b s2 zq => ?_)
  obtain ⟨H2, I2, q2⟩ := zq
  cases b with
  | true =>
    obtain ⟨N, hN, q2⟩ := q2
    rw [if_pos rfl]
    refine wpAny_passesOwn hp (thn (hb pins s2 σ1 H2 _ I2 q2) fun f s3 q3 => ?_)
    cases f with
    | next =>
      obtain ⟨σ3, H3, I3, n3⟩ := q3
      obtain ⟨m', hm, w3⟩ := hN σ3 H3 n3
      exact ⟨m', hm, σ3, H3, I3, w3⟩
    | cont =>
      obtain ⟨σ3, H3, I3, n3⟩ := q3
      obtain ⟨m', hm, w3⟩ := hN σ3 H3 n3
      exact ⟨m', hm, σ3, H3, I3, w3⟩
    | brk => exact q3
    | ret v => exact q3
  | false =>
    rw [if_neg Bool.false_ne_true]
    exact wpAny_execs_nil ⟨σ1, H2, I2, q2⟩
end
structure It where
  go : Nat → Hp → Prop
  yld : Nat → Hp → V → Hp → Prop
  stop : Nat → Hp → Prop
noncomputable def FpOk (X : Cx) (pins : List (Addr × Obj)) (H : Hp) (b : Addr) : Prop :=
  H b = none ∧ b ≠ X.env.locals ∧ b ∉ X.fs ∧ (b ∈ X.ex ∨ X.s₀.heap.objs.size ≤ b) ∧ (∀ x c, X.env.cells.lookup x = some c → c ≠ b) ∧ ∀ p ∈ X.pn ++ pins, p.1 ≠ b
theorem Inv.fpOk {X : Cx} {pins : List (Addr × Obj)} {σ : St} {H H' : Hp} {s : Shared} {b : Addr} (I : Inv X pins σ H s) (hb : s.heap.objs.size ≤ b) (hn : H' b = none) : FpOk X pins H' b := by
  refine ⟨hn, Nat.ne_of_gt (Nat.lt_of_lt_of_le I.lt hb), I.nofs hb, .inr (Nat.le_trans I.sz hb), fun x c e z => ?_, fun p hp z => ?_⟩
  · obtain ⟨v, q⟩ := I.cell x c e
    exact absurd (Nat.lt_of_lt_of_le q.lt (by rw [z]; exact hb)) (Nat.lt_irrefl _)
  · exact absurd (Nat.lt_of_lt_of_le (Heap.lt_size (I.pin p hp).1) (by rw [z]; exact hb)) (Nat.lt_irrefl _)
structure Turn (P : Program) (w : World) (K : PySem.W.Frag) (tg : Expr) (J : It) (fp : List Addr) (it : Addr) (tn : Nat → Heap → Prop) : Prop where
  mem : it ∈ fp
  obj : ∀ i h, tn i h → ∀ b ∈ fp, ∃ o, h.get? b = some o ∧ ∀ v, o.data ≠ .cell v
  keep : ∀ i h h', tn i h → (∀ b ∈ fp, ∀ o, h.get? b = some o → h'.get? b = some o) → tn i h'
  item : ∀ (X : Cx), X.prog = P → X.w = w → X.K = K → X.calm = true → ∀ (i : Nat) (pins : List (Addr × Obj)) (s : Shared) (σ : St) (H : Hp) (E : Value → Shared → Prop), Inv X pins σ H s → (∀ b ∈ fp, FpOk X pins H b) → tn i s.heap → J.go i H →
    wpAny (model P w) X.A (pyNext (.ref it)) (fun r s1 => ∃ u, r = some u ∧
      wpAny (model P w) X.A (letOwnedTupleGo tg (.ref it) u) (fun _ s2 => ∃ x H', Inv X pins σ H' s2 ∧ RelV x u ∧ J.yld i H x H' ∧ tn (i + 1) s2.heap ∧ ∀ b ∈ fp, H' b = none) E s1) E s
  done : ∀ (X : Cx), X.prog = P → X.w = w → X.K = K → X.calm = true → ∀ (i : Nat) (pins : List (Addr × Obj)) (s : Shared) (σ : St) (H : Hp) (E : Value → Shared → Prop), Inv X pins σ H s → (∀ b ∈ fp, FpOk X pins H b) → tn i s.heap → J.stop i H →
    wpAny (model P w) X.A (pyNext (.ref it)) (fun r s1 => r = none ∧ Inv X pins σ H s1) E s
  self : ∀ (A : Around) (i : Nat) (s : Shared) (Q : Value → Shared → Prop) (E : Value → Shared → Prop), tn i s.heap → Q (.ref it) s → wpAny (model P w) A (pyIter (.ref it)) Q E s
abbrev TI := St → Hp → (It → Hp → Prop) → Prop
noncomputable def PIE (X : Cx) (pins : List (Addr × Obj)) (σ : St) (tg : Expr) (R : It → Hp → Prop) (itv : Value) (s2 : Shared) : Prop :=
  ∃ (it : Addr) (fp : List Addr) (tn : Nat → Heap → Prop) (J : It) (H' : Hp), itv = .ref it ∧ Inv X pins σ H' s2 ∧ Turn X.prog X.w X.K tg J fp it tn ∧ tn 0 s2.heap ∧ (∀ b ∈ fp, FpOk X pins H' b) ∧ R J H'
noncomputable def PI (X : Cx) (tg iter : Expr) (wi : TI) : Prop :=
  ∀ (pins : List (Addr × Obj)) (s : Shared) (σ : St) (H : Hp) (R : It → Hp → Prop), Inv X pins σ H s → wi σ H R →
    wpAny (model X.prog X.w) X.A (eval iter X.env) (fun v s1 => wpAny (model X.prog X.w) X.A (pyIter v) (PIE X pins σ tg R) X.xe s1) X.xe s
theorem go_of {M : Model} {A : Around} {E : Value → Shared → Prop} {s : Shared} {tg : Expr} {it : Addr} {u : Value} {o : Obj} {n : String} {vs : Array Value} {Q : Unit → Shared → Prop} (ho : s.heap.get? it = some o) (hc : o.cls = .type n) (hd : o.data = .fields vs)
    (hn : ["enumerate", "zip", "dict_itemiterator", "dict_reverseitemiterator", "odict_iterator", "itertools.zip_longest", "itertools.pairwise"].contains n = false) (hQ : Q () s) : wpAny M A (letOwnedTupleGo tg (.ref it) u) Q E s := by
  unfold letOwnedTupleGo
  cases tg <;> first
    | exact wpAny_pure hQ
    | (cases u <;> first
        | exact wpAny_pure hQ
        | (refine wpAny_bind (wpAny_load ho ?_)
           rw [hc, hd]
           show wpAny M A (if (["enumerate", "zip", "dict_itemiterator", "dict_reverseitemiterator", "odict_iterator", "itertools.zip_longest", "itertools.pairwise"].contains n && vs[0]? == some (rawInt _)) = true then _ else _) Q E s
           rw [if_neg (by intro h; rw [hn, Bool.false_and] at h; cases h)]
           exact wpAny_pure hQ))
noncomputable def Itl (K : PySem.W.Frag) (a : Addr) : It :=
  ⟨fun i H => ∃ xs x, SqL K H a xs ∧ xs[i]? = some x, fun i H x H' => H' = H ∧ ∀ xs, SqL K H a xs → xs[i]? = some x, fun i H => ∃ xs, SqL K H a xs ∧ xs.length ≤ i⟩
noncomputable def Itt (K : PySem.W.Frag) (a : Addr) : It :=
  ⟨fun i H => ∃ xs x, SqT K H a xs ∧ xs[i]? = some x, fun i H x H' => H' = H ∧ ∀ xs, SqT K H a xs → xs[i]? = some x, fun i H => ∃ xs, SqT K H a xs ∧ xs.length ≤ i⟩
noncomputable def Itr (lo : Int) (n : Nat) : It := ⟨fun i _ => i < n, fun i H x H' => H' = H ∧ x = .int (lo + i), fun i _ => n ≤ i⟩
theorem turn_list {P : Program} {w : World} {K : PySem.W.Frag} {tg : Expr} (a it : Addr) : Turn P w K tg (Itl K a) [it] it (fun i h => h.IsListIter it a i) where
  mem := by simp
  obj := fun i h st b hb => by
    have e : b = it := by simpa using hb
    subst e
    obtain ⟨o, e, c, d⟩ := st
    exact ⟨o, e, fun v z => by rw [d] at z; cases z⟩
  keep := fun i h h' st k => st.at fun o e => k it (by simp) o e
  item := by
    intro X hP hw hK hc i pins s σ H E I hf st hg
    subst hP hw hK
    obtain ⟨xs, x, hq, hx⟩ := hg
    obtain ⟨its, rv, p, hz⟩ := I.list hq
    obtain ⟨u, hu, ru⟩ := rv.get hx
    obtain ⟨f0, f1, f2, f3, f4, f5⟩ := hf it (by simp)
    refine wpAny_pyNext_list_item st p.isList (x := u) (by simpa using hu) fun h' st' sb => ?_
    have I1 : Inv X pins σ H { s with heap := h' } := I.turned (t' := s.toks) (fun b o hb e => (sb.2 b hb).trans e) f0 f1 f3 f4 f5
    obtain ⟨o, e, c, d⟩ := id st'
    exact ⟨u, rfl, go_of (s := { s with heap := h' }) e c d (by decide) ⟨x, H, I1, ru, ⟨rfl, fun ys hy => by rw [I.list_inj hy hq]; exact hx⟩, st', fun b hb => (hf b hb).1⟩⟩
  done := by
    intro X hP hw hK hc i pins s σ H E I hf st hg
    subst hP hw hK
    obtain ⟨xs, hq, hx⟩ := hg
    obtain ⟨its, rv, p, hz⟩ := I.list hq
    obtain ⟨f0, f1, f2, f3, f4, f5⟩ := hf it (by simp)
    have hl := rv.length
    exact wpAny_pyNext_list_end (I.ok.hd hc) st p.isList (by simp; lia) fun h' eb => ⟨rfl, I.turned (t' := s.toks) (fun b o hb e => eb b o hb e) f0 f1 f3 f4 f5⟩
  self := fun _ _ _ _ _ st h => wpAny_pyIter_listiter st h
theorem turn_tuple {P : Program} {w : World} {K : PySem.W.Frag} {tg : Expr} (a it : Addr) : Turn P w K tg (Itt K a) [it] it (fun i h => h.IsTupleIter it a i) where
  mem := by simp
  obj := fun i h st b hb => by
    have e : b = it := by simpa using hb
    subst e
    obtain ⟨o, e, c, d⟩ := st
    exact ⟨o, e, fun v z => by rw [d] at z; cases z⟩
  keep := fun i h h' st k => st.at fun o e => k it (by simp) o e
  item := by
    intro X hP hw hK hc i pins s σ H E I hf st hg
    subst hP hw hK
    obtain ⟨xs, x, hq, hx⟩ := hg
    obtain ⟨its, rv, p, hz⟩ := I.tuple hq
    obtain ⟨u, hu, ru⟩ := rv.get hx
    obtain ⟨f0, f1, f2, f3, f4, f5⟩ := hf it (by simp)
    refine wpAny_pyNext_tuple_item st (show s.heap.IsTuple a its.toArray from p) (x := u) (by simpa using hu) fun h' st' sb => ?_
    have I1 : Inv X pins σ H { s with heap := h' } := I.turned (t' := s.toks) (fun b o hb e => (sb.2 b hb).trans e) f0 f1 f3 f4 f5
    obtain ⟨o, e, c, d⟩ := id st'
    exact ⟨u, rfl, go_of (s := { s with heap := h' }) e c d (by decide) ⟨x, H, I1, ru, ⟨rfl, fun ys hy => by rw [I.tuple_inj hy hq]; exact hx⟩, st', fun b hb => (hf b hb).1⟩⟩
  done := by
    intro X hP hw hK hc i pins s σ H E I hf st hg
    subst hP hw hK
    obtain ⟨xs, hq, hx⟩ := hg
    obtain ⟨its, rv, p, hz⟩ := I.tuple hq
    obtain ⟨f0, f1, f2, f3, f4, f5⟩ := hf it (by simp)
    have hl := rv.length
    exact wpAny_pyNext_tuple_end (I.ok.hd hc) st (show s.heap.IsTuple a its.toArray from p) (by simp; lia) fun h' eb => ⟨rfl, I.turned (t' := s.toks) (fun b o hb e => eb b o hb e) f0 f1 f3 f4 f5⟩
  self := fun _ _ _ _ _ st h => wpAny_pyIter_tupleiter st h
theorem turn_range {P : Program} {w : World} {K : PySem.W.Frag} {tg : Expr} (it : Addr) (lo : Int) (n : Nat) : Turn P w K tg (Itr lo n) [it] it (fun i h => IsRangeIter h it (lo + (i : Nat) * 1) ((n : Int) - (i : Nat)) 1) where
  mem := by simp
  obj := fun i h st b hb => by
    have e : b = it := by simpa using hb
    subst e
    exact ⟨_, st, fun v z => by
      have z' : Data.fields _ = Data.cell v := z
      cases z'⟩
  keep := fun i h h' st k => k it (by simp) _ st
  item := by
    intro X hP hw hK hc i pins s σ H E I hf st hg
    subst hP hw hK
    obtain ⟨f0, f1, f2, f3, f4, f5⟩ := hf it (by simp)
    have W := Walks.range (prog := X.prog) (w := X.w) (I.ok.hd hc) it lo 1 n
    refine W.item i s _ _ hg st fun v h' tk hv st' kk => ?_
    obtain ⟨t, rfl⟩ := hv
    have I1 : Inv X pins σ H { s with heap := h', toks := tk } := I.turned (fun b o hb e => kk b o (by simpa using hb) e) f0 f1 f3 f4 f5
    refine ⟨_, rfl, go_of (s := { s with heap := h', toks := tk }) (n := "range_iterator") st' rfl rfl (by decide) ⟨.int (lo + i), H, I1, ⟨t, ?_⟩, ⟨rfl, rfl⟩, st', fun b hb => (hf b hb).1⟩⟩
    rw [Int.mul_one]
  done := by
    intro X hP hw hK hc i pins s σ H E I hf st hg
    subst hP hw hK
    obtain ⟨f0, f1, f2, f3, f4, f5⟩ := hf it (by simp)
    exact wpAny_pyNext_range_end (I.ok.hd hc) st (by have : n ≤ i := hg; lia) fun h' eb => ⟨rfl, I.turned (t' := s.toks) (fun b o hb e => eb b o hb e) f0 f1 f3 f4 f5⟩
  self := fun _ _ _ _ _ st h => wpAny_pyIter_rangeiter st h
end L2
namespace L2
open PySem PySem.Spec PyProof.Rows
section
variable {X : Cx} {tg : Expr}
inductive iListS (K : PySem.W.Frag) (x : V) (H1 : Hp) (R : It → Hp → Prop) : Prop
  | mk (a : Addr) (h0 : x = .ref a) (h1 : (∃ xs, SqL K H1 a xs)) (h2 : R (Itl K a) H1) : iListS K x H1 R
noncomputable def iList (K : PySem.W.Frag) (tl : TE) : TI := fun σ H R => tl σ H fun x H1 => iListS K x H1 R
inductive iTupS (K : PySem.W.Frag) (x : V) (H1 : Hp) (R : It → Hp → Prop) : Prop
  | mk (a : Addr) (h0 : x = .ref a) (h1 : (∃ xs, SqT K H1 a xs)) (h2 : R (Itt K a) H1) : iTupS K x H1 R
noncomputable def iTup (K : PySem.W.Frag) (tl : TE) : TI := fun σ H R => tl σ H fun x H1 => iTupS K x H1 R
theorem pi_list {l : Expr} {tl : TE} (hl : PE X l tl) : PI X tg l (iList X.K tl) := by
  intro pins s σ H R I h
  refine thn (hl pins s σ H _ I h) fun v s1 zq => ?_
  obtain ⟨x, H1, I1, r1, q1⟩ := zq
  obtain ⟨a, e, ⟨xs, hq⟩, q⟩ := q1
  subst e
  cases r1
  obtain ⟨its, rv, p, hz⟩ := I1.list hq
  refine wpAny_pyIter_list p.isList ?_
  refine ⟨s1.heap.objs.size, [s1.heap.objs.size], _, _, H1, rfl, I1.kept (t' := s1.toks) fun b o e => Heap.get?_push_of_some _ e, turn_list a _, ⟨_, Heap.get?_push_size _ rfl, rfl, rfl⟩, fun b hb => ?_, q⟩
  have e : b = s1.heap.objs.size := by simpa using hb
  subst e
  exact I1.fpOk (Nat.le_refl _) (I1.hok.fresh (Nat.le_refl _))
theorem pi_tup {l : Expr} {tl : TE} (hl : PE X l tl) : PI X tg l (iTup X.K tl) := by
  intro pins s σ H R I h
  refine thn (hl pins s σ H _ I h) fun v s1 zq => ?_
  obtain ⟨x, H1, I1, r1, q1⟩ := zq
  obtain ⟨a, e, ⟨xs, hq⟩, q⟩ := q1
  subst e
  cases r1
  obtain ⟨its, rv, p, hz⟩ := I1.tuple hq
  refine wpAny_pyIter_tuple (show s1.heap.IsTuple a its.toArray from p) ?_
  refine ⟨s1.heap.objs.size, [s1.heap.objs.size], _, _, H1, rfl, I1.kept (t' := s1.toks) fun b o e => Heap.get?_push_of_some _ e, turn_tuple a _, ⟨_, Heap.get?_push_size _ rfl, rfl, rfl⟩, fun b hb => ?_, q⟩
  have e : b = s1.heap.objs.size := by simpa using hb
  subst e
  exact I1.fpOk (Nat.le_refl _) (I1.hok.fresh (Nat.le_refl _))
theorem range_it {pins : List (Addr × Obj)} {σ : St} {H : Hp} {s : Shared} {R : It → Hp → Prop} {E : Value → Shared → Prop} {lo hi : Int} {t u v : Tok} {tk : Nat} (I : Inv X pins σ H s) (h1 : -(2 ^ 62) ≤ lo) (h2 : lo < 2 ^ 62) (h3 : -(2 ^ 62) ≤ hi) (h4 : hi < 2 ^ 62)
    (q : R (Itr lo (hi - lo).toNat) H) : wpAny (model X.prog X.w) X.A (pyIter (.ref s.heap.objs.size)) (PIE X pins σ tg R) E { s with heap := s.heap.push { cls := .type "range", data := .fields #[.int lo t, .int hi u, .int 1 v] }, toks := tk } := by
  refine wpAny_pyIter_range (IsRange.new ..) (small_one h1 h2 h3 h4) ?_
  have I1 : Inv X pins σ H { s with heap := s.heap.push { cls := .type "range", data := .fields #[.int lo t, .int hi u, .int 1 v] }, toks := tk } := I.kept fun b o e => Heap.get?_push_of_some _ e
  refine ⟨(s.heap.push { cls := .type "range", data := .fields #[.int lo t, .int hi u, .int 1 v] }).objs.size, [(s.heap.push { cls := .type "range", data := .fields #[.int lo t, .int hi u, .int 1 v] }).objs.size], _, _, H, rfl,
    I1.kept (t' := tk) fun b o e => Heap.get?_push_of_some _ e, turn_range _ lo (hi - lo).toNat, ?_, fun b hb => ?_, q⟩
  · have e1 : lo + ((0 : Nat) : Int) * 1 = lo := by simp
    have e2 : (((hi - lo).toNat : Nat) : Int) - ((0 : Nat) : Int) = Builtin.Range.rangeSize lo hi 1 := by rw [rangeSize_one]; split <;> lia
    show IsRangeIter _ _ (lo + ((0 : Nat) : Int) * 1) ((((hi - lo).toNat : Nat) : Int) - ((0 : Nat) : Int)) 1
    rw [e1, e2]
    exact Heap.get?_push_size _ rfl
  · have e : b = (s.heap.push { cls := .type "range", data := .fields #[.int lo t, .int hi u, .int 1 v] }).objs.size := by simpa using hb
    subst e
    exact I1.fpOk (Nat.le_refl _) (I1.hok.fresh (Nat.le_refl _))
inductive iRng1S (vs : List V) (H1 : Hp) (R : It → Hp → Prop) : Prop
  | mk (j : Int) (h0 : vs = [.int j]) (h1 : -(2 ^ 62) ≤ j) (h2 : j < 2 ^ 62) (h3 : R (Itr 0 j.toNat) H1) : iRng1S vs H1 R
noncomputable def iRng1 (ta : TA) : TI := fun σ H R => ta σ H fun vs H1 => iRng1S vs H1 R
theorem pi_range1 {a : Expr} {ta : TA} {p pos : Pos} (hg : Gl X "range") (hm : X.mg "range" = none) (ha : PA X [a] ta) (hs : starEach [a] X.env = [(false, eval a X.env)] := by rfl) : PI X tg (.Call (.Name "range" p) [a] [] pos) (iRng1 ta) := by
  intro pins s σ H R I h
  refine Call_ (ld_blt I hg hm boot_range (PyProof.Rows.callWith_type1 (thn (ha pos pins s σ H _ I h) fun us s1 ⟨vs, H1, I1, r1, q1⟩ => ?_) hs rfl))
  obtain ⟨j, e, q1, q2, q⟩ := q1
  subst e
  cases r1 with
  | cons r rr =>
    cases rr
    obtain ⟨t, rfl⟩ := r
    exact call_range_1 (range_it I1 (by lia) (by lia) q1 q2 (by simpa using q))
noncomputable def tFor (wi : TI) (g : TG) (tb : TS) : TS := fun D σ H => wi σ H fun J H1 => ∃ W : Nat → Nat → St → Hp → Prop, (∃ m, W 0 m σ H1) ∧ ∀ i m σ H, W i m σ H →
  (J.stop i H ∧ D.nx σ H) ∨ (J.go i H ∧ ∃ N : St → Hp → Prop, (∀ σ' H', N σ' H' → ∃ m', m' < m ∧ W (i + 1) m' σ' H') ∧ ∀ x H', J.yld i H x H' → g x σ H' fun σ2 H2 => tb { D with nx := N, ct := N, bk := D.nx } σ2 H2)
noncomputable def pinsAt (fp : List Addr) (h : Heap) : List (Addr × Obj) := fp.filterMap fun b => (h.get? b).map fun o => (b, o)
theorem mem_pinsAt {fp : List Addr} {h : Heap} {b : Addr} {o : Obj} (hb : b ∈ fp) (e : h.get? b = some o) : (b, o) ∈ pinsAt fp h := List.mem_filterMap.mpr ⟨b, hb, by rw [e]; rfl⟩
theorem of_pinsAt {fp : List Addr} {h : Heap} {p : Addr × Obj} (hp : p ∈ pinsAt fp h) : p.1 ∈ fp ∧ h.get? p.1 = some p.2 := by
  obtain ⟨b, hb, e⟩ := List.mem_filterMap.mp hp
  cases q : h.get? b with
  | none => rw [q] at e; cases e
  | some o =>
    rw [q] at e
    have e' : (b, o) = p := Option.some.inj e
    subst e'
    exact ⟨hb, q⟩
theorem Inv.pinned {pins : List (Addr × Obj)} {σ : St} {H : Hp} {s : Shared} {fp : List Addr} (I : Inv X pins σ H s) (hf : ∀ b ∈ fp, FpOk X pins H b) (ho : ∀ b ∈ fp, ∃ o, s.heap.get? b = some o ∧ ∀ v, o.data ≠ .cell v) : Inv X (pins ++ pinsAt fp s.heap) σ H s :=
  I.pins_of fun p hp => (List.mem_append.mp hp).elim (fun z => I.pin p (List.mem_append_right _ z)) fun z => by
    obtain ⟨hb, e⟩ := of_pinsAt z
    obtain ⟨f0, f1, f2, _⟩ := hf p.1 hb
    obtain ⟨o, e', d⟩ := ho p.1 hb
    rw [e] at e'; cases e'
    exact ⟨e, f0, f1, f2, d⟩
theorem Inv.unpinned {pins pl : List (Addr × Obj)} {σ : St} {H : Hp} {s : Shared} (I : Inv X (pins ++ pl) σ H s) : Inv X pins σ H s := I.pins_of fun p hp => I.pin p (List.mem_append_right _ (List.mem_append_left _ hp))
theorem ps_for {iter : Expr} {body : List Stmt} {wi : TI} {g : TG} {tb : TS} {pos : Pos} (hp : PassesOwn (model X.prog X.w) X.A X.env X.xe) (hc : X.calm = true) (hi : PI X tg iter wi) (hg : PG X tg g) (hb : PSs X body tb)
    (hs : ∀ x, foldedSetIterable iter X.env x = pure x := by intro _; rfl) : PS X (.For tg iter body [] pos) (tFor wi g tb) := by
  intro pins s σ H D I h
  refine wpAny_For (thn (hi pins s σ H _ I h) fun v s1 h1 => thn h1 fun itv s2 h2 => ?_) hs
  obtain ⟨it, fp, tn, J, H2, e, I2, T, st2, f2, W, ⟨m0, w0⟩, turn⟩ := h2
  subst e
  have stat : ∀ {H' : Hp}, (∀ b ∈ fp, H' b = none) → ∀ b ∈ fp, FpOk X pins H' b := fun hn b hb => ⟨hn b hb, (f2 b hb).2⟩
  refine codeAny_forLoop_any (fun n s' => ∃ i σ' H', Inv X pins σ' H' s' ∧ tn i s'.heap ∧ (∀ b ∈ fp, H' b = none) ∧ W i n σ' H') ?_ m0 ⟨0, σ, H2, I2, st2, fun b hb => (f2 b hb).1, w0⟩
  rintro n s3 ⟨i, σ3, H3, I3, st3, fr3, w3⟩
  rcases turn i n σ3 H3 w3 with ⟨stop, qn⟩ | ⟨go, N, hN, step⟩
  · refine wpAny_passesOwn hp (thn (T.done X rfl rfl rfl hc i pins s3 σ3 H3 X.xe I3 (stat fr3) st3 stop) fun r s4 zq => ?_)
    obtain ⟨hr, I4⟩ := zq
    subst hr
    exact wpAny_execs_nil ⟨σ3, H3, I4, qn⟩
  · refine wpAny_passesOwn hp (thn (T.item X rfl rfl rfl hc i pins s3 σ3 H3 X.xe I3 (stat fr3) st3 go) fun r s4 zq => ?_)
    obtain ⟨u, hr, h4⟩ := zq
    subst hr
    refine wpAny_passesOwn hp (thn h4 fun _ s5 zq => ?_)
    obtain ⟨x, H5, I5, r5, y5, st5, fr5⟩ := zq
    have I5' := I5.pinned (stat fr5) (T.obj _ _ st5)
    refine wpAny_passesOwn hp (thn (hg _ s5 σ3 H5 x u _ I5' r5 (step x H5 y5)) fun _ s6 zq => ?_)
    obtain ⟨σ6, H6, I6, q6⟩ := zq
    refine wpAny_passesOwn hp (thn (hb _ s6 σ6 H6 _ I6 q6) fun f s7 q7 => ?_)
    have again : ∀ {σ7 : St} {H7 : Hp}, Inv X (pins ++ pinsAt fp s5.heap) σ7 H7 s7 → N σ7 H7 → ∃ m, m < n ∧ ∃ i σ' H', Inv X pins σ' H' s7 ∧ tn i s7.heap ∧ (∀ b ∈ fp, H' b = none) ∧ W i m σ' H' := fun {σ7 H7} I7 n7 => by
      obtain ⟨m', hm, w7⟩ := hN σ7 H7 n7
      refine ⟨m', hm, i + 1, σ7, H7, I7.unpinned, T.keep _ _ _ st5 fun b hb o e => (I7.pin (b, o) (List.mem_append_right _ (List.mem_append_right _ (mem_pinsAt hb e)))).1, fun b hb => ?_, w7⟩
      obtain ⟨o, e, d⟩ := T.obj _ _ st5 b hb
      exact (I7.pin (b, o) (List.mem_append_right _ (List.mem_append_right _ (mem_pinsAt hb e)))).2.1
    cases f with
    | next => obtain ⟨σ7, H7, I7, n7⟩ := q7; exact again I7 n7
    | cont => obtain ⟨σ7, H7, I7, n7⟩ := q7; exact again I7 n7
    | brk => obtain ⟨σ7, H7, I7, q7⟩ := q7; exact ⟨σ7, H7, I7.unpinned, q7⟩
    | ret v => obtain ⟨x7, σ7, H7, I7, r7, q7⟩ := q7; exact ⟨x7, σ7, H7, I7.unpinned, r7, q7⟩
end
theorem for_list {K : PySem.W.Frag} {a : Addr} {xs : List V} {g : TG} {tb : TS} {D : Ends} {σ : St} {H : Hp} (Pv : Nat → St → Hp → Prop) (h0 : Pv 0 σ H) (hl : ∀ i σ H, i ≤ xs.length → Pv i σ H → SqL K H a xs)
    (hs : ∀ i x σ H, xs[i]? = some x → Pv i σ H → g x σ H fun σ2 H2 => tb { D with nx := Pv (i + 1), ct := Pv (i + 1), bk := D.nx } σ2 H2) (hd : ∀ σ H, Pv xs.length σ H → D.nx σ H) :
    ∃ W : Nat → Nat → St → Hp → Prop, (∃ m, W 0 m σ H) ∧ ∀ i m σ H, W i m σ H →
      ((Itl K a).stop i H ∧ D.nx σ H) ∨ ((Itl K a).go i H ∧ ∃ N : St → Hp → Prop, (∀ σ' H', N σ' H' → ∃ m', m' < m ∧ W (i + 1) m' σ' H') ∧ ∀ x H', (Itl K a).yld i H x H' → g x σ H' fun σ2 H2 => tb { D with nx := N, ct := N, bk := D.nx } σ2 H2) := by
  refine ⟨fun i m σ H => m = xs.length - i ∧ i ≤ xs.length ∧ Pv i σ H, ⟨xs.length, by simp, Nat.zero_le _, h0⟩, ?_⟩
  rintro i m σ H ⟨rfl, hi, p⟩
  have q := hl i σ H hi p
  by_cases hlt : i < xs.length
  · refine .inr ⟨⟨xs, xs[i], q, by simp [hlt]⟩, Pv (i + 1), fun σ' H' p' => ⟨xs.length - (i + 1), by lia, rfl, hlt, p'⟩, fun x H' y => ?_⟩
    obtain ⟨e, y⟩ := y
    subst e
    exact hs i x σ _ (y xs q) p
  · have e : i = xs.length := by lia
    subst e
    exact .inl ⟨⟨xs, q, Nat.le_refl _⟩, hd σ H p⟩
theorem for_range {lo : Int} {n : Nat} {g : TG} {tb : TS} {D : Ends} {σ : St} {H : Hp} (Pv : Nat → St → Hp → Prop) (h0 : Pv 0 σ H)
    (hs : ∀ i σ H, i < n → Pv i σ H → g (.int (lo + i)) σ H fun σ2 H2 => tb { D with nx := Pv (i + 1), ct := Pv (i + 1), bk := D.nx } σ2 H2) (hd : ∀ σ H, Pv n σ H → D.nx σ H) :
    ∃ W : Nat → Nat → St → Hp → Prop, (∃ m, W 0 m σ H) ∧ ∀ i m σ H, W i m σ H →
      ((Itr lo n).stop i H ∧ D.nx σ H) ∨ ((Itr lo n).go i H ∧ ∃ N : St → Hp → Prop, (∀ σ' H', N σ' H' → ∃ m', m' < m ∧ W (i + 1) m' σ' H') ∧ ∀ x H', (Itr lo n).yld i H x H' → g x σ H' fun σ2 H2 => tb { D with nx := N, ct := N, bk := D.nx } σ2 H2) := by
  refine ⟨fun i m σ H => m = n - i ∧ i ≤ n ∧ Pv i σ H, ⟨n, by simp, Nat.zero_le _, h0⟩, ?_⟩
  rintro i m σ H ⟨rfl, hi, p⟩
  by_cases hlt : i < n
  · refine .inr ⟨hlt, Pv (i + 1), fun σ' H' p' => ⟨n - (i + 1), by lia, rfl, hlt, p'⟩, fun x H' y => ?_⟩
    obtain ⟨e, y⟩ := y
    subst e y
    exact hs i σ _ hlt p
  · have e : i = n := by lia
    subst e
    exact .inl ⟨Nat.le_refl _, hd σ H p⟩
end L2
namespace L2
open PySem PySem.Spec PyProof.Rows
abbrev R2 := V → V → Hp → VK → Prop
noncomputable def OpR (X : Cx) (f : Value → Value → Sem Value) (r : R2) : Prop :=
  ∀ (pins : List (Addr × Obj)) (s : Shared) (σ : St) (H : Hp) (x y : V) (v u : Value) (Q : VK), Inv X pins σ H s → RelV x v → RelV y u → r x y H Q →
    wpAny (model X.prog X.w) X.A (f v u) (EP X pins σ Q) X.xe s
noncomputable def UnR (X : Cx) (f : Value → Sem Value) (r : V → Hp → VK → Prop) : Prop :=
  ∀ (pins : List (Addr × Obj)) (s : Shared) (σ : St) (H : Hp) (x : V) (v : Value) (Q : VK), Inv X pins σ H s → RelV x v → r x H Q →
    wpAny (model X.prog X.w) X.A (f v) (EP X pins σ Q) X.xe s
noncomputable def CallR (X : Cx) (f : Value) (r : List V → Hp → VK → Prop) : Prop :=
  ∀ (pins : List (Addr × Obj)) (s : Shared) (σ : St) (H : Hp) (xs : List V) (us : List Value) (Q : VK), Inv X pins σ H s → Vals xs us → r xs H Q →
    wpAny (model X.prog X.w) X.A (call f us) (EP X pins σ Q) X.xe s
noncomputable def TruR (X : Cx) (r : V → Hp → (Bool → Hp → Prop) → Prop) : Prop :=
  ∀ (pins : List (Addr × Obj)) (s : Shared) (σ : St) (H : Hp) (x : V) (v : Value) (Q : Bool → Hp → Prop), Inv X pins σ H s → RelV x v → r x H Q →
    wpAny (model X.prog X.w) X.A (truthy v) (TP X pins σ Q) X.xe s
noncomputable def tOp (r : R2) (ta tb : TE) : TE := fun σ H Q => ta σ H fun x H1 => tb σ H1 fun y H2 => r x y H2 Q
noncomputable def tUn (r : V → Hp → VK → Prop) (ta : TE) : TE := fun σ H Q => ta σ H fun x H1 => r x H1 Q
inductive rIS (C : Int → Int → Prop) (g : Int → Int → V) (x y : V) (H : Hp) (Q : VK) : Prop
  | mk (i j : Int) (h0 : x = .int i) (h1 : y = .int j) (h2 : C i j) (h3 : Q (g i j) H) : rIS C g x y H Q
noncomputable def rI (C : Int → Int → Prop) (g : Int → Int → V) : R2 := fun x y H Q => rIS C g x y H Q
inductive rI0S (g : Int → Int → V) (x y : V) (H : Hp) (Q : VK) : Prop
  | mk (i j : Int) (h0 : x = .int i) (h1 : y = .int j) (h2 : Q (g i j) H) : rI0S g x y H Q
noncomputable def rI0 (g : Int → Int → V) : R2 := fun x y H Q => rI0S g x y H Q
inductive rUS (g : Int → V) (x : V) (H : Hp) (Q : VK) : Prop
  | mk (i : Int) (h0 : x = .int i) (h1 : Q (g i) H) : rUS g x H Q
noncomputable def rU (g : Int → V) : V → Hp → VK → Prop := fun x H Q => rUS g x H Q
section
variable {X : Cx} {a b c : Expr} {ta tb tc : TE} {pos : Pos}
theorem binT (ha : PE X a ta) (hb : PE X b tb) {pins : List (Addr × Obj)} {s : Shared} {σ : St} {H : Hp} {R : V → V → Hp → Prop} (I : Inv X pins σ H s)
    (h : ta σ H fun x H1 => tb σ H1 fun y H2 => R x y H2) {Q : Value → Shared → Prop} {f : Value → Value → Sem Value}
    (hf : ∀ v u s2 x y H2, Inv X pins σ H2 s2 → RelV x v → RelV y u → R x y H2 → wpAny (model X.prog X.w) X.A (f v u) Q X.xe s2) :
    wpAny (model X.prog X.w) X.A (eval a X.env) (fun v s₁ => wpAny (model X.prog X.w) X.A (eval b X.env) (fun u s₂ => wpAny (model X.prog X.w) X.A (f v u) Q X.xe s₂) X.xe s₁) X.xe s := by
  refine thn (ha pins s σ H _ I h) fun v s1 zq => ?_
  obtain ⟨x, H1, I1, r1, q1⟩ := zq
  refine thn (hb pins s1 σ H1 _ I1 q1) fun u s2 zq => ?_
  obtain ⟨y, H2, I2, r2, q2⟩ := zq
  exact hf v u s2 x y H2 I2 r1 r2 q2
theorem pe_op {op : Operator} {r : R2} (ho : OpR X (binaryOp op) r) (ha : PE X a ta) (hb : PE X b tb) : PE X (.BinOp a op b pos) (tOp r ta tb) := by
  intro pins s σ H Q I h
  exact wpAny_BinOp (binT ha hb I h fun v u s2 x y H2 I2 rx ry q => ho pins s2 σ H2 x y v u Q I2 rx ry q)
theorem pe_un {op : UnaryOp} {r : V → Hp → VK → Prop} (ho : UnR X (unaryOp op) r) (ha : PE X a ta) : PE X (.UnaryOp op a pos) (tUn r ta) := by
  intro pins s σ H Q I h
  exact UnaryOp_ (thn (ha pins s σ H _ I h) fun v s1 ⟨x, H1, I1, r1, q1⟩ => ho pins s1 σ H1 x v Q I1 r1 q1)
theorem opI {f : Value → Value → Sem Value} {C : Int → Int → Prop} {g : Int → Int → Int}
    (rule : ∀ (i j : Int) (t u : Tok) (s : Shared) (Q : Value → Shared → Prop) (E : Value → Shared → Prop), C i j → Q (.int (g i j) s.toks) { s with toks := s.toks + 1 } → wpAny (model X.prog X.w) X.A (f (.int i t) (.int j u)) Q E s) :
    OpR X f (rI C fun i j => .int (g i j)) := by
  intro pins s σ H x y v u Q I rx ry h
  obtain ⟨i, j, rfl, rfl, hc, q⟩ := h
  obtain ⟨t, rfl⟩ := rx
  obtain ⟨t', rfl⟩ := ry
  exact rule i j t t' s _ _ hc ⟨.int (g i j), H, I.tok _, ⟨_, rfl⟩, q⟩
theorem opI0 {f : Value → Value → Sem Value} {g : Int → Int → Int}
    (rule : ∀ (i j : Int) (t u : Tok) (s : Shared) (Q : Value → Shared → Prop) (E : Value → Shared → Prop), Q (.int (g i j) s.toks) { s with toks := s.toks + 1 } → wpAny (model X.prog X.w) X.A (f (.int i t) (.int j u)) Q E s) :
    OpR X f (rI0 fun i j => .int (g i j)) := by
  intro pins s σ H x y v u Q I rx ry h
  obtain ⟨i, j, rfl, rfl, q⟩ := h
  obtain ⟨t, rfl⟩ := rx
  obtain ⟨t', rfl⟩ := ry
  exact rule i j t t' s _ _ ⟨.int (g i j), H, I.tok _, ⟨_, rfl⟩, q⟩
theorem opB0 {f : Value → Value → Sem Value} {g : Int → Int → Bool}
    (rule : ∀ (i j : Int) (t u : Tok) (s : Shared) (Q : Value → Shared → Prop) (E : Value → Shared → Prop), Q (.bool (g i j)) s → wpAny (model X.prog X.w) X.A (f (.int i t) (.int j u)) Q E s) :
    OpR X f (rI0 fun i j => .bl (g i j)) := by
  intro pins s σ H x y v u Q I rx ry h
  obtain ⟨i, j, rfl, rfl, q⟩ := h
  obtain ⟨t, rfl⟩ := rx
  obtain ⟨t', rfl⟩ := ry
  exact rule i j t t' s _ _ ⟨.bl (g i j), H, I, rfl, q⟩
noncomputable def CDiv (i j : Int) : Prop := 0 < j ∧ j < 1073741824
noncomputable def CPow (i j : Int) : Prop := 0 ≤ j ∧ j ≤ 1000000 ∧ i.natAbs < 2 ^ 64
noncomputable def CMul (i j : Int) : Prop := (-(2 ^ 64) < i ∧ i < 2 ^ 64) ∨ (-(2 ^ 64) < j ∧ j < 2 ^ 64)
theorem CMul.ok {i j : Int} (h : CMul i j) : IntMulOk i j := by
  rcases h with ⟨h1, h2⟩ | ⟨h1, h2⟩
  · exact .of_left (intBits_le_64 h1 h2)
  · exact .of_right (intBits_le_64 h1 h2)
theorem op_add : OpR X (binaryOp .Add) (rI0 fun i j => .int (i + j)) := opI0 fun _ _ _ _ _ _ _ q => add_int q
theorem op_sub : OpR X (binaryOp .Sub) (rI0 fun i j => .int (i - j)) := opI0 fun _ _ _ _ _ _ _ q => sub_int q
theorem op_mul : OpR X (binaryOp .Mult) (rI CMul fun i j => .int (i * j)) := opI fun _ _ _ _ _ _ _ hc q => mul_int q hc.ok
theorem op_fdiv : OpR X (binaryOp .FloorDiv) (rI CDiv fun i j => .int (i / j)) := opI fun i j _ _ _ _ _ hc q => by
  have h1 : (0 : Int) < j := hc.1
  have h2 : j < 1073741824 := hc.2
  exact floordiv_int (by lia) (by rw [Int.fdiv_eq_ediv_of_nonneg i (by lia)]; exact q) (.inl (PyProof.noPylong_small (by lia)))
theorem op_mod : OpR X (binaryOp .Mod) (rI (fun _ j => 0 < j) fun i j => .int (i % j)) := opI fun i j _ _ _ _ _ hc q => by
  have h1 : (0 : Int) < j := hc
  exact mod_int' (by lia) (by rw [Int.fmod_eq_emod_of_nonneg i (by lia)]; exact q)
theorem op_pow : OpR X (binaryOp .Pow) (rI CPow fun i j => .int (i ^ j.toNat)) := opI fun _ _ _ _ _ _ _ hc q => pow_int_small hc.1 hc.2.1 hc.2.2 q
theorem unI {f : Value → Sem Value} {g : Int → Int}
    (rule : ∀ (i : Int) (t : Tok) (s : Shared) (Q : Value → Shared → Prop) (E : Value → Shared → Prop), Q (.int (g i) s.toks) { s with toks := s.toks + 1 } → wpAny (model X.prog X.w) X.A (f (.int i t)) Q E s) :
    UnR X f (rU fun i => .int (g i)) := by
  intro pins s σ H x v Q I rx h
  obtain ⟨i, rfl, q⟩ := h
  obtain ⟨t, rfl⟩ := rx
  exact rule i t s _ _ ⟨.int (g i), H, I.tok _, ⟨_, rfl⟩, q⟩
theorem un_neg : UnR X (unaryOp .USub) (rU fun i => .int (-i)) := unI fun _ _ _ _ _ q => neg_int q
end
noncomputable def scal : V → V → Bool
  | .non, .non => true | .non, .int _ => true | .int _, .non => true | .non, .bl _ => true | .bl _, .non => true | .non, .str _ => true | .str _, .non => true
  | .int _, .int _ => true | .bl _, .bl _ => true | .str _, .str _ => true | .byt _, .byt _ => true
  | .int _, .str _ => true | .str _, .int _ => true | .bl _, .str _ => true | .str _, .bl _ => true
  | _, _ => false
noncomputable def rEq : R2 := fun x y H Q => scal x y = true ∧ Q (.bl (decide (x = y))) H
noncomputable def rNe : R2 := fun x y H Q => scal x y = true ∧ Q (.bl (!decide (x = y))) H
theorem dec_int {i j : Int} : decide (V.int i = V.int j) = (i == j) := by
  rw [Bool.eq_iff_iff]
  simp
theorem dec_bl {i j : Bool} : decide (V.bl i = V.bl j) = (i == j) := by
  rw [Bool.eq_iff_iff]
  simp
theorem dec_str {i j : Str} : decide (V.str i = V.str j) = (i == j) := by
  rw [Bool.eq_iff_iff]
  simp
theorem dec_byt {i j : Array UInt8} : decide (V.byt i = V.byt j) = (i.toList == j.toList) := by
  rw [Bool.eq_iff_iff]
  cases i
  cases j
  simp
section
variable {X : Cx} {a b c : Expr} {ta tb tc : TE} {pos : Pos}
theorem fin_bl {pins : List (Addr × Obj)} {σ : St} {H : Hp} {s : Shared} {Q : VK} {k k' : Bool} (I : Inv X pins σ H s) (q : Q (.bl k) H) (e : k = k') : EP X pins σ Q (.bool k') s := by
  subst e
  exact ⟨.bl k, H, I, rfl, q⟩
theorem op_eq : OpR X (compareOp .Eq) rEq := by
  intro pins s σ H x y v u Q I rx ry h
  obtain ⟨hs, q⟩ := h
  cases x with
  | non =>
    cases rx
    cases y with
    | non => cases ry; exact PySem.EqNone.eq_none_none (fin_bl I q (by simp))
    | bl j => cases ry; exact PySem.EqNone.eq_none_bool (fin_bl I q (by simp))
    | int j => obtain ⟨t', rfl⟩ := ry; exact PySem.EqNone.eq_none_int (fin_bl I q (by simp))
    | str j => obtain ⟨t', rfl⟩ := ry; exact PySem.EqNone.eq_none_str (fin_bl I q (by simp))
    | _ => exact absurd (show false = true from hs) Bool.false_ne_true
  | bl i =>
    cases rx
    cases y with
    | non => cases ry; exact PySem.EqNone.eq_bool_none (fin_bl I q (by simp))
    | bl j => cases ry; exact eq_bool (fin_bl I q dec_bl)
    | str j => obtain ⟨t', rfl⟩ := ry; exact PySem.EqMixed.eq_bool_str (fin_bl I q (by simp))
    | _ => exact absurd (show false = true from hs) Bool.false_ne_true
  | int i =>
    obtain ⟨t, rfl⟩ := rx
    cases y with
    | non => cases ry; exact PySem.EqNone.eq_int_none (fin_bl I q (by simp))
    | int j => obtain ⟨t', rfl⟩ := ry; exact eq_int (fin_bl I q dec_int)
    | str j => obtain ⟨t', rfl⟩ := ry; exact PySem.EqMixed.eq_int_str (fin_bl I q (by simp))
    | _ => exact absurd (show false = true from hs) Bool.false_ne_true
  | str i =>
    obtain ⟨t, rfl⟩ := rx
    cases y with
    | non => cases ry; exact PySem.EqNone.eq_str_none (fin_bl I q (by simp))
    | bl j => cases ry; exact PySem.EqMixed.eq_str_bool (fin_bl I q (by simp))
    | int j => obtain ⟨t', rfl⟩ := ry; exact PySem.EqMixed.eq_str_int (fin_bl I q (by simp))
    | str j => obtain ⟨t', rfl⟩ := ry; exact eq_str (fin_bl I q dec_str)
    | _ => exact absurd (show false = true from hs) Bool.false_ne_true
  | byt i =>
    obtain ⟨t, rfl⟩ := rx
    cases y with
    | byt j => obtain ⟨t', rfl⟩ := ry; exact PySem.W.eq_bytes (fin_bl I q dec_byt)
    | _ => exact absurd (show false = true from hs) Bool.false_ne_true
  | _ => cases y <;> exact absurd (show false = true from hs) Bool.false_ne_true
theorem op_ne : OpR X (compareOp .NotEq) rNe := by
  intro pins s σ H x y v u Q I rx ry h
  obtain ⟨hs, q⟩ := h
  cases x with
  | non =>
    cases rx
    cases y with
    | non => cases ry; exact PySem.EqNone.ne_none_none (fin_bl I q (by simp))
    | bl j => cases ry; exact PySem.EqNone.ne_none_bool (fin_bl I q (by simp))
    | int j => obtain ⟨t', rfl⟩ := ry; exact PySem.EqNone.ne_none_int (fin_bl I q (by simp))
    | str j => obtain ⟨t', rfl⟩ := ry; exact PySem.EqNone.ne_none_str (fin_bl I q (by simp))
    | _ => exact absurd (show false = true from hs) Bool.false_ne_true
  | bl i =>
    cases rx
    cases y with
    | non => cases ry; exact PySem.EqNone.ne_bool_none (fin_bl I q (by simp))
    | bl j => cases ry; exact ne_bool (fin_bl I q (congrArg not dec_bl))
    | str j => obtain ⟨t', rfl⟩ := ry; exact PySem.EqMixed.ne_bool_str (fin_bl I q (by simp))
    | _ => exact absurd (show false = true from hs) Bool.false_ne_true
  | int i =>
    obtain ⟨t, rfl⟩ := rx
    cases y with
    | non => cases ry; exact PySem.EqNone.ne_int_none (fin_bl I q (by simp))
    | int j => obtain ⟨t', rfl⟩ := ry; exact ne_int (fin_bl I q (congrArg not dec_int))
    | str j => obtain ⟨t', rfl⟩ := ry; exact PySem.EqMixed.ne_int_str (fin_bl I q (by simp))
    | _ => exact absurd (show false = true from hs) Bool.false_ne_true
  | str i =>
    obtain ⟨t, rfl⟩ := rx
    cases y with
    | non => cases ry; exact PySem.EqNone.ne_str_none (fin_bl I q (by simp))
    | bl j => cases ry; exact PySem.EqMixed.ne_str_bool (fin_bl I q (by simp))
    | int j => obtain ⟨t', rfl⟩ := ry; exact PySem.EqMixed.ne_str_int (fin_bl I q (by simp))
    | str j => obtain ⟨t', rfl⟩ := ry; exact ne_str (fin_bl I q (congrArg not dec_str))
    | _ => exact absurd (show false = true from hs) Bool.false_ne_true
  | byt i =>
    obtain ⟨t, rfl⟩ := rx
    cases y with
    | byt j => obtain ⟨t', rfl⟩ := ry; exact PySem.W.ne_bytes (fin_bl I q (congrArg not dec_byt))
    | _ => exact absurd (show false = true from hs) Bool.false_ne_true
  | _ => cases y <;> exact absurd (show false = true from hs) Bool.false_ne_true
theorem op_lt : OpR X (compareOp .Lt) (rI0 fun i j => .bl (decide (i < j))) := opB0 fun _ _ _ _ _ _ _ q => lt_int q
theorem op_gt : OpR X (compareOp .Gt) (rI0 fun i j => .bl (decide (j < i))) := opB0 fun _ _ _ _ _ _ _ q => gt_int q
theorem op_isN : OpR X (compareOp .Is) (fun x y H Q => y = .non ∧ Q (.bl (decide (x = .non))) H) := by
  intro pins s σ H x y v u Q I rx ry h
  obtain ⟨rfl, q⟩ := h
  cases ry
  refine is_none_gen (fin_bl I q ?_)
  cases x <;> first
    | (cases rx; rfl)
    | (obtain ⟨t, rfl⟩ := rx; rfl)
theorem op_notN : OpR X (compareOp .IsNot) (fun x y H Q => y = .non ∧ Q (.bl (!decide (x = .non))) H) := by
  intro pins s σ H x y v u Q I rx ry h
  obtain ⟨rfl, q⟩ := h
  cases ry
  refine isnot_none_gen (fin_bl I q ?_)
  cases x <;> first
    | (cases rx; rfl)
    | (obtain ⟨t, rfl⟩ := rx; rfl)
theorem nomark (b : Expr) {op : CmpOp} (h : op ≠ .In := by decide) (h2 : op ≠ .NotIn := by decide) : behindInMarks op b = false := by
  have e1 : (op == CmpOp.In) = false := by cases op <;> first | rfl | exact absurd rfl h
  have e2 : (op == CmpOp.NotIn) = false := by cases op <;> first | rfl | exact absurd rfl h2
  cases b <;> simp [behindInMarks, e1, e2]
theorem pe_cmpR {op : CmpOp} {r : R2} (ho : OpR X (compareOp op) r) (ha : PE X a ta) (hb : PE X b tb) (hm : behindInMarks op b = false) : PE X (.Compare a [op] [b] pos) (tOp r ta tb) := by
  intro pins s σ H Q I h
  exact wpAny_Compare1 (binT ha hb I h fun v u s2 x y H2 I2 rx ry q => ho pins s2 σ H2 x y v u Q I2 rx ry q) hm
inductive tTestS (x : V) (H' : Hp) (Q : Bool → Hp → Prop) : Prop
  | mk (k : Bool) (h0 : x = .bl k) (h1 : Q k H') : tTestS x H' Q
noncomputable def tTest (t : TE) : TT := fun σ H Q => t σ H fun x H' => tTestS x H' Q
theorem pt_cmpR {op : CmpOp} {r : R2} (ho : OpR X (compareOp op) r) (ha : PE X a ta) (hb : PE X b tb) (hm : behindInMarks op b = false) : PT X (.Compare a [op] [b] pos) (tTest (tOp r ta tb)) := by
  intro pins s σ H Q I h
  refine wpAny_isTrue_Compare1 (thn (ha pins s σ H _ I h) fun v s1 ⟨x, H1, I1, r1, q1⟩ => thn (hb pins s1 σ H1 _ I1 q1) fun u s2 ⟨y, H2, I2, r2, q2⟩ =>
    thn (ho pins s2 σ H2 x y v u _ I2 r1 r2 q2) fun c s3 ⟨z, H3, I3, r3, k, e, q3⟩ => ?_) hm
  subst e
  cases r3
  exact wpAny_truthy_bool ⟨H3, I3, q3⟩
noncomputable def TruV (K : PySem.W.Frag) (x : V) (H : Hp) (k : Bool) : Prop :=
  match x with
  | .non => k = false
  | .bl b => k = b
  | .int i => k = (i != 0)
  | .str y => y.length ≤ sizeLine ∧ k = ((y.length : Int) != 0)
  | .byt y => y.size ≤ sizeLine ∧ k = ((y.size : Int) != 0)
  | .ref p => (∃ xs, SqL K H p xs ∧ k = !xs.isEmpty) ∨ (∃ xs, SqT K H p xs ∧ k = !xs.isEmpty) ∨ ∃ kvs, H p = some (.dK kvs) ∧ k = !kvs.isEmpty
  | _ => False
theorem isEmpty_kv {κ : Type} {kvs : List (κ × V)} {vs : List (κ × Value)} (r : KV kvs vs) : (!vs.isEmpty) = !kvs.isEmpty := by
  cases r <;> rfl
theorem isEmpty_of {xs : List V} {its : List Value} (r : Vals xs its) : (!its.toArray.isEmpty) = !xs.isEmpty := by
  cases r <;> simp
theorem line63 : (sizeLine : Nat) < 2 ^ 63 := by rw [sizeLine_eq]; decide
theorem tru_ok : TruR X (fun x H Q => ∃ k, TruV X.K x H k ∧ Q k H) := by
  intro pins s σ H x v Q I rx h
  obtain ⟨k, e, q⟩ := h
  have hl := line63
  have hs : sizeLine = 16777216 := sizeLine_eq
  cases x with
  | non =>
    cases rx
    have e' : k = false := e
    subst e'
    exact truthy_none ⟨H, I, q⟩
  | bl b =>
    cases rx
    have e' : k = b := e
    subst e'
    exact wpAny_truthy_bool ⟨H, I, q⟩
  | int i =>
    obtain ⟨t, rfl⟩ := rx
    have e' : k = (i != 0) := e
    subst e'
    exact PySem.P.truthy_int ⟨H, I, q⟩
  | str y =>
    obtain ⟨t, rfl⟩ := rx
    obtain ⟨hy, e'⟩ : y.length ≤ sizeLine ∧ k = ((y.length : Int) != 0) := e
    subst e'
    exact PySem.P.truthy_str (by lia) ⟨H, I.tok _, q⟩
  | byt y =>
    obtain ⟨t, rfl⟩ := rx
    obtain ⟨hy, e'⟩ : y.size ≤ sizeLine ∧ k = ((y.size : Int) != 0) := e
    subst e'
    exact PySem.W.truthy_bytes (by lia) ⟨H, I.tok _, q⟩
  | ref p =>
    cases rx
    have e' : (∃ xs, SqL X.K H p xs ∧ k = !xs.isEmpty) ∨ (∃ xs, SqT X.K H p xs ∧ k = !xs.isEmpty) ∨ ∃ kvs, H p = some (.dK kvs) ∧ k = !kvs.isEmpty := e
    rcases e' with ⟨xs, hx, e'⟩ | ⟨xs, hx, e'⟩ | ⟨kvs, hx, e'⟩
    · subst e'
      obtain ⟨its, r, pl, hz⟩ := I.list hx
      have hlen := r.length
      exact wpAny_truthy_list pl.isList (by simp only [List.size_toArray]; lia) ⟨H, I.tok _, by rw [isEmpty_of r]; exact q⟩
    · subst e'
      obtain ⟨its, r, pl, hz⟩ := I.tuple hx
      have hlen := r.length
      exact truthy_tuple pl (by simp only [List.size_toArray]; lia) ⟨H, I.tok _, by rw [isEmpty_of r]; exact q⟩
    · subst e'
      obtain ⟨hz, hS, vs, r, m⟩ : kvs.length ≤ sizeLine ∧ (p == sysModules) = false ∧ ∃ vs, KV kvs vs ∧ s.heap.DictOf (mixKind X.prog X.w) p vs := I.hok p _ hx
      have hlen : kvs.length = vs.length := Paired.length r
      exact wpAny_truthy_dict hS m (by lia) ⟨H, I.tok _, by rw [isEmpty_kv r]; exact q⟩
  | _ => exact (show False from e).elim
theorem pt_truth (ha : PE X a ta) (he : ∀ whole, isTrue a X.env whole = (do let v ← whole; standAt a.pos; holding [v] (truthy v))) :
    PT X a (fun σ H Q => ta σ H fun x H' => ∃ k, TruV X.K x H' k ∧ Q k H') := by
  intro pins s σ H Q I h
  exact isTrue_plain (thn (ha pins s σ H _ I h) fun v s1 ⟨x, H1, I1, r1, q1⟩ => tru_ok pins s1 σ H1 x v Q I1 r1 q1) (he _)
theorem op_add_str : OpR X (binaryOp .Add) (fun x y H Q => ∃ i j, x = .str i ∧ y = .str j ∧ i.length + j.length ≤ sizeLine ∧ Q (.str (i ++ j)) H) := by
  intro pins s σ H x y v u Q I rx ry h
  obtain ⟨i, j, rfl, rfl, hz, q⟩ := h
  obtain ⟨t, rfl⟩ := rx
  obtain ⟨t', rfl⟩ := ry
  exact add_str (fun t' tk => ⟨.str (i ++ j), H, I.tok _, ⟨_, rfl⟩, q⟩) hz
theorem vals1 {x : V} {us : List Value} (r : Vals [x] us) : ∃ u, us = [u] ∧ RelV x u := by
  cases r with
  | cons r1 r2 => cases r2; exact ⟨_, rfl, r1⟩
end
end L2
namespace L2
open PySem PySem.Spec PyProof.Rows
structure ObjM (h : Heap) (x dx C : Addr) (mA : Str → Option Value) : Prop where
  obj : h.get? x = some (PySem.W.instObj C dx)
  ns : h.Ns1 dx mA
  ne : dx ≠ x
theorem lookIn_ns {h : Heap} {dx : Addr} {mA : Str → Option Value} (n : h.Ns1 dx mA) : ∃ od, h.get? dx = some od ∧ ∀ name, PySem.W.lookIn name od = some (mA name) := by
  obtain ⟨o, es, ep, ho, hd, hk, _, hm⟩ := n
  refine ⟨o, ho, fun name => ?_⟩
  have e := hm name
  unfold nsFind findBy at e
  rw [← Array.find?_toList] at e
  unfold PySem.W.lookIn
  rw [hd]
  dsimp only
  split
  · rename_i y q
    rw [q] at e
    exact congrArg some e
  · rename_i q
    rw [q] at e
    have a : es.toList.any (·.refKey) = false := by
      rw [List.any_eq_false]
      intro y hy
      obtain ⟨z, t, hkey⟩ := hk y (Array.mem_toList_iff.mp hy)
      simp [DictEntry.refKey, hkey]
    have a' : ¬ es.toList.any (·.refKey) = true := by rw [a]; exact Bool.false_ne_true
    rw [if_neg a']
    exact congrArg some e
theorem ObjM.look {h : Heap} {x dx C : Addr} {mA : Str → Option Value} (I : ObjM h x dx C mA) : ∃ od, PySem.W.InstAt h x (PySem.W.instObj C dx) C (some od) ∧ ∀ name, PySem.W.lookIn name od = some (mA name) :=
  let ⟨od, ho, hl⟩ := lookIn_ns I.ns
  ⟨od, ⟨I.obj, rfl, rfl, ho⟩, hl⟩
section
variable {prog : Program} {w : World} {A : Around} {E : Value → Shared → Prop} {s : Shared} {K : PySem.W.Frag} {x dx C f : Addr} {mA : Str → Option Value} {name : Str} {v : Value}
theorem get_map {expr : Bool} {Q : Value → Shared → Prop} (X : K.In s.heap) (I : ObjM s.heap x dx C mA) (hg : PySem.W.plainGet K C name = true) (hh : PySem.W.hasDictIn K C = true)
    (ha : PySem.W.findIn K (.ref C) name = some none) (hv : mA name = some v) (hv' : PySem.W.handedIn v = true) (h : Q v { s with toks := s.toks + 1 }) :
    wpAny (model prog w) A (getAttr (.ref x) name expr) Q E s := by
  obtain ⟨od, J, hl⟩ := I.look
  exact PySem.W.get_value X J (PySem.W.plainGet_of hg).1 (PySem.W.findObj_own hh ha rfl (by rw [hl, hv])) hv' h
theorem get_meth {pl : Sem Bool} {Q : Value × List Value → Shared → Prop} (X : K.In s.heap) (I : ObjM s.heap x dx C mA) (hg : PySem.W.plainGet K C name = true)
    (hf : PySem.W.findIn K (.ref C) name = some (some (.ref f))) (ht : PySem.W.isFn K (.ref f) = true) (hv : mA name = none) (h : Q (.ref f, [.ref x]) s) :
    wpAny (model prog w) A (getMethod (.ref x) name pl) Q E s := by
  obtain ⟨od, J, hl⟩ := I.look
  exact PySem.W.method_fn X J (PySem.W.plainGet_of hg).1 (PySem.W.plainGet_of hg).2 hf (beq_iff_eq.mp ht) (by show (PySem.W.lookIn name od).map (·.isSome) = some false; rw [hl, hv]; rfl) h
theorem set_map {ns : List Str} {Q : Unit → Shared → Prop} (X : K.In s.heap) (I : ObjM s.heap x dx C mA)
    (hs : PySem.W.findIn K (.ref C) "__setattr__" = some (some (.builtin "object.__setattr__"))) (hp : PySem.W.plainOver K C = true) (ht : PySem.W.takerIn K C name = some none) (hh : PySem.W.hasDictIn K C = true)
    (hw : PySem.Within mA ns) (hsz : ns.length ≤ sizeLine)
    (h : ∀ h', ObjM h' x dx C (fun y => if y = name then some v else mA y) → Heap.SameBut dx s.heap h' → Q () { s with heap := h', toks := s.toks + 2 }) :
    wpAny (model prog w) A (setAttr (.ref x) name v) Q E s := by
  obtain ⟨od, J, hl⟩ := I.look
  refine PySem.W.set_plain X J hs (PySem.W.osa_open (s := { s with toks := s.toks + 1 }) (r := none) X J hp ht fun b => ?_)
  obtain ⟨cd, hc, hd'⟩ := PySem.W.any_some hh
  have hx : s.heap.get? x = some ⟨.ref C, some dx, .plain, #[]⟩ := I.obj
  refine wpAny_bind (wpAny_pure (wpAny_bind (wpAny_bind (wpAny_loadPart hx (wpAny_bind (PySem.W.Looks.here (s := { s with toks := s.toks + 1 }) (PySem.W.looks_clsIn X hc) ?_))))))
  rw [hd']
  refine wpAny_pure (a := some dx) (wpAny_bind (wpAny_pure (wpAny_bind ?_)))
  refine wpAny_nsSet1 (s := { s with toks := s.toks + 1 }) I.ns fun h' hn2 hs2 => ?_
  obtain ⟨oD, esD, epD, hoD, hdD, hcD⟩ := hn2.count (PySem.Within.cons name v hw)
  refine wpAny_bind (wpAny_lookBehind hoD (by rw [hdD]; exact pastItsLine_dict (Nat.le_trans hcD (by rw [List.length_cons]; lia))) ?_)
  exact wpAny_pure (h _ ⟨(hs2.2 _ (Ne.symm I.ne)).trans I.obj, hn2, I.ne⟩ hs2)
theorem make_map {R : Result → Shared → Prop} {vs : List Value} {kw : List (Str × Value)} (X : K.In s.heap) (hm : PySem.W.makesIn K C = true)
    (hi : PySem.W.findIn K (.ref C) "__init__" = some (some (.ref f))) (hf : PySem.W.typeIn K (.ref f) = some (.type "function"))
    (h : codeAny (model prog w) (A.under (.builtin "type.__call__" ⟨.ref C :: vs, kw⟩)) (.call (.ref f) ⟨.ref (s.heap.objs.size + 1) :: vs, kw⟩) (PySem.W.InitBack (s.heap.objs.size + 1) R)
      { s with heap := (s.heap.push PySem.W.emptyDict).push (PySem.W.instObj C s.heap.objs.size) }) :
    codeAny (model prog w) A (.call (.ref C) ⟨vs, kw⟩) R s := by
  obtain ⟨hh, g, d, t, os⟩ := s
  exact PySem.W.make_core (PySem.W.makes_of X hm) (PySem.W.looks_findIn X hi) (fun self => PySem.W.bind_fn X self hf) (.inl rfl) h
end
noncomputable def putF (f : Str) (v : V) : List (Str × V) → List (Str × V)
  | [] => [(f, v)]
  | (g, x) :: r => if g = f then (g, v) :: r else (g, x) :: putF f v r
theorem lookup_putF (f g : Str) (v : V) : ∀ fs : List (Str × V), (putF f v fs).lookup g = if g = f then some v else fs.lookup g
  | [] => by
    show List.lookup g [(f, v)] = _
    by_cases h : g = f
    · have hb : (g == f) = true := beq_iff_eq.mpr h
      simp only [List.lookup, hb, if_pos h]
    · have hb : (g == f) = false := beq_eq_false_iff_ne.mpr h
      simp only [List.lookup, hb, if_neg h]
  | (k, x) :: r => by
    have ih := lookup_putF f g v r
    rw [show putF f v ((k, x) :: r) = (if k = f then (k, v) :: r else (k, x) :: putF f v r) from rfl]
    by_cases hk : k = f
    · rw [if_pos hk]
      by_cases h : g = k
      · have hb : (g == k) = true := beq_iff_eq.mpr h
        simp only [List.lookup, hb, if_pos (h.trans hk)]
      · have hb : (g == k) = false := beq_eq_false_iff_ne.mpr h
        simp only [List.lookup, hb, if_neg (fun e : g = f => h (e.trans hk.symm))]
    · rw [if_neg hk]
      by_cases h : g = k
      · have hb : (g == k) = true := beq_iff_eq.mpr h
        simp only [List.lookup, hb, if_neg (fun e : g = f => hk (h.symm.trans e))]
      · have hb : (g == k) = false := beq_eq_false_iff_ne.mpr h
        simp only [List.lookup, hb]
        exact ih
theorem keys_putF (f : Str) (v : V) : ∀ fs : List (Str × V), f ∈ (putF f v fs).map (·.1) ∧ ∀ g, g ∈ fs.map (·.1) → g ∈ (putF f v fs).map (·.1)
  | [] => ⟨by simp [putF], fun g h => by simp at h⟩
  | (k, x) :: r => by
    obtain ⟨i1, i2⟩ := keys_putF f v r
    rw [show putF f v ((k, x) :: r) = (if k = f then (k, v) :: r else (k, x) :: putF f v r) from rfl]
    by_cases hk : k = f
    · rw [if_pos hk]
      subst hk
      exact ⟨by simp, fun g h => by simpa using h⟩
    · rw [if_neg hk]
      refine ⟨?_, fun g h => ?_⟩
      · rw [List.map_cons]
        exact List.mem_cons_of_mem _ i1
      · rw [List.map_cons] at h ⊢
        rcases List.mem_cons.mp h with e | e
        · exact List.mem_cons.mpr (.inl e)
        · exact List.mem_cons_of_mem _ (i2 g e)
theorem length_putF (f : Str) (v : V) : ∀ fs : List (Str × V), (putF f v fs).length ≤ fs.length + 1
  | [] => by simp [putF]
  | (k, x) :: r => by
    have ih := length_putF f v r
    rw [show putF f v ((k, x) :: r) = (if k = f then (k, v) :: r else (k, x) :: putF f v r) from rfl]
    by_cases hk : k = f
    · rw [if_pos hk, List.length_cons, List.length_cons]; lia
    · rw [if_neg hk, List.length_cons, List.length_cons]; lia
theorem RelO.some_of {v : V} {o : Option Value} (r : RelO (some v) o) : ∃ u, o = some u ∧ RelV v u := by
  cases o with
  | none => exact (show False from r).elim
  | some u => exact ⟨u, rfl, r⟩
theorem RelO.none_of {o : Option Value} (r : RelO none o) : o = none := by
  cases o with
  | none => rfl
  | some u => exact (show False from r).elim
theorem handed_of {v : V} {u : Value} (r : RelV v u) : PySem.W.handedIn u = true := by
  cases v with
  | non => cases (show u = Value.none from r); rfl
  | bl b => cases (show u = Value.bool b from r); rfl
  | int i => obtain ⟨t, e⟩ := (show ∃ t, u = Value.int i t from r); cases e; rfl
  | str x => obtain ⟨t, e⟩ := (show ∃ t, u = Value.str x t from r); cases e; rfl
  | byt b => obtain ⟨t, e⟩ := (show ∃ t, u = Value.bytes b t from r); cases e; rfl
  | flt b => obtain ⟨t, e⟩ := (show ∃ t, u = Value.float b t from r); cases e; rfl
  | ref a => cases (show u = Value.ref a from r); rfl
  | ty n => cases (show u = Value.type n from r); rfl
section
variable {P : Program} {w : World} {H H' : Hp} {h h' : Heap} {a C dx : Addr} {fs fs' : List (Str × V)}
theorem ins_get (hok : HOk P w H h) (e : H a = some (.ins C dx fs)) : ∃ mA, ObjM h a dx C mA ∧ (∀ f, RelO (fs.lookup f) (mA f)) ∧ PySem.Within mA (fs.map (·.1)) ∧ fs.length ≤ 1000 ∧ H dx = some (.own a) := by
  obtain ⟨d, z, ne, ob, mA, n, r, q⟩ := (show ObjOk P w H h a (.ins C dx fs) from hok a _ e)
  exact ⟨mA, ⟨ob, n, ne⟩, r, q, z, d⟩
end
structure Cls (K : PySem.W.Frag) (C : Addr) : Prop where
  pg : PySem.W.plainGet K C Str.empty = true
  hd : PySem.W.hasDictIn K C = true
  po : PySem.W.plainOver K C = true
  sa : PySem.W.findIn K (.ref C) "__setattr__" = some (some (.builtin "object.__setattr__"))
theorem Cls.get {K : PySem.W.Frag} {C : Addr} (c : Cls K C) (f : Str) : PySem.W.plainGet K C f = true := c.pg
noncomputable def NoAttr (K : PySem.W.Frag) (C : Addr) (f : Str) : Prop := PySem.W.findIn K (.ref C) f = some none
theorem NoAttr.taker {K : PySem.W.Frag} {C : Addr} {f : Str} (n : NoAttr K C f) : PySem.W.takerIn K C f = some none := by
  unfold PySem.W.takerIn
  rw [show PySem.W.findIn K (.ref C) f = some none from n]
  rfl
structure Con (K : PySem.W.Frag) (C : Addr) (f : Str) (v : V) (u : Value) : Prop where
  at_ : PySem.W.findIn K (.ref C) f = some (some u)
  rel : RelV v u
  get : PySem.W.specialIn K u "__get__" = some none
  cp : PySem.W.copiedNames.contains f = false
structure Meth (K : PySem.W.Frag) (C : Addr) (m : Str) (f : Addr) : Prop where
  at_ : PySem.W.findIn K (.ref C) m = some (some (.ref f))
  fn : PySem.W.isFn K (.ref f) = true
  kp : PySem.W.keepIn K (.ref f) = true
section
variable {X : Cx} {pins : List (Addr × Obj)} {σ : St} {H : Hp} {s : Shared} {a C dx : Addr} {fs : List (Str × V)} {f : Str} {v : V} {A : Around} {E : Value → Shared → Prop}
theorem getattr_ok {b : Bool} {Q : Value → Shared → Prop} (I : Inv X pins σ H s) (e : H a = some (.ins C dx fs)) (c : Cls X.K C) (n : NoAttr X.K C f) (l : fs.lookup f = some v)
    (h : ∀ u s', Inv X pins σ H s' → RelV v u → Q u s') : wpAny (model X.prog X.w) A (getAttr (.ref a) f b) Q E s := by
  obtain ⟨mA, O, r, _, _, _⟩ := ins_get I.hok e
  obtain ⟨u, hu, ru⟩ := RelO.some_of (v := v) (o := mA f) (by rw [← l]; exact r f)
  exact get_map I.kIn O (c.get f) c.hd n hu (handed_of ru) (h u _ (I.tok _) ru)
theorem getmeth_ok {m : Str} {g : Addr} {pl : Sem Bool} {Q : Value × List Value → Shared → Prop} (I : Inv X pins σ H s) (e : H a = some (.ins C dx fs)) (c : Cls X.K C) (k : Meth X.K C m g) (l : fs.lookup m = none)
    (h : Q (.ref g, [.ref a]) s) : wpAny (model X.prog X.w) A (getMethod (.ref a) m pl) Q E s := by
  obtain ⟨mA, O, r, _, _, _⟩ := ins_get I.hok e
  have hn : mA m = none := RelO.none_of (by rw [← l]; exact r m)
  exact get_meth I.kIn O (c.get m) k.at_ k.fn hn h
theorem setattr_ok {y : V} {u : Value} {Q : Unit → Shared → Prop} (I : Inv X pins σ H s) (e : H a = some (.ins C dx fs)) (c : Cls X.K C) (n : NoAttr X.K C f) (hl : fs.length < 1000) (ry : RelV y u)
    (h : ∀ s', Inv X pins σ (upd H a (.ins C dx (putF f y fs))) s' → Q () s') : wpAny (model X.prog X.w) A (setAttr (.ref a) f u) Q E s := by
  obtain ⟨mA, O, r, wi, _, ho⟩ := ins_get I.hok e
  have hz : (fs.map (·.1)).length ≤ sizeLine := by rw [List.length_map, sizeLine_eq]; lia
  refine set_map I.kIn O c.sa c.po n.taker c.hd wi hz fun h' O' sb => h _ ?_
  have hd : ∃ o, h'.get? dx = some o := let ⟨o, _, _, e', _⟩ := O'.ns; ⟨o, e'⟩
  refine I.write (x := a) (e := dx) (by rw [e]; exact True.intro) (.inr ho) (fun b q hb z => (sb.2 b hb).trans z) hd ?_
  refine ⟨by rw [upd_ne O.ne]; exact ho, ?_, O.ne, O'.obj, _, O'.ns, fun g => ?_, fun g hg => ?_⟩
  · have := length_putF f y fs; lia
  · show RelO ((putF f y fs).lookup g) (if g = f then some u else mA g)
    rw [lookup_putF]
    by_cases q : g = f
    · rw [if_pos q, if_pos q]; exact ry
    · rw [if_neg q, if_neg q]; exact r g
  · by_cases q : g = f
    · rw [q]; exact (keys_putF f y fs).1
    · refine (keys_putF f y fs).2 g (wi g fun z => hg ?_)
      show (if g = f then some u else mA g) = none
      rw [if_neg q]; exact z
theorem Inv.made (I : Inv X pins σ H s) : Inv X pins σ (upd (upd H s.heap.objs.size (.own (s.heap.objs.size + 1))) (s.heap.objs.size + 1) (.ins C s.heap.objs.size []))
    { s with heap := (s.heap.push PySem.W.emptyDict).push (PySem.W.instObj C s.heap.objs.size) } := by
  have e1 : (s.heap.push PySem.W.emptyDict).get? s.heap.objs.size = some PySem.W.emptyDict := Heap.get?_push_size s.heap rfl
  have e2 : ((s.heap.push PySem.W.emptyDict).push (PySem.W.instObj C s.heap.objs.size)).get? (s.heap.objs.size + 1) = some (PySem.W.instObj C s.heap.objs.size) := by
    have := Heap.get?_push_size (s.heap.push PySem.W.emptyDict) (o := PySem.W.instObj C s.heap.objs.size) rfl
    rwa [Heap.size_push] at this
  have e3 : (s.heap.push PySem.W.emptyDict).Ns s.heap.objs.size (fun _ => none) := ⟨PySem.W.emptyDict, #[], _, e1, rfl, (fun e he => absurd he (by simp)), fun _ => rfl⟩
  have I1 := I.laid (a := s.heap.objs.size) (o := .own (s.heap.objs.size + 1)) (h' := s.heap.push PySem.W.emptyDict) (t' := s.toks) (fun b u q => Heap.get?_push_of_some _ q) (Nat.le_refl _) ⟨_, e1⟩
  refine I1.laid (a := s.heap.objs.size + 1) (o := .ins C s.heap.objs.size []) (t' := s.toks) (fun b u q => Heap.get?_push_of_some _ q) (Nat.le_of_eq (Heap.size_push _ _)) ?_
  have ne : s.heap.objs.size ≠ s.heap.objs.size + 1 := Nat.ne_of_lt (Nat.lt_succ_self _)
  refine ⟨by rw [upd_ne ne, upd_same], Nat.zero_le _, ne, e2, fun _ => none, (Heap.Ns1.of_empty e3).at fun o q => Heap.get?_push_of_some _ q, fun _ => True.intro, fun y hy => absurd rfl hy⟩
theorem attr_of {prog : Program} {w : World} {env : Env} {e : Expr} {f : Str} {pos : Pos} {s : Shared} {Q : Value → Shared → Prop} (hb : attributeBase e f env (eval e env) = eval e env)
    (h : wpAny (model prog w) A (eval e env) (fun o s₁ => wpAny (model prog w) A (getAttr o f true) Q E s₁) E s) : wpAny (model prog w) A (eval (.Attribute e f pos) env) Q E s :=
  Attribute_any_ h (by rw [arm_eval_Attribute, hb])
end
noncomputable def tFld (K : PySem.W.Frag) (ta : TE) (f : Str) : TE := fun σ H Q => ta σ H fun x H1 => ∃ a C dx fs v, x = .ref a ∧ H1 a = some (.ins C dx fs) ∧ Cls K C ∧ NoAttr K C f ∧ fs.lookup f = some v ∧ Q v H1
noncomputable def sFld (K : PySem.W.Frag) (ta tv : TE) (f : Str) : TS := fun D σ H => tv σ H fun y H1 => ta σ H1 fun x H2 => ∃ a C dx fs, x = .ref a ∧ H2 a = some (.ins C dx fs) ∧ Cls K C ∧ NoAttr K C f ∧ fs.length < 1000 ∧
  D.nx σ (upd H2 a (.ins C dx (putF f y fs)))
section
variable {X : Cx} {o e value : Expr} {f : Str} {pos pos' tpos : Pos} {ta tv : TE}
theorem pe_fld (he : PE X e ta) (hb : attributeBase e f X.env (eval e X.env) = eval e X.env) : PE X (.Attribute e f pos) (tFld X.K ta f) := by
  intro pins s σ H Q I h
  refine attr_of hb (thn (he pins s σ H _ I h) fun u s1 zq => ?_)
  obtain ⟨x, H1, I1, rx, a, C, dx, fs, v, ex, ea, c, n, l, q⟩ := zq
  subst ex
  obtain rfl : u = Value.ref a := rx
  exact getattr_ok I1 ea c n l fun u' s2 I2 ru => ⟨v, H1, I2, ru, q⟩
theorem ps_fld (ha : PE X o ta) (hv : PE X value tv) (hs : swapsWith value (some (.Attribute o f pos')) pos.line X.env = pure false) : PS X (.Assign [.Attribute o f pos'] value pos) (sFld X.K ta tv f) := by
  intro pins s σ H D I h
  refine plainObj_wpAny_Assign_Attribute (thn (hv pins s σ H _ I h) fun u s1 ⟨y, H1, I1, ry, q⟩ => thn (ha pins s1 σ H1 _ I1 q) fun ov s2 ⟨x, H2, I2, rx, a, C, dx, fs, ex, ea, c, n, l, q2⟩ => ?_) hs
  subst ex
  obtain rfl : ov = Value.ref a := rx
  exact setattr_ok I2 ea c n l ry fun s3 I3 => ⟨σ, _, I3, q2⟩
end
section
variable {X : Cx} {pins : List (Addr × Obj)} {σ : St} {H : Hp} {s : Shared} {A : Around} {E : Value → Shared → Prop} {Q : Value → Shared → Prop} {c : Value} {b : Bool}
end
end L2
namespace L2
open PySem PySem.Spec PyProof.Rows
structure Room (k : Nat) (A : Around) : Prop where
  hd : A.handled = none
  dp : A.depth + 3 * k + 5 < recursionLimit
  un : A.units + 16 * k + 200 < cLine
theorem Room.mono {j k : Nat} {A : Around} (r : Room k A) (h : j ≤ k) : Room j A := ⟨r.hd, by have := r.dp; lia, by have := r.un; lia⟩
theorem Room.deeper {k : Nat} {A : Around} (r : Room (k + 1) A) (env : Env) : Room k (A.deeper env) :=
  ⟨r.hd, by have := r.dp; show A.depth + 1 + 3 * k + 5 < _; lia, by have := r.un; show A.units + 3 + 16 * k + 200 < _; lia⟩
theorem make_depth {A : Around} {C : Addr} {us : List Value} {kw : List (Str × Value)} : (A.under (.builtin "type.__call__" ⟨.ref C :: us, kw⟩)).depth = A.depth + 1 := by
  first | rfl | simp [Around.under, Code.weight, Code.isCreation, Code.isGuard, Code.isCaller, Code.frames, Code.isFrame, guardIds]
theorem make_units {A : Around} {C : Addr} {us : List Value} {kw : List (Str × Value)} : (A.under (.builtin "type.__call__" ⟨.ref C :: us, kw⟩)).units = A.units + 1 := by
  first | rfl | simp [Around.under, Code.cUnits, Code.frames, Code.isFrame]
theorem Room.make {k : Nat} {A : Around} (r : Room (k + 1) A) (C : Addr) (us : List Value) (kw : List (Str × Value)) : Room k (A.under (.builtin "type.__call__" ⟨.ref C :: us, kw⟩)) :=
  ⟨r.hd, by have := r.dp; rw [make_depth]; lia, by have := r.un; rw [make_units]; lia⟩
theorem Room.depth {k : Nat} {A : Around} (r : Room k A) : A.depth < recursionLimit := by have := r.dp; lia
theorem Room.units {k : Nat} {A : Around} (r : Room k A) : A.units + 64 < cLine := by have := r.un; lia
noncomputable def tNil : TA := fun _ H Q => Q [] H
noncomputable def tCons (ta : TE) (tr : TA) : TA := fun σ H Q => ta σ H fun x H1 => tr σ H1 fun xs H2 => Q (x :: xs) H2
section
variable {X : Cx} {e : Expr} {es : List Expr} {te : TE} {t : TA} {pos : Pos}
theorem pa_nil : PA X [] tNil := fun _ _ _ _ H Q I h => Calls.spliced_nil ⟨[], H, I, .nil, h⟩
theorem pa_cons (ha : PE X e te) (hr : PA X es t) (hs : starEach (e :: es) X.env = (false, eval e X.env) :: starEach es X.env := by rfl) : PA X (e :: es) (tCons te t) := by
  intro pos pins s σ H Q I h
  rw [hs]
  show wpAny _ _ (spliced ((false, eval e X.env) :: backTo pos (starEach es X.env))) _ _ s
  refine Calls.spliced_cons (thn (ha pins s σ H _ I h) fun u s1 zq => ?_)
  obtain ⟨x, H1, I1, r1, q1⟩ := zq
  exact thn (hr pos pins s1 σ H1 _ I1 q1) fun us s2 ⟨xs, H2, I2, r2, q2⟩ => ⟨x :: xs, H2, I2, .cons r1 r2, q2⟩
noncomputable def tTup (t : TA) : TE := fun σ H Q => t σ H fun xs H1 => xs.length ≤ sizeLine ∧ ∀ p, H1 p = none → Q (.ref p) (upd H1 p (.tup xs))
noncomputable def tLst (t : TA) : TE := fun σ H Q => t σ H fun xs H1 => xs.length ≤ sizeLine ∧ ∀ p, H1 p = none → Q (.ref p) (upd H1 p (.lst xs))
theorem pe_tup {x1} (h : PA X es t) : PE X (.Tuple es x1 pos) (tTup t) := by
  intro pins s σ H Q I hq
  refine wpAny_Tuple_spliced (thn (h pos pins s σ H _ I hq) fun us s1 ⟨xs, H1, I1, r, z, q⟩ => ⟨by rw [← r.length]; exact z, ?_⟩)
  have hf : H1 s1.heap.objs.size = none := I1.hok.fresh (Nat.le_refl _)
  refine ⟨.ref s1.heap.objs.size, upd H1 s1.heap.objs.size (.tup xs), I1.laid (t' := s1.toks) (fun b u e => Heap.get?_push_of_some _ e) (Nat.le_refl _) ?_, rfl, q _ hf⟩
  exact ⟨z, us, r, ⟨_, Heap.get?_push_size _ rfl, rfl, _, rfl⟩⟩
theorem pe_lst (h : PA X es t) : PE X (.List es pos) (tLst t) := by
  intro pins s σ H Q I hq
  refine wpAny_List_spliced (thn (h pos pins s σ H _ I hq) fun us s1 ⟨xs, H1, I1, r, z, q⟩ => ⟨by rw [← r.length]; exact z, ?_⟩)
  have hf : H1 s1.heap.objs.size = none := I1.hok.fresh (Nat.le_refl _)
  refine ⟨.ref s1.heap.objs.size, upd H1 s1.heap.objs.size (.lst xs), I1.laid (t' := s1.toks) (fun b u e => Heap.get?_push_of_some _ e) (Nat.le_refl _) ?_, rfl, q _ hf⟩
  exact ⟨z, us, 0, r, Heap.get?_push_size _ rfl⟩
end
abbrev Sp := List V → Hp → VK → XK → Prop
abbrev CXT := List Env → Hp → Shared → XK → Value → Shared → Prop
structure Env0 (P : Program) (w : World) (K : PySem.W.Frag) (mg : Str → Option Value) (base : Heap) (A : Around) (outer : List Env) (s : Shared) (H : Hp) : Prop where
  frames : A.frames = some outer
  mod : Mod K mg base
  bs : ∀ b o, base.get? b = some o → s.heap.get? b = some o ∧ H b = none
  bsz : base.objs.size ≤ s.heap.objs.size
  funs : s.heap.FunFrames base outer
  frf : ∀ b ∈ frs outer, H b = none
  hok : HOk P w H s.heap
  bare : AllBare s.gens
noncomputable def CE (outer : List Env) (P : Program) (w : World) (H : Hp) (s : Shared) (Q : VK) (u : Value) (s' : Shared) : Prop :=
  ∃ v H', s'.os = s.os ∧ AllBare s'.gens ∧ Un (frs outer) [] H H' s.heap s'.heap ∧ HOk P w H' s'.heap ∧ RelV v u ∧ Q v H'
noncomputable def CR (CX : CXT) (outer : List Env) (P : Program) (w : World) (H : Hp) (s : Shared) (Q : VK) (E : XK) (r : Result) (s' : Shared) : Prop :=
  match r with
  | .ok (.ret u) => CE outer P w H s Q u s'
  | .ok _ => False
  | .error e => CX outer H s E e s'
structure FnOk (P : Program) (w : World) (K : PySem.W.Frag) (mg : Str → Option Value) (base : Heap) (CX : CXT) (k : Nat) (f : Addr) (fd : FuncData) (ps : List Str) (sp : Sp) : Prop where
  len : ∀ vs H Q E, sp vs H Q E → vs.length = ps.length
  run : ∀ (A : Around) (outer : List Env) (s : Shared) (H : Hp) (args : Args) (us : List Value) (vs : List V) (Q : VK) (E : XK), Room k A → Env0 P w K mg base A outer s H → BindsTo s fd args (ps.zip us) → Vals vs us → sp vs H Q E →
    codeAny (model P w) A (.call (.ref f) args) (CR CX outer P w H s Q E) s
theorem Env0.make {P : Program} {w : World} {K : PySem.W.Frag} {mg : Str → Option Value} {base : Heap} {A : Around} {outer : List Env} {s : Shared} {H : Hp} (e : Env0 P w K mg base A outer s H) (C : Addr) (us : List Value) (kw : List (Str × Value)) :
    Env0 P w K mg base (A.under (.builtin "type.__call__" ⟨.ref C :: us, kw⟩)) outer s H := ⟨by first | exact e.frames | (simpa [Around.under, Code.envs, Code.isFrame, pushEnvs] using e.frames), e.mod, e.bs, e.bsz, e.funs, e.frf, e.hok, e.bare⟩
section
variable {X : Cx} {pins : List (Addr × Obj)} {σ : St} {H : Hp} {s s' : Shared}
theorem Inv.env0 (I : Inv X pins σ H s) : Env0 X.prog X.w X.K X.mg X.base X.A X.stack s H :=
  ⟨I.ok.frames, I.ok.mod, I.bs, Nat.le_trans I.ok.bsz I.sz, I.stack, I.stkFree, I.hok, I.bare⟩
theorem Inv.after {Q : VK} {u : Value} (I : Inv X pins σ H s) (h : CE X.stack X.prog X.w H s Q u s') : EP X pins σ Q u s' := by
  obtain ⟨v, H', os, bare, un, hok, r, q⟩ := h
  obtain ⟨hh, g, d, t, os'⟩ := s'
  obtain rfl : os' = s.os := os
  exact ⟨v, H', I.call (h' := hh) (g' := g) (d' := d) (t' := t) (ch := []) un hok bare (fun b z => absurd z (by simp)), r, q⟩
end
noncomputable def tCall (sp : Sp) (dvs : List V) (E : XK) (t : TA) : TE := fun σ H Q => t σ H fun vs H1 => sp (vs ++ dvs) H1 Q E
noncomputable def tMeth (C : Addr) (m : Str) (sp : Sp) (dvs : List V) (E : XK) (ta : TE) (t : TA) : TE := fun σ H Q => ta σ H fun x H1 => ∃ a dx fs, x = .ref a ∧ H1 a = some (.ins C dx fs) ∧ fs.lookup m = none ∧
  t σ H1 fun vs H2 => sp (x :: (vs ++ dvs)) H2 Q E
noncomputable def tMake (C : Addr) (sp : Sp) (dvs : List V) (E : XK) (t : TA) : TE := fun σ H Q => t σ H fun vs H1 => ∀ x dx, H1 x = none → H1 dx = none → dx ≠ x →
  sp (.ref x :: (vs ++ dvs)) (upd (upd H1 dx (.own x)) x (.ins C dx [])) (fun v H2 => v = .non ∧ Q (.ref x) H2) E
noncomputable def Binds (K : PySem.W.Frag) (fd : FuncData) (ps : List Str) (ds : List Value) : Prop :=
  ∀ (s : Shared) (us : List Value), K.In s.heap → (us ++ ds).length = ps.length → BindsTo s fd ⟨us, []⟩ (ps.zip (us ++ ds))
theorem Binds.all {K : PySem.W.Frag} {fd : FuncData} {ps : List Str} (h : ∀ us : List Value, us.length = ps.length → bindArgs fd ⟨us, []⟩ = pure (ps.zip us)) : Binds K fd ps [] := fun s us _ hl => by
  rw [List.append_nil] at hl ⊢
  exact .of_eq (h us hl)
noncomputable def Passes (CX : CXT) (X : Cx) (E : XK) : Prop := ∀ (pins : List (Addr × Obj)) (σ : St) (H : Hp) (s : Shared) (e : Value) (s' : Shared), Inv X pins σ H s → CX X.stack H s E e s' → X.xe e s'
section
variable {X : Cx} {CX : CXT} {k : Nat} {f C : Addr} {fd : FuncData} {ps : List Str} {sp : Sp} {dvs : List V} {ds : List Value} {E : XK} {x m : Str} {p pos apos : Pos} {e o : Expr} {es : List Expr} {ta : TE} {t : TA}
theorem run_fn {pins : List (Addr × Obj)} {σ : St} {H : Hp} {s : Shared} {Q : VK} {us : List Value} {vs : List V} (F : FnOk X.prog X.w X.K X.mg X.base CX k f fd ps sp) (hr : Room k X.A) (hb : Binds X.K fd ps ds) (hd : Vals dvs ds) (hx : Passes CX X E)
    (I : Inv X pins σ H s) (r : Vals vs us) (h : sp (vs ++ dvs) H Q E) : wpAny (model X.prog X.w) X.A (call (.ref f) us) (EP X pins σ Q) X.xe s := by
  have r2 : Vals (vs ++ dvs) (us ++ ds) := r.append hd
  have hl : (us ++ ds).length = ps.length := by rw [← r2.length]; exact F.len _ _ _ _ h
  refine wpAny_call (codeAny_mono (F.run X.A X.stack s H ⟨us, []⟩ (us ++ ds) (vs ++ dvs) Q E hr I.env0 (hb s us I.kIn hl) r2 h) fun r s' hq => ?_)
  cases r with
  | error e => exact hx pins σ H s e s' I hq
  | ok fl =>
    cases fl with
    | ret u => exact I.after hq
    | next => exact False.elim hq
    | brk => exact False.elim hq
    | cont => exact False.elim hq
theorem pe_call (F : FnOk X.prog X.w X.K X.mg X.base CX k f fd ps sp) (hr : Room k X.A) (hg : Gl X x) (hm : X.mg x = some (.ref f)) (hk : PySem.W.keepIn X.K (.ref f) = true) (hb : Binds X.K fd ps ds) (hd : Vals dvs ds) (hx : Passes CX X E)
    (ha : PA X (e :: es) t) (hdb : (x == ("__debug__" : Str)) = false := by decide) (he : starEach (e :: es) X.env = (false, eval e X.env) :: starEach es X.env := by rfl) (hpl : (backTo pos (starEach es X.env)).any (·.1) = false := by rfl) :
    PE X (.Call (.Name x p) (e :: es) [] pos) (tCall sp dvs E t) := by
  intro pins s σ H Q I h
  refine wpAny_Call_Name_kw (ld_glob I hg hm ?_ hdb)
  refine PySem.W.callWith_K (h₀ := X.base) I.ok.mod.kin hk (thn (ha pos pins s σ H _ I h) fun us s1 ⟨vs, H1, I1, r, q⟩ => ⟨I1.kIn, ?_⟩) he hpl
  exact run_fn F hr hb hd hx I1 r q
theorem pe_meth {pl : Sem Bool} (he : PE X o ta) (c : Cls X.K C) (hm : Meth X.K C m f) (F : FnOk X.prog X.w X.K X.mg X.base CX k f fd ps sp) (hr : Room k X.A) (hb : Binds X.K fd ps ds) (hd : Vals dvs ds) (hx : Passes CX X E) (ha : PA X (e :: es) t)
    (hst : starEach (e :: es) X.env = (false, eval e X.env) :: starEach es X.env := by rfl) (hpl : (backTo pos (starEach es X.env)).any (·.1) = false := by rfl)
    (ht : eval (.Call (.Attribute o m apos) (e :: es) [] pos) X.env = (do
      let ov ← eval o X.env
      standAt apos.atName
      let (f, first) ← holding [ov] (getMethod ov m pl)
      callWith pos f first (backTo pos (starEach (e :: es) X.env)) (backToKw pos (keywordEach [] X.env))) := by rfl) :
    PE X (.Call (.Attribute o m apos) (e :: es) [] pos) (tMeth C m sp dvs E ta t) := by
  intro pins s σ H Q I h
  refine PySem.W.methodCall_KW (pl := pl) (thn (he pins s σ H _ I h) fun u s1 ⟨x, H1, I1, rx, a, dx, fs, ex, ea, l, q⟩ => ?_) ht
  subst ex
  obtain rfl : u = Value.ref a := rx
  refine getmeth_ok I1 ea c hm l ?_
  refine PySem.W.callWith_K (first := [.ref a]) (h₀ := X.base) I.ok.mod.kin hm.kp (thn (ha pos pins s1 σ H1 _ I1 q) fun us s2 ⟨vs, H2, I2, r, q2⟩ => ⟨I2.kIn, ?_⟩) hst hpl
  exact run_fn (us := .ref a :: us) (vs := .ref a :: vs) F hr hb hd hx I2 (.cons rfl r) q2
theorem pe_meth0 {pl : Sem Bool} (he : PE X o ta) (c : Cls X.K C) (hm : Meth X.K C m f) (F : FnOk X.prog X.w X.K X.mg X.base CX k f fd ps sp) (hr : Room k X.A) (hb : Binds X.K fd ps ds) (hd : Vals dvs ds) (hx : Passes CX X E)
    (ht : eval (.Call (.Attribute o m apos) [] [] pos) X.env = (do
      let ov ← eval o X.env
      standAt apos.atName
      let (f, first) ← holding [ov] (getMethod ov m pl)
      callWith pos f first (backTo pos (starEach [] X.env)) (backToKw pos (keywordEach [] X.env))) := by rfl) :
    PE X (.Call (.Attribute o m apos) [] [] pos) (tMeth C m sp dvs E ta tNil) := by
  intro pins s σ H Q I h
  refine PySem.W.methodCall_KW (pl := pl) (thn (he pins s σ H _ I h) fun u s1 ⟨x, H1, I1, rx, a, dx, fs, ex, ea, l, q⟩ => ?_) ht
  subst ex
  obtain rfl : u = Value.ref a := rx
  refine getmeth_ok I1 ea c hm l ?_
  exact PySem.W.callWith_K0 (first := [.ref a]) I1.kIn hm.kp (run_fn (us := [.ref a]) (vs := [.ref a]) F hr hb hd hx I1 (.cons rfl .nil) q)
structure Mk (K : PySem.W.Frag) (C f : Addr) : Prop where
  makes : PySem.W.makesIn K C = true
  init : PySem.W.findIn K (.ref C) "__init__" = some (some (.ref f))
  fn : PySem.W.isFn K (.ref f) = true
  kp : PySem.W.keepIn K (.ref C) = true
theorem run_make {pins : List (Addr × Obj)} {σ : St} {H : Hp} {s : Shared} {Q : VK} {us : List Value} {vs : List V} (M : Mk X.K C f) (F : FnOk X.prog X.w X.K X.mg X.base CX k f fd ps sp) (hr : Room (k + 1) X.A) (hb : Binds X.K fd ps ds) (hd : Vals dvs ds)
    (hx : Passes CX X E) (I : Inv X pins σ H s) (r : Vals vs us)
    (h : ∀ x dx, H x = none → H dx = none → dx ≠ x → sp (.ref x :: (vs ++ dvs)) (upd (upd H dx (.own x)) x (.ins C dx [])) (fun v H2 => v = .non ∧ Q (.ref x) H2) E) :
    wpAny (model X.prog X.w) X.A (call (.ref C) us) (EP X pins σ Q) X.xe s := by
  have hq := h (s.heap.objs.size + 1) s.heap.objs.size (I.hok.fresh (Nat.le_succ _)) (I.hok.fresh (Nat.le_refl _)) (Nat.ne_of_lt (Nat.lt_succ_self _))
  have I2 := Inv.made (C := C) I
  have r2 : Vals (V.ref (s.heap.objs.size + 1) :: (vs ++ dvs)) (Value.ref (s.heap.objs.size + 1) :: (us ++ ds)) := .cons rfl (r.append hd)
  have hl : (Value.ref (s.heap.objs.size + 1) :: us ++ ds).length = ps.length := by
    have e := r2.length
    rw [F.len _ _ _ _ hq] at e
    exact e.symm
  refine wpAny_call (make_map (f := f) I.kIn M.makes M.init (beq_iff_eq.mp M.fn) (codeAny_mono (F.run _ X.stack _ _ ⟨Value.ref (s.heap.objs.size + 1) :: us, []⟩ (Value.ref (s.heap.objs.size + 1) :: (us ++ ds)) _ _ E (hr.make C us [])
    (I2.env0.make C us []) (hb _ (Value.ref (s.heap.objs.size + 1) :: us) I2.kIn hl) r2 hq) fun r s' hq' => ?_))
  cases r with
  | error e => exact hx pins σ _ _ e s' I2 hq'
  | ok fl =>
    cases fl with
    | ret u =>
      obtain ⟨v, H', I3, rv, ev, q3⟩ := I2.after hq'
      subst ev
      exact ⟨rv, ⟨V.ref (s.heap.objs.size + 1), H', I3, rfl, q3⟩⟩
    | next => exact False.elim hq'
    | brk => exact False.elim hq'
    | cont => exact False.elim hq'
theorem pe_make (M : Mk X.K C f) (F : FnOk X.prog X.w X.K X.mg X.base CX k f fd ps sp) (hr : Room (k + 1) X.A) (hg : Gl X x) (hm : X.mg x = some (.ref C)) (hb : Binds X.K fd ps ds) (hd : Vals dvs ds) (hx : Passes CX X E)
    (ha : PA X (e :: es) t) (hdb : (x == ("__debug__" : Str)) = false := by decide) (he : starEach (e :: es) X.env = (false, eval e X.env) :: starEach es X.env := by rfl) (hpl : (backTo pos (starEach es X.env)).any (·.1) = false := by rfl) :
    PE X (.Call (.Name x p) (e :: es) [] pos) (tMake C sp dvs E t) := by
  intro pins s σ H Q I h
  refine wpAny_Call_Name_kw (ld_glob I hg hm ?_ hdb)
  refine PySem.W.callWith_K (h₀ := X.base) I.ok.mod.kin M.kp (thn (ha pos pins s σ H _ I h) fun us s1 ⟨vs, H1, I1, r, q⟩ => ⟨I1.kIn, ?_⟩) he hpl
  exact run_make M F hr hb hd hx I1 r q
end
section
variable {X : Cx} {CX : CXT} {k : Nat} {f C : Addr} {fd : FuncData} {ps ks : List Str} {sp : Sp} {E : XK} {x m : Str} {p pos apos kpos : Pos} {e o : Expr} {es : List Expr} {kws : List Keyword} {te ta : TE} {t tk : TA} {nm : Option Str}
variable {g : List Value → List Value → List Value} {gV : List V → List V → List V}
end
structure FnScope (N P : List Str) (sc : Scope) : Prop where
  kind : sc.kind = .function
  co : sc.isCoroutine = false
  gen : sc.isGenerator = false
  nd : N.Nodup
  pre : N.take P.length = P
  par : ∀ x ∈ P, sc.names.lookup x = some .local ∨ sc.names.lookup x = some .cell
  nofree : ∀ y ∈ sc.names, y.2 ≠ .free
theorem bindL_out {kindOf : Str → Option NameKind} {x : Str} : ∀ {binds : List (Str × Value)} {m : Str → Option Value}, (∀ v, (x, v) ∉ binds) → bindL kindOf binds m x = m x
  | [], _, _ => rfl
  | (n, v) :: r, m, h => by
    unfold bindL
    rw [bindL_out fun w hw => h w (List.mem_cons_of_mem _ hw)]
    split
    · have : x ≠ n := by rintro rfl; exact h v List.mem_cons_self
      simp [this]
    · rfl
theorem bindC_out {kindOf : Str → Option NameKind} {x : Str} : ∀ {binds : List (Str × Value)} {m : Str → Option Value}, (∀ v, (x, v) ∉ binds) → bindC kindOf binds m x = m x
  | [], _, _ => rfl
  | (n, v) :: r, m, h => by
    unfold bindC
    rw [bindC_out fun w hw => h w (List.mem_cons_of_mem _ hw)]
    split
    · rfl
    · have : x ≠ n := by rintro rfl; exact h v List.mem_cons_self
      simp [this]
theorem bindL_get {kindOf : Str → Option NameKind} {x : Str} {v : Value} : ∀ {P : List Str} {vs : List Value} {i : Nat} {m : Str → Option Value}, P.Nodup → P[i]? = some x → vs[i]? = some v → kindOf x = some .local →
    bindL kindOf (P.zip vs) m x = some v
  | [], _, _, _, _, h, _, _ => by simp at h
  | _ :: _, [], _, _, _, _, h, _ => by simp at h
  | p :: P, w :: vs, 0, m, nd, h1, h2, hk => by
    simp at h1 h2; subst h1; subst h2
    show bindL kindOf ((p, w) :: P.zip vs) m p = _
    unfold bindL
    rw [bindL_out fun v hv => (List.nodup_cons.mp nd).1 (List.of_mem_zip hv).1, if_pos hk]
    simp
  | p :: P, w :: vs, i + 1, m, nd, h1, h2, hk => by
    show bindL kindOf ((p, w) :: P.zip vs) m x = _
    unfold bindL
    exact bindL_get (i := i) (List.nodup_cons.mp nd).2 (by simpa using h1) (by simpa using h2) hk
theorem bindC_get {kindOf : Str → Option NameKind} {x : Str} {v : Value} : ∀ {P : List Str} {vs : List Value} {i : Nat} {m : Str → Option Value}, P.Nodup → P[i]? = some x → vs[i]? = some v → kindOf x ≠ some .local →
    bindC kindOf (P.zip vs) m x = some v
  | [], _, _, _, _, h, _, _ => by simp at h
  | _ :: _, [], _, _, _, _, h, _ => by simp at h
  | p :: P, w :: vs, 0, m, nd, h1, h2, hk => by
    simp at h1 h2; subst h1; subst h2
    show bindC kindOf ((p, w) :: P.zip vs) m p = _
    unfold bindC
    rw [bindC_out fun v hv => (List.nodup_cons.mp nd).1 (List.of_mem_zip hv).1, if_neg hk]
    simp
  | p :: P, w :: vs, i + 1, m, nd, h1, h2, hk => by
    show bindC kindOf ((p, w) :: P.zip vs) m x = _
    unfold bindC
    exact bindC_get (i := i) (List.nodup_cons.mp nd).2 (by simpa using h1) (by simpa using h2) hk
noncomputable def start (N : List Str) (vs : List V) : St := vs.map some ++ List.replicate (N.length - vs.length) none
noncomputable def cxOf (CX : CXT) (P : Program) (w : World) (K : PySem.W.Frag) (mg : Str → Option Value) (base : Heap) (N : List Str) (qual : Str) (scope : Scope) (f : Addr) (cd : Value) (A : Around) (outer : List Env) (s : Shared) (H : Hp) (E : XK) : Cx where
  prog := P
  w := w
  K := K
  mg := mg
  base := base
  A := A.deeper (envOfC qual scope s.heap.objs.size f cd)
  N := N
  s₀ := s
  H₀ := H
  env := envOfC qual scope s.heap.objs.size f cd
  outer := outer
  stack := envOfC qual scope s.heap.objs.size f cd :: outer
  ex := []
  calm := true
  fn := fun _ => true
  pn := []
  xe := fun e s' => wpAny (model P w) (A.deeper (envOfC qual scope s.heap.objs.size f cd)) (leaving (envOfC qual scope s.heap.objs.size f cd) e) (fun _ s'' => CX outer H s E e s'') (fun e' s'' => CX outer H s E e' s'') s'
theorem cell_has {sc : Scope} {n : Nat} {x : Str} (h : sc.names.lookup x = some .cell) : ∃ c, (cellsFrom n sc.names []).lookup x = some c := by
  have q := PySem.W.cellsFrom_some sc.names n [] (.inl h)
  exact Option.isSome_iff_exists.mp q
theorem inv_start {CX : CXT} {P : Program} {w : World} {K : PySem.W.Frag} {mg : Str → Option Value} {base : Heap} {N ps : List Str} {qual : Str} {scope : Scope} {f : Addr} {cd : Value} {A : Around} {outer : List Env} {s s1 : Shared} {H : Hp} {E : XK} {us : List Value} {vs : List V}
    (S : FnScope N ps scope) (hd : A.handled = none) (e0 : Env0 P w K mg base A outer s H) (hl : vs.length = ps.length) (r : Vals vs us)
    (x : InCallC s s.heap.objs.size (bindL (envOfC qual scope s.heap.objs.size f cd).kindOf (ps.zip us) fun _ => none) (cellsFrom (s.heap.objs.size + 1) scope.names []) (bindC (envOfC qual scope s.heap.objs.size f cd).kindOf (ps.zip us) fun _ => none) s1) :
    Inv (cxOf CX P w K mg base N qual scope f cd A outer s H E) [] (start N vs) H s1 := by
  have hpl : ps.length ≤ N.length := by have := congrArg List.length S.pre; rw [List.length_take] at this; lia
  obtain ⟨h1, tk, rfl, hk⟩ := x.done
  have noA : ∀ b : Addr, b ∉ (cxOf CX P w K mg base N qual scope f cd A outer s H E).ex := fun b z => absurd (show b ∈ ([] : List Addr) from z) (by simp)
  refine ⟨⟨e0.mod, S.kind, rfl, rfl, Nat.le_refl _, fun y z c h1 h2 => ?_, fun y hy => ?_, fun y c _ h => ?_, fun _ => hd, Around.frames_deeper e0.frames, .inr ⟨rfl, rfl⟩, fun b z => absurd z (noA b), e0.bs, e0.bsz, fun b _ _ => noA b, fun b z => absurd z (noA b), e0.funs, e0.frf⟩,
    rfl, e0.bare, Un.kept hk, ⟨_, x.toInCall.ns, fun i y v h1 h2 h3 => ?_⟩, fun y c h => ⟨_, x.cell y c h⟩, e0.hok.fresh (Nat.le_refl _), fun y c h => ?_, fun p hp => absurd (show p ∈ ([] : List (Addr × Obj)) from hp) (by simp), e0.hok.kept hk, ?_⟩
  · exact name_of_addr x.apart (PySem.mem_of_lookup h1) (PySem.mem_of_lookup h2)
  · have hy : scope.names.lookup y = some .cell ∨ scope.names.lookup y = some .free := hy
    rcases hy with hy | hy
    · exact cell_has hy
    · exact absurd rfl (S.nofree _ (PySem.mem_of_lookup hy))
  · exact Nat.le_of_lt (x.above y c (PySem.mem_of_lookup h))
  · have hi : i < vs.length := by
      unfold start at h2
      by_cases hi : i < vs.length
      · exact hi
      · rw [List.getElem?_append_right (by simpa using hi)] at h2
        rw [List.getElem?_replicate] at h2
        split at h2 <;> cases h2
    have ha : vs[i]? = some v := by
      unfold start at h2
      rw [List.getElem?_append_left (by simpa using hi), List.getElem?_map] at h2
      cases e : vs[i]? with
      | none => rw [e] at h2; cases h2
      | some a => rw [e] at h2; cases h2; rfl
    obtain ⟨u, hu, rv⟩ := r.get ha
    have hp : ps[i]? = some y := by
      rw [← S.pre, List.getElem?_take_of_lt (by lia)]; exact h1
    have ndP : ps.Nodup := by rw [← S.pre]; exact S.nd.sublist (List.take_sublist _ _)
    refine ⟨u, rv, ?_⟩
    rcases S.par y (List.mem_of_getElem? hp) with k | k
    · exact .inl ⟨k, bindL_get ndP hp hu k⟩
    · obtain ⟨c, e⟩ := cell_has (n := s.heap.objs.size + 1) k
      refine .inr ⟨.inl k, c, e, ?_⟩
      have q := x.cell y c e
      rw [bindC_get ndP hp hu (by show scope.names.lookup y ≠ _; rw [k]; decide)] at q
      exact q
  · exact e0.hok.fresh (Nat.le_of_lt (x.above y c (PySem.mem_of_lookup h)))
  · unfold start
    show _ = N.length
    rw [List.length_append, List.length_map, List.length_replicate]
    lia
theorem fn_of {CX : CXT} {P : Program} {w : World} {K : PySem.W.Frag} {mg : Str → Option Value} {base : Heap} {k : Nat} {f : Addr} {name qual : Str} {params : Arguments} {body : List Stmt} {scope : Scope} {dV kV doc pm cdv ct oc : Value} {an od : Option Addr}
    {osl : Array (Option Value)} {N ps : List Str} {sp : Sp} (lk : K.lookup f = some ⟨oc, od, .func (PySem.W.fnOf name qual params body scope dV kV doc pm an cdv ct), osl⟩) (hcd : PySem.W.codeIn K cdv qual = true) (S : FnScope N ps scope)
    (len : ∀ vs H Q E, sp vs H Q E → vs.length = ps.length)
    (hbody : ∀ (A : Around) (outer : List Env) (s : Shared) (H : Hp) (vs : List V) (Q : VK) (E : XK), Room k (A.deeper (envOfC qual scope s.heap.objs.size f cdv)) → sp vs H Q E →
      ∃ t, PSs (cxOf CX P w K mg base N qual scope f cdv A outer s H E) body t ∧ t { nx := fun _ H' => Q .non H', rt := Q } (start N vs) H) :
    FnOk P w K mg base CX (k + 1) f (PySem.W.fnOf name qual params body scope dV kV doc pm an cdv ct) ps sp := by
  refine ⟨len, fun A outer s H args us vs Q E hr e0 hb r hsp => ?_⟩
  have hl := len _ _ _ _ hsp
  have KX : K.In s.heap := e0.mod.kin.keeps fun b o e => (e0.bs b o e).1
  have lim : s.heap.NoLimit := e0.mod.nolimit.keeps fun b o e => (e0.bs b o e).1
  have hkind : ∀ y ∈ ps.zip us, scope.names.lookup y.1 = some .local ∨ (scope.names.lookup y.1 = some .cell ∧ ((cellsFrom (s.heap.objs.size + 1) scope.names []).lookup y.1).isSome = true) := fun ⟨n, v⟩ hy => by
    rcases S.par n (List.of_mem_zip hy).1 with q | q
    · exact .inl q
    · exact .inr ⟨q, PySem.W.cellsFrom_some _ _ _ (.inl q)⟩
  refine codeAny_call_function hr.depth (KX _ _ lk) rfl S.co S.gen rfl (PySem.W.codeRec_of KX hcd) (hb _ _ _ _ ?_)
  refine wpAny_newFunctionEnv_cells S.kind hkind fun env he s1 x => ?_
  subst he
  refine ⟨lim.keeps x.toInCall.keep, codeAny_func ?_⟩
  obtain ⟨t, ht, hq⟩ := hbody A outer s H vs Q E (hr.deeper _) hsp
  have I : Inv (cxOf CX P w K mg base N qual scope f cdv A outer s H E) [] (start N vs) H s1 := inv_start S hr.hd e0 hl r x
  refine wpAny_mono (ht [] s1 (start N vs) H _ I hq) (fun fl s' hs => ?_) fun e s' hs => hs
  have fin : ∀ {σ' : St} {H' : Hp} {v : V} {u : Value}, Inv (cxOf CX P w K mg base N qual scope f cdv A outer s H E) [] σ' H' s' → RelV v u → Q v H' → CE outer P w H s Q u s' :=
    fun {σ' H' v u} J rv q => ⟨v, H', J.os, J.bare, J.base, J.hok, rv, q⟩
  cases fl with
  | ret u =>
    obtain ⟨v, σ', H', J, rv, q⟩ := hs
    exact fin J rv q
  | next =>
    obtain ⟨σ', H', J, q⟩ := hs
    exact fin (v := V.non) (u := Value.none) J rfl q
  | brk =>
    obtain ⟨_, _, _, q⟩ := hs
    exact False.elim q
  | cont =>
    obtain ⟨_, _, _, q⟩ := hs
    exact False.elim q
end L2
namespace L2
open PySem PySem.Spec PyProof.Rows
section
variable {X : Cx} {x : Str} {p pos : Pos} {e : Expr} {es : List Expr} {t : TA} {id T : String} {r : List V → Hp → VK → Prop}
noncomputable def tCB (r : List V → Hp → VK → Prop) (t : TA) : TE := fun σ H Q => t σ H fun vs H1 => r vs H1 Q
theorem pe_callB (hc : CallR X (.builtin id) r) (hg : Gl X x) (hm : X.mg x = none) (hv : bootBuiltins x = some (.builtin id)) (ha : PA X (e :: es) t) (hn : x ≠ "__name__" := by decide) (hdb : (x == ("__debug__" : Str)) = false := by decide)
    (he : starEach (e :: es) X.env = (false, eval e X.env) :: starEach es X.env := by rfl) (hpl : (backTo pos (starEach es X.env)).any (·.1) = false := by rfl) : PE X (.Call (.Name x p) (e :: es) [] pos) (tCB r t) := by
  intro pins s σ H Q I h
  refine wpAny_Call_Name_kw (ld_blt I hg hm hv ?_ hn hdb)
  exact PyProof.Rows.callWith_builtin1 (thn (ha pos pins s σ H _ I h) fun us s1 ⟨vs, H1, I1, r1, q1⟩ => hc pins s1 σ H1 vs us Q I1 r1 q1) he hpl
theorem pe_callTy (hc : CallR X (.type T) r) (hg : Gl X x) (hm : X.mg x = none) (hv : bootBuiltins x = some (.type T)) (ha : PA X (e :: es) t) (hn : x ≠ "__name__" := by decide) (hdb : (x == ("__debug__" : Str)) = false := by decide)
    (he : starEach (e :: es) X.env = (false, eval e X.env) :: starEach es X.env := by rfl) (hpl : (backTo pos (starEach es X.env)).any (·.1) = false := by rfl) : PE X (.Call (.Name x p) (e :: es) [] pos) (tCB r t) := by
  intro pins s σ H Q I h
  refine wpAny_Call_Name_kw (ld_blt I hg hm hv ?_ hn hdb)
  exact PyProof.Rows.callWith_type1 (thn (ha pos pins s σ H _ I h) fun us s1 ⟨vs, H1, I1, r1, q1⟩ => hc pins s1 σ H1 vs us Q I1 r1 q1) he hpl
end
end L2
namespace HT
open PySem PyProof.Rows
section
open PySem.SeqAt
open PySem.AutoSeq1 (wpAny_loadPart')
open PySem.MeetsSeq PySem.MeetsSeq2 PySem.MeetsSeq3
end
section
variable {prog : Program} {w : World} {A : Around} {E : Value → Shared → Prop} {s : Shared}
noncomputable def sIx (n d : Nat) : Option Int → Nat
  | none => d
  | some v => if v < 0 then (v + (n : Int)).toNat else min v.toNat n
theorem sIx_none (n d : Nat) : sIx n d none = d := rfl
theorem sIx_nat (n d k : Nat) : sIx n d (some (k : Int)) = min k n := by
  show (if (k : Int) < 0 then ((k : Int) + (n : Int)).toNat else min (k : Int).toNat n) = min k n
  rw [if_neg (by lia), Int.toNat_natCast]
theorem sIx_le (n d : Nat) (hd : d ≤ n) (o : Option Int) : sIx n d o ≤ n := by
  cases o with
  | none => exact hd
  | some v =>
    show (if v < 0 then (v + (n : Int)).toNat else min v.toNat n) ≤ n
    by_cases hv : v < 0
    · rw [if_pos hv]; lia
    · rw [if_neg hv]; exact Nat.min_le_right _ _
theorem clip_eq (v : Int) (n d : Nat) : (if v < 0 then max (v + (n : Int)) 0 else min v (n : Int)) = ((sIx n d (some v) : Nat) : Int) := by
  show (if v < 0 then max (v + (n : Int)) 0 else min v (n : Int)) = (((if v < 0 then (v + (n : Int)).toNat else min v.toNat n) : Nat) : Int)
  by_cases hv : v < 0
  · simp only [if_pos hv]; lia
  · simp only [if_neg hv]; lia
theorem adjust_gen (lo hi : Option Int) (n : Nat) : Builtin.Slice.sliceAdjust lo hi 1 (n : Int) = (((sIx n 0 lo : Nat) : Int), ((sIx n n hi : Nat) : Int)) := by
  have h1 : ¬ ((1 : Int) < 0) := by lia
  unfold Builtin.Slice.sliceAdjust
  simp only [h1, if_false]
  refine Prod.ext ?_ ?_
  · cases lo with
    | none => rfl
    | some v => exact clip_eq v n 0
  · cases hi with
    | none => rfl
    | some v => exact clip_eq v n n
theorem places_gen (i j : Nat) : Builtin.Slice.slicePlaces (i : Int) (j : Int) 1 = j - i := by
  unfold Builtin.Slice.slicePlaces
  have h1 : (1 : Int) > 0 := by lia
  simp only [h1, if_true, Int.ediv_one]
  split <;> lia
theorem slicePart_ {v : Value} {o : Option Int} {Q : Option Int → Shared → Prop} (p : IsPart v o) (h : Q o s) : wpAny (model prog w) A (Builtin.Slice.slicePartIndex v) Q E s := by
  cases p with
  | none => exact slicePart_none h
  | int i t => exact slicePart_int h
theorem sliceApplied_gen {sl : Addr} {vl vu : Value} {lo hi : Option Int} {n : Nat} {Q : Int × Int × Nat → Shared → Prop} (hs : s.heap.IsSliceOf sl vl vu .none) (pl : IsPart vl lo) (pu : IsPart vu hi)
    (h : Q (((sIx n 0 lo : Nat) : Int), 1, sIx n n hi - sIx n 0 lo) s) : wpAny (model prog w) A (Builtin.Slice.sliceApplied (.ref sl) (pure (n : Int))) Q E s := by
  obtain ⟨os, hos, hcs, hds⟩ := id hs
  unfold Builtin.Slice.sliceApplied Builtin.Slice.sliceFields
  refine wpAny_bind (wpAny_bind (wpAny_field hos hds (x := vl) rfl (wpAny_bind (wpAny_field hos hds (x := vu) rfl (wpAny_bind (wpAny_field hos hds (x := .none) rfl (wpAny_pure ?_)))))))
  refine wpAny_bind (slicePart_none ?_)
  show wpAny _ _ (if ((1 : Int) == 0) = true then _ else _) _ _ s
  rw [if_neg (by decide)]
  refine wpAny_bind (slicePart_ pl (wpAny_bind (slicePart_ pu (wpAny_bind (wpAny_pure ?_)))))
  show wpAny _ _ (match Builtin.Slice.sliceAdjust lo hi 1 (n : Int) with | (lo, hi) => pure (lo, (1 : Int), Builtin.Slice.slicePlaces lo hi 1)) _ _ s
  rw [adjust_gen lo hi n]
  show wpAny _ _ (pure (((sIx n 0 lo : Nat) : Int), (1 : Int), Builtin.Slice.slicePlaces ((sIx n 0 lo : Nat) : Int) ((sIx n n hi : Nat) : Int) 1)) _ _ s
  rw [places_gen]
  exact wpAny_pure h
theorem pick_gen (xs : Array Value) (i k : Nat) : ((List.range k).filterMap fun (m : Nat) => xs[((i : Int) + (m : Int) * 1).toNat]?).toArray = ((xs.toList.drop i).take k).toArray := by
  have e : (fun (m : Nat) => xs[((i : Int) + (m : Int) * 1).toNat]?) = fun m => xs[i + m]? := by
    funext m
    have : ((i : Int) + (m : Int) * 1).toNat = i + m := by lia
    rw [this]
  rw [e]
  have := pick_run xs i k
  rw [List.filterMap_map] at this
  have e2 : ((fun x => xs[x]?) ∘ fun x => i + x) = fun m => xs[i + m]? := rfl
  rw [e2] at this
  rw [this]
theorem getItem_tuple_cut {t sl : Addr} {items : Array Value} {vl vu : Value} {lo hi : Option Int} {Q : Value → Shared → Prop} (ht : IsTup s.heap t items) (hs : s.heap.IsSliceOf sl vl vu .none) (pl : IsPart vl lo) (pu : IsPart vu hi)
    (hw : ¬ (sIx items.size 0 lo = 0 ∧ sIx items.size items.size hi = items.size))
    (h : Q (.ref s.heap.objs.size) { s with heap := s.heap.push { cls := .type "tuple", data := .seq ((items.toList.drop (sIx items.size 0 lo)).take (sIx items.size items.size hi - sIx items.size 0 lo)).toArray } })
    (hsz : items.size ≤ sizeLine) : wpAny (model prog w) A (getItem (.ref t) (.ref sl)) Q E s := by
  have htake : sizeOk (.seq ((items.toList.drop (sIx items.size 0 lo)).take (sIx items.size items.size hi - sIx items.size 0 lo)).toArray) := by
    show ((items.toList.drop (sIx items.size 0 lo)).take (sIx items.size items.size hi - sIx items.size 0 lo)).toArray.size ≤ sizeLine
    rw [List.size_toArray, List.length_take, List.length_drop, Array.length_toList]
    lia
  have hj : sIx items.size items.size hi ≤ items.size := sIx_le _ _ (Nat.le_refl _) hi
  obtain ⟨os, hos, hcs, hds⟩ := id hs
  have hTs : s.TypeIs (.ref sl) "slice" := ⟨os, hos, hcs⟩
  unfold getItem
  try with_reducible refine wpAny_holding ?_
  first | refine wpAny_bind (wpAny_pure ?_) | skip
  refine wpAny_bind (wpAny_sequenceKey ht.typeIs (by decide) ?_)
  refine wpAny_bind (wpAny_callSpecial?_slot (name := Str.ofString "__getitem__") ht.typeIs PyProof.Rows.slot_tuple_getitem
    (wpAny_call_entry PyProof.Rows.slot_tuple_getitem ht.typeIs entry_tuple_getitem ?_ (args_tuple_getitem _ _)))
  show wpAny _ _ (Builtin.Tuple.tupleItemsOf (.ref t) >>= _) _ _ s
  refine wpAny_bind (tupleItemsOf_ ht ?_)
  refine wpAny_bind (wpAny_typeOf hTs ?_)
  rw [if_pos (by decide)]
  refine wpAny_bind (sliceApplied_gen hs pl pu ?_)
  have hno : ¬ ((((sIx items.size 0 lo : Nat) : Int) == 0 && (1 : Int) == 1 && (sIx items.size items.size hi - sIx items.size 0 lo) == items.size) = true) := by
    intro q
    rw [Bool.and_eq_true, Bool.and_eq_true] at q
    have q1 : ((sIx items.size 0 lo : Nat) : Int) = 0 := eq_of_beq q.1.1
    have q2 : sIx items.size items.size hi - sIx items.size 0 lo = items.size := eq_of_beq q.2
    exact hw ⟨by lia, by lia⟩
  show wpAny _ _ (if (((sIx items.size 0 lo : Nat) : Int) == 0 && (1 : Int) == 1 && (sIx items.size items.size hi - sIx items.size 0 lo) == items.size) = true then _ else _) _ _ s
  rw [if_neg hno, pick_gen]
  first
    | exact wpAny_bind (m := Builtin.Tuple.tupleExact _) (wpAny_newObj_type (wpAny_pure ⟨_, rfl, wpAny_pure h⟩) htake)
    | exact wpAny_bind (m := Builtin.Tuple.tupleExact _) (wpAny_newObj_type (wpAny_bind (wpAny_pure (wpAny_pure ⟨_, rfl, wpAny_pure h⟩))) htake)
    | exact wpAny_bind (wpAny_bind (m := Builtin.Tuple.tupleExact _) (wpAny_newObj_type (wpAny_pure (wpAny_pure ⟨_, rfl, wpAny_pure h⟩)) htake))
    | exact wpAny_bind (wpAny_bind (m := Builtin.Tuple.tupleExact _) (wpAny_newObj_type (wpAny_pure ⟨_, rfl, wpAny_pure h⟩) htake))
end
end HT
namespace L2
open PySem PySem.Spec PyProof.Rows
abbrev TO := St → Hp → (Option Int → Hp → Prop) → Prop
noncomputable def PO (X : Cx) (e : Option Expr) (t : TO) : Prop :=
  ∀ (pins : List (Addr × Obj)) (s : Shared) (σ : St) (H : Hp) (Q : Option Int → Hp → Prop), Inv X pins σ H s → t σ H Q →
    wpAny (model X.prog X.w) X.A (evalPart e X.env) (fun u s' => ∃ o H', Inv X pins σ H' s' ∧ IsPart u o ∧ Q o H') X.xe s
noncomputable def tNoPart : TO := fun _ H Q => Q none H
inductive tPartS (x : V) (H1 : Hp) (Q : Option Int → Hp → Prop) : Prop
  | mk (i : Int) (h0 : x = .int i) (h1 : Q (some i) H1) : tPartS x H1 Q
noncomputable def tPart (t : TE) : TO := fun σ H Q => t σ H fun x H1 => tPartS x H1 Q
theorem intsAre_of {ns : List Int} : ∀ {us : List Value}, Vals (ns.map V.int) us → IntsAre us ns := by
  induction ns with
  | nil => intro us r; rw [List.map_nil] at r; cases r; exact .nil
  | cons n ns ih =>
    intro us r
    rw [List.map_cons] at r
    cases r with
    | cons r1 r2 =>
      obtain ⟨t, e⟩ := r1
      subst e
      exact .cons n t (ih r2)
section
variable {X : Cx} {e : Expr} {te : TE} {lo hi : Option Expr} {tl th : TO} {pos p2 : Pos}
theorem po_none : PO X none tNoPart := by
  intro pins s σ H Q I h
  rw [evalPart_none]
  exact wpAny_pure ⟨none, H, I, .none, h⟩
theorem po_some (h : PE X e te) : PO X (some e) (tPart te) := by
  intro pins s σ H Q I hw
  rw [evalPart_some]
  refine thn (h pins s σ H _ I hw) fun u s1 zq => ?_
  obtain ⟨x, H1, I1, r1, q1⟩ := zq
  obtain ⟨i, rfl, q⟩ := q1
  obtain ⟨t, rfl⟩ := r1
  exact ⟨some i, H1, I1, .int i t, q⟩
noncomputable def SlR (X : Cx) (r : V → Option Int → Option Int → Hp → VK → Prop) : Prop :=
  ∀ (pins : List (Addr × Obj)) (s : Shared) (σ : St) (H : Hp) (x : V) (v vl vu : Value) (lo hi : Option Int) (sl : Addr) (Q : VK), Inv X pins σ H s → RelV x v → s.heap.IsSliceOf sl vl vu .none → IsPart vl lo → IsPart vu hi → r x lo hi H Q →
    ∃ T id, typeLookup (.type T) "__getitem__" = pure (some (.builtin id)) ∧ s.TypeIs v T ∧ wpAny (model X.prog X.w) X.A (getItem v (.ref sl)) (EP X pins σ Q) X.xe s
noncomputable def tSl (r : V → Option Int → Option Int → Hp → VK → Prop) (te : TE) (tl th : TO) : TE := fun σ H Q => te σ H fun x H1 => tl σ H1 fun l H2 => th σ H2 fun u H3 => r x l u H3 Q
theorem pe_slice {r : V → Option Int → Option Int → Hp → VK → Prop} (hr : SlR X r) (he : PE X e te) (hl : PO X lo tl) (hu : PO X hi th) : PE X (.Subscript e (.Slice lo hi none p2) pos) (tSl r te tl th) := by
  intro pins s σ H Q I h
  refine Subscript_ (thn (he pins s σ H _ I h) fun v s1 zq => ?_)
  obtain ⟨x, H1, I1, r1, q1⟩ := zq
  refine wpAny_Slice (thn (hl pins s1 σ H1 _ I1 q1) fun vl s2 ⟨l, H2, I2, pl, q2⟩ => thn (hu pins s2 σ H2 _ I2 q2) fun vu s3 zq => ?_)
  obtain ⟨u, H3, I3, pu, q3⟩ := zq
  rw [evalPart_none]
  refine wpAny_pure ?_
  have I4 : Inv X pins σ H3 { s3 with heap := s3.heap.push { cls := .type "slice", data := .fields #[vl, vu, .none] } } := I3.kept (t' := s3.toks) fun b ob q => Heap.get?_push_of_some _ q
  obtain ⟨T, id, hT, ht, hg⟩ := hr pins { s3 with heap := s3.heap.push { cls := .type "slice", data := .fields #[vl, vu, .none] } } σ H3 x v vl vu l u s3.heap.objs.size Q I4 r1 (Heap.IsSliceOf.new ..) pl pu q3
  show wpAny (model X.prog X.w) X.A (subscriptTail e (.Slice lo hi none p2) v (.ref s3.heap.objs.size)) (EP X pins σ Q) X.xe { s3 with heap := s3.heap.push { cls := .type "slice", data := .fields #[vl, vu, .none] } }
  exact tail_any (ops := [.ref s3.heap.objs.size, v]) ht hT hg (by with_unfolding_all rfl)
noncomputable def cutV (xs : List V) (lo hi : Option Int) : List V := (xs.drop (HT.sIx xs.length 0 lo)).take (HT.sIx xs.length xs.length hi - HT.sIx xs.length 0 lo)
theorem cutV_length (xs : List V) (lo hi : Option Int) : (cutV xs lo hi).length ≤ xs.length := by
  unfold cutV
  rw [List.length_take, List.length_drop]
  lia
inductive rSlTS (K : PySem.W.Frag) (x : V) (lo hi : Option Int) (H : Hp) (Q : VK) : Prop
  | mk (a : Addr) (xs : List V) (h0 : x = .ref a) (h1 : SqT K H a xs) (h2 : ¬ (HT.sIx xs.length 0 lo = 0 ∧ HT.sIx xs.length xs.length hi = xs.length)) (h3 : ∀ p, H p = none → Q (.ref p) (upd H p (.tup (cutV xs lo hi)))) : rSlTS K x lo hi H Q
noncomputable def rSlT (K : PySem.W.Frag) : V → Option Int → Option Int → Hp → VK → Prop := fun x lo hi H Q => rSlTS K x lo hi H Q
theorem sl_tup : SlR X (rSlT X.K) := by
  intro pins s σ H x v vl vu lo hi sl Q I rx hs pl pu h
  obtain ⟨a, xs, rfl, hx, hw, q⟩ := h
  cases rx
  obtain ⟨its, r, ht, hz⟩ := I.tuple hx
  have hlen : its.toArray.size = xs.length := by rw [List.size_toArray]; exact r.length.symm
  refine ⟨"tuple", _, PyProof.Rows.slot_tuple_getitem.lookup, ht.typeIs, ?_⟩
  refine HT.getItem_tuple_cut ht hs pl pu (by rw [hlen]; exact hw) ?_ (by rw [hlen]; exact hz)
  rw [hlen]
  refine ⟨.ref s.heap.objs.size, _, I.laid (t' := s.toks) (o := .tup (cutV xs lo hi)) (fun b ob q => Heap.get?_push_of_some _ q) (Nat.le_refl _) ?_, rfl, q _ (I.hok.fresh (Nat.le_refl _))⟩
  exact ⟨Nat.le_trans (cutV_length xs lo hi) hz, _, (r.drop (HT.sIx xs.length 0 lo)).take (HT.sIx xs.length xs.length hi - HT.sIx xs.length 0 lo), IsTup.new _ _⟩
end
end L2
namespace L2
open PySem PySem.Spec PyProof.Rows
noncomputable def ixN (n : Nat) (i : Int) : Option Nat := if 0 ≤ i then (if i < n then some i.toNat else none) else if -(n : Int) ≤ i then some (i + n).toNat else none
noncomputable def atI {α : Type} (xs : List α) (i : Int) : Option α := (ixN xs.length i).bind fun j => xs[j]?
theorem ixN_seq {n : Nat} {i : Int} {j : Nat} (h : ixN n i = some j) : seqIndex? i n = some j ∧ j < n ∧ -(n : Int) ≤ i ∧ i < n := by
  unfold ixN at h
  by_cases h0 : 0 ≤ i
  · rw [if_pos h0] at h
    by_cases h1 : i < n
    · rw [if_pos h1] at h
      have e : i.toNat = j := Option.some.inj h
      exact ⟨by rw [seqIndex_of h0 h1, e], by lia, by lia, h1⟩
    · rw [if_neg h1] at h; cases h
  · rw [if_neg h0] at h
    by_cases h1 : -(n : Int) ≤ i
    · rw [if_pos h1] at h
      have e : (i + n).toNat = j := Option.some.inj h
      exact ⟨by rw [seqIndex_neg (by lia) h1, e], by lia, h1, by lia⟩
    · rw [if_neg h1] at h; cases h
theorem atI_get {α : Type} {xs : List α} {i : Int} {v : α} (h : atI xs i = some v) : ∃ j, seqIndex? i xs.length = some j ∧ xs[j]? = some v ∧ j < xs.length ∧ -(xs.length : Int) ≤ i ∧ i < xs.length := by
  unfold atI at h
  cases e : ixN xs.length i with
  | none => rw [e] at h; cases h
  | some j =>
    rw [e] at h
    obtain ⟨h1, h2, h3, h4⟩ := ixN_seq e
    exact ⟨j, h1, h, h2, h3, h4⟩
theorem atI_nat {α : Type} {xs : List α} {j : Nat} {v : α} (h : xs[j]? = some v) : atI xs (j : Int) = some v := by
  have hj : j < xs.length := (List.getElem?_eq_some_iff.mp h).1
  have e : ixN xs.length (j : Int) = some j := by
    unfold ixN
    rw [if_pos (by lia), if_pos (by lia)]; simp
  unfold atI; rw [e]; exact h
noncomputable def PlainIx (b : Expr) : Prop := ∀ o i, subscripted b false o i = operate [o, i] (getItem o i)
noncomputable def IxR (X : Cx) (r : R2) : Prop :=
  ∀ (value slice : Expr) (pins : List (Addr × Obj)) (s : Shared) (σ : St) (H : Hp) (x y : V) (v u : Value) (Q : VK), Inv X pins σ H s → RelV x v → RelV y u → r x y H Q →
    subscripted slice false v u = operate [v, u] (getItem v u) → wpAny (model X.prog X.w) X.A (subscriptTail value slice v u) (EP X pins σ Q) X.xe s
noncomputable def MtR (X : Cx) (id : String) (r : V → List V → Hp → VK → Prop) : Prop :=
  ∀ (pins : List (Addr × Obj)) (s : Shared) (σ : St) (H : Hp) (x : V) (xs : List V) (v : Value) (us : List Value) (Q : VK), Inv X pins σ H s → RelV x v → Vals xs us → r x xs H Q →
    wpAny (model X.prog X.w) X.A (call (.builtin id) (v :: us)) (EP X pins σ Q) X.xe s
section
variable {X : Cx} {a b : Expr} {ta tb : TE} {pos : Pos}
theorem pe_ix {r : R2} (hr : IxR X r) (ha : PE X a ta) (hb : PE X b tb) (hs : PlainIx b) : PE X (.Subscript a b pos) (tOp r ta tb) := by
  intro pins s σ H Q I h
  exact Subscript_ (binT ha hb I h fun v u s2 x y H2 I2 rx ry q => hr a b pins s2 σ H2 x y v u Q I2 rx ry q (hs _ _))
inductive rIxLS (K : PySem.W.Frag) (x y : V) (H : Hp) (Q : VK) : Prop
  | mk (p : Addr) (xs : List V) (i : Int) (v : V) (h0 : x = .ref p) (h1 : y = .int i) (h2 : SqL K H p xs) (h3 : atI xs i = some v) (h4 : Q v H) : rIxLS K x y H Q
noncomputable def rIxL (K : PySem.W.Frag) : R2 := fun x y H Q => rIxLS K x y H Q
inductive rIxTS (K : PySem.W.Frag) (x y : V) (H : Hp) (Q : VK) : Prop
  | mk (p : Addr) (xs : List V) (i : Int) (v : V) (h0 : x = .ref p) (h1 : y = .int i) (h2 : SqT K H p xs) (h3 : atI xs i = some v) (h4 : Q v H) : rIxTS K x y H Q
noncomputable def rIxT (K : PySem.W.Frag) : R2 := fun x y H Q => rIxTS K x y H Q
inductive rIxSS (x y : V) (H : Hp) (Q : VK) : Prop
  | mk (z : Str) (i : Int) (c : Nat) (h0 : x = .str z) (h1 : y = .int i) (h2 : z.length ≤ sizeLine) (h3 : atI z.cps.toList i = some c) (h4 : Q (.str ⟨#[c]⟩) H) : rIxSS x y H Q
noncomputable def rIxS : R2 := fun x y H Q => rIxSS x y H Q
theorem ix_list : IxR X (rIxL X.K) := by
  intro value slice pins s σ H x y v u Q I rx ry h hs
  obtain ⟨p, xs, i, z, rfl, rfl, hq, he, q⟩ := h
  cases rx
  obtain ⟨t, rfl⟩ := ry
  obtain ⟨its, r, pl, hz⟩ := I.list hq
  obtain ⟨j, h1, h2, h3, h4, h5⟩ := atI_get he
  obtain ⟨w, ew, rw'⟩ := r.get h2
  have hl := r.length
  have hn := line63
  have fin : EP X pins σ Q w s := ⟨z, H, I, rw', q⟩
  by_cases h0 : 0 ≤ i
  · have hj : i.toNat = j := by
      rw [seqIndex_of h0 h5] at h1
      exact Option.some.inj h1
    exact item_listR pl.isList h0 (by lia) (by rw [hj]; simpa using ew) fin hs
  · have hj : (i + (its.toArray.size : Int)).toNat = j := by
      rw [seqIndex_neg (by lia) h4] at h1
      rw [List.size_toArray, ← hl]
      exact Option.some.inj h1
    exact subscriptTail_builtinR (x := w) pl.isList.typeIs slot_list_getitem.lookup
      (wpAny_getItem_list_neg (Q := fun r s' => r = w ∧ EP X pins σ Q r s') pl.isList (by lia) (by rw [List.size_toArray] <;> lia) (by lia) (by rw [hj]; simpa using ew) ⟨rfl, fin⟩) hs
theorem ix_tup : IxR X (rIxT X.K) := by
  intro value slice pins s σ H x y v u Q I rx ry h hs
  obtain ⟨p, xs, i, z, rfl, rfl, hq, he, q⟩ := h
  cases rx
  obtain ⟨t, rfl⟩ := ry
  obtain ⟨its, r, pl, hz⟩ := I.tuple hq
  obtain ⟨j, h1, h2, h3, h4, h5⟩ := atI_get he
  obtain ⟨w, ew, rw'⟩ := r.get h2
  have hl := r.length
  have hn := line63
  have fin : EP X pins σ Q w s := ⟨z, H, I, rw', q⟩
  exact subscriptTail_builtinR (x := w) pl.typeIs slot_tuple_getitem.lookup
    (getItem_tuple (j := j) (Q := fun r s' => r = w ∧ EP X pins σ Q r s') pl (by lia) (by lia) (by rw [List.size_toArray, ← hl]; exact h1) (by simpa using ew) ⟨rfl, fin⟩) hs
theorem ix_str : IxR X rIxS := by
  intro value slice pins s σ H x y v u Q I rx ry h hs
  obtain ⟨z, i, c, rfl, rfl, hz, he, q⟩ := h
  obtain ⟨t, rfl⟩ := rx
  obtain ⟨t', rfl⟩ := ry
  obtain ⟨j, h1, h2, h3, h4, h5⟩ := atI_get he
  have hl : z.cps.toList.length = z.length := by simp [Str.length]
  rw [hl] at h1 h4 h5
  have hn := line63
  exact tail_any (typeIs_str s z t) slot_str_getitem.lookup (getItem_str (c := c) (by
    have e1 : decide (i < -(2 ^ 63 : Int)) = false := decide_eq_false (by lia)
    have e2 : decide (i ≥ 2 ^ 63) = false := decide_eq_false (by lia)
    rw [e1, e2, Bool.or_false]) (by rw [h1]; simpa using h2) ⟨.str ⟨#[c]⟩, H, I.tok _, ⟨_, rfl⟩, q⟩) hs
theorem mapSeq_set (its : List Value) (n j : Nat) (u : Value) : Obj.mapSeq (·.setIfInBounds j u) { cls := .type "list", data := .seq its.toArray n } = { cls := .type "list", data := .seq (its.set j u).toArray n } := by
  simp [Obj.mapSeq]
theorem Inv.lst {pins : List (Addr × Obj)} {σ : St} {H : Hp} {s : Shared} {p : Addr} {xs : List V} (I : Inv X pins σ H s) (h : H p = some (.lst xs)) :
    ∃ (its : List Value) (n : Nat), Vals xs its ∧ s.heap.get? p = some { cls := .type "list", data := .seq its.toArray n } ∧ xs.length ≤ sizeLine := by
  obtain ⟨z, its, n, r, e⟩ := I.hok p _ h
  exact ⟨its, n, r, e, z⟩
theorem Inv.lstUpd {pins : List (Addr × Obj)} {σ : St} {H : Hp} {s : Shared} {p : Addr} {xs ys : List V} {its its' : List Value} {n n' : Nat} {f : Obj → Obj} (I : Inv X pins σ H s) (h : H p = some (.lst xs))
    (ho : s.heap.get? p = some { cls := .type "list", data := .seq its.toArray n }) (hf : f { cls := .type "list", data := .seq its.toArray n } = { cls := .type "list", data := .seq its'.toArray n' }) (r : Vals ys its') (hz : ys.length ≤ sizeLine) (t : Nat) :
    Inv X pins σ (upd H p (.lst ys)) { s with heap := s.heap.update p f, toks := t } := by
  have e : (s.heap.update p f).get? p = some { cls := .type "list", data := .seq its'.toArray n' } := by
    rw [Heap.get?_update_self f ho (by rw [hf] <;> rfl), hf]
  refine I.write (x := p) (e := p) (by rw [h]; trivial) (.inl rfl) (fun b u hb q => (Heap.get?_update_other _ _ (Ne.symm hb)).trans q) ⟨_, e⟩ ?_
  exact ⟨hz, its', n', r, e⟩
inductive rSetLS (o i v : V) (H : Hp) (Q : Hp → Prop) : Prop
  | mk (p : Addr) (xs : List V) (k : Int) (j : Nat) (h0 : o = .ref p) (h1 : i = .int k) (h2 : H p = some (.lst xs)) (h3 : ixN xs.length k = some j) (h4 : Q (upd H p (.lst (xs.set j v)))) : rSetLS o i v H Q
noncomputable def rSetL : V → V → V → Hp → (Hp → Prop) → Prop := fun o i v H Q => rSetLS o i v H Q
theorem set_list : PSet X rSetL := by
  intro pins s σ H o i v ov iv u Q I ro ri rv h
  obtain ⟨p, xs, k, j, rfl, rfl, hp, hj, q⟩ := h
  cases ro
  obtain ⟨t, rfl⟩ := ri
  obtain ⟨its, n, r, ho, hz⟩ := I.lst hp
  obtain ⟨h1, h2, h3, h4⟩ := ixN_seq hj
  have hl := r.length
  have hn := line63
  have I' : Inv X pins σ (upd H p (.lst (xs.set j v))) { s with heap := s.heap.update p (Obj.mapSeq (·.setIfInBounds j u)) } :=
    I.lstUpd hp ho (mapSeq_set its n j u) (r.set rv j) (by rw [List.length_set]; exact hz) s.toks
  by_cases h0 : 0 ≤ k
  · have hk : k.toNat = j := by
      rw [seqIndex_of h0 h4] at h1
      exact Option.some.inj h1
    exact PySem.W.ki_setAt ho h0 (by lia) (by rw [List.size_toArray, ← hl]; exact h4) (by rw [hk]; exact ⟨_, I', q⟩)
  · have hk : (k + (its.toArray.size : Int)).toNat = j := by
      rw [seqIndex_neg (by lia) h3] at h1
      rw [List.size_toArray, ← hl]
      exact Option.some.inj h1
    exact PySem.W.ki_setBack ho (by lia) (by rw [List.size_toArray, ← hl]; exact h3) (by lia) (by rw [hk]; exact ⟨_, I', q⟩)
theorem slice_bounds (lo hi : Option Int) (n : Nat) : (sliceBounds lo hi none n).1 = ((HT.sIx n 0 lo : Nat) : Int) ∧ (sliceBounds lo hi none n).2.1 = ((HT.sIx n n hi : Nat) : Int) ∧ (sliceBounds lo hi none n).2.2 = 1 := by
  refine ⟨?_, ?_, rfl⟩
  · cases lo with
    | none => simp [sliceBounds, HT.sIx]
    | some i =>
      simp only [sliceBounds, HT.sIx, Option.getD_none, show (1 : Int) > 0 by decide, if_true]
      by_cases h : i < 0
      · simp only [h, if_true] <;> lia
      · simp only [h, if_false] <;> lia
  · cases hi with
    | none => simp [sliceBounds, HT.sIx]
    | some i =>
      simp only [sliceBounds, HT.sIx, Option.getD_none, show (1 : Int) > 0 by decide, if_true]
      by_cases h : i < 0
      · simp only [h, if_true] <;> lia
      · simp only [h, if_false] <;> lia
theorem slicePick_cut (its : List Value) (lo hi : Option Int) : slicePick its.toArray lo hi none = ((its.drop (HT.sIx its.length 0 lo)).take (HT.sIx its.length its.length hi - HT.sIx its.length 0 lo)).toArray := by
  obtain ⟨h1, h2, h3⟩ := slice_bounds lo hi its.toArray.size
  unfold slicePick
  rw [h1, h2, h3]
  simp only [sliceRange_one, pick_run, List.size_toArray] <;> rfl
inductive rSlLS (K : PySem.W.Frag) (x : V) (lo hi : Option Int) (H : Hp) (Q : VK) : Prop
  | mk (a : Addr) (xs : List V) (h0 : x = .ref a) (h1 : SqL K H a xs) (h2 : ∀ p, H p = none → Q (.ref p) (upd H p (.lst (cutV xs lo hi)))) : rSlLS K x lo hi H Q
noncomputable def rSlL (K : PySem.W.Frag) : V → Option Int → Option Int → Hp → VK → Prop := fun x lo hi H Q => rSlLS K x lo hi H Q
theorem sl_list : SlR X (rSlL X.K) := by
  intro pins s σ H x v vl vu lo hi sl Q I rx hs pl pu h
  obtain ⟨a, xs, rfl, hx, q⟩ := h
  cases rx
  obtain ⟨its, r, ht, hz⟩ := I.list hx
  have hlen := r.length
  refine ⟨"list", _, slot_list_getitem.lookup, ht.isList.typeIs, ?_⟩
  refine wpAny_getItem_list_slice ht.isList hs pl pu .none (by simp) ?_ (by rw [List.size_toArray] <;> lia)
  rw [slicePick_cut, ← hlen]
  refine ⟨.ref s.heap.objs.size, _, I.laid (t' := s.toks) (o := .lst (cutV xs lo hi)) (fun b ob q => Heap.get?_push_of_some _ q) (Nat.le_refl _) ?_, rfl, q _ (I.hok.fresh (Nat.le_refl _))⟩
  exact ⟨Nat.le_trans (cutV_length xs lo hi) hz, _, 0, (r.drop (HT.sIx xs.length 0 lo)).take (HT.sIx xs.length xs.length hi - HT.sIx xs.length 0 lo), Heap.get?_push_size _ rfl⟩
noncomputable def flatV : V → Bool
  | .non => true
  | .bl _ => true
  | .int _ => true
  | .str _ => true
  | _ => false
noncomputable def eqV : V → V → Bool
  | .non, .non => true
  | .bl a, .bl b => a == b
  | .bl a, .int b => (if a then 1 else 0) == b
  | .int a, .bl b => a == (if b then 1 else 0)
  | .int a, .int b => a == b
  | .str a, .str b => a == b
  | _, _ => false
theorem eqAt_V {A : Around} {s : Shared} {y x : V} {u v : Value} (ry : RelV y u) (rx : RelV x v) (fy : flatV y = true) (fx : flatV x = true) : SeqAt.EqAt A s u v (eqV y x) := by
  cases y with
  | non =>
    cases ry
    cases x with
    | non => cases rx; exact SeqAt.EqAt.same _
    | bl b => cases rx; exact SeqAt.EqAt.none_bool b
    | int b => obtain ⟨t, rfl⟩ := rx; exact SeqAt.EqAt.none_int b t
    | str b => obtain ⟨t, rfl⟩ := rx; exact SeqAt.EqAt.none_str b t
    | _ => exact absurd (show false = true from fx) Bool.false_ne_true
  | bl a =>
    cases ry
    cases x with
    | non => cases rx; exact SeqAt.EqAt.bool_none a
    | bl b => cases rx; exact SeqAt.EqAt.bool_bool a b
    | int b => obtain ⟨t, rfl⟩ := rx; exact SeqAt.EqAt.bool_int a b t
    | str b => obtain ⟨t, rfl⟩ := rx; exact SeqAt.EqAt.bool_str a b t
    | _ => exact absurd (show false = true from fx) Bool.false_ne_true
  | int a =>
    obtain ⟨t', rfl⟩ := ry
    cases x with
    | non => cases rx; exact SeqAt.EqAt.int_none a t'
    | bl b => cases rx; exact SeqAt.EqAt.int_bool a t' b
    | int b => obtain ⟨t, rfl⟩ := rx; exact SeqAt.EqAt.int_int a t' b t
    | str b => obtain ⟨t, rfl⟩ := rx; exact SeqAt.EqAt.int_str a t' b t
    | _ => exact absurd (show false = true from fx) Bool.false_ne_true
  | str a =>
    obtain ⟨t', rfl⟩ := ry
    cases x with
    | non => cases rx; exact SeqAt.EqAt.str_none a t'
    | bl b => cases rx; exact SeqAt.EqAt.str_bool a t' b
    | int b => obtain ⟨t, rfl⟩ := rx; exact SeqAt.EqAt.str_int a t' b t
    | str b => obtain ⟨t, rfl⟩ := rx; exact SeqAt.EqAt.str_str a t' b t
    | _ => exact absurd (show false = true from fx) Bool.false_ne_true
  | _ => exact absurd (show false = true from fy) Bool.false_ne_true
noncomputable def eqU (x : V) (u : Value) : Bool := match u with
  | .none => eqV .non x
  | .bool b => eqV (.bl b) x
  | .int i _ => eqV (.int i) x
  | .str z _ => eqV (.str z) x
  | _ => false
theorem eqU_of {x y : V} {u : Value} (r : RelV y u) (f : flatV y = true) : eqU x u = eqV y x := by
  cases y with
  | non => cases r; rfl
  | bl b => cases r; rfl
  | int i => obtain ⟨t, rfl⟩ := r; rfl
  | str z => obtain ⟨t, rfl⟩ := r; rfl
  | _ => exact absurd (show false = true from f) Bool.false_ne_true
theorem any_eqU {x : V} : ∀ {xs : List V} {us : List Value}, Vals xs us → xs.all flatV = true → us.any (eqU x) = xs.any fun y => eqV y x
  | _, _, .nil, _ => rfl
  | y :: xs, u :: us, .cons r t, f => by
    rw [List.all_cons, Bool.and_eq_true] at f
    rw [List.any_cons, List.any_cons, eqU_of r f.1, any_eqU t f.2]
theorem mem_eqAt {A : Around} {s : Shared} {x : V} {v : Value} (rx : RelV x v) (fx : flatV x = true) : ∀ {xs : List V} {us : List Value}, Vals xs us → xs.all flatV = true → ∀ u ∈ us, SeqAt.EqAt A s u v (eqU x u)
  | _, _, .nil, _ => fun u hu => by cases hu
  | y :: xs, u :: us, .cons r t, f => fun u' hu => by
    rw [List.all_cons, Bool.and_eq_true] at f
    rcases List.mem_cons.mp hu with rfl | hu
    · rw [eqU_of r f.1]; exact eqAt_V r rx f.1 fx
    · exact mem_eqAt rx fx t f.2 u' hu
noncomputable def inV (x : V) (xs : List V) : Bool := xs.any fun y => eqV y x
inductive rInS (K : PySem.W.Frag) (neg : Bool) (x y : V) (H : Hp) (Q : VK) : Prop
  | mk (p : Addr) (xs : List V) (h0 : y = .ref p) (h1 : (SqL K H p xs ∨ SqT K H p xs)) (h2 : flatV x = true) (h3 : xs.all flatV = true) (h4 : Q (.bl (if neg then !inV x xs else inV x xs)) H) : rInS K neg x y H Q
noncomputable def rIn (K : PySem.W.Frag) (neg : Bool) : R2 := fun x y H Q => rInS K neg x y H Q
theorem op_in_seq : OpR X (compareOp .In) (rIn X.K false) := by
  intro pins s σ H x y v u Q I rx ry h
  obtain ⟨p, xs, rfl, hq, fx, fs, q⟩ := h
  cases ry
  rcases hq with hq | hq
  · obtain ⟨its, r, pl, hz⟩ := I.list hq
    refine SeqAt.in_listAt (eqU x) pl.isList (fun w hw => mem_eqAt rx fx r fs w (by simpa using hw)) ⟨.bl _, H, I, rfl, ?_⟩
    rw [show its.toArray.any (eqU x) = its.any (eqU x) by simp, any_eqU r fs]
    exact q
  · obtain ⟨its, r, pl, hz⟩ := I.tuple hq
    refine SeqAt.in_tupleAt (eqU x) pl (fun w hw => mem_eqAt rx fx r fs w (by simpa using hw)) ⟨.bl _, H, I, rfl, ?_⟩
    rw [show its.toArray.any (eqU x) = its.any (eqU x) by simp, any_eqU r fs]
    exact q
theorem op_notIn_seq : OpR X (compareOp .NotIn) (rIn X.K true) := by
  intro pins s σ H x y v u Q I rx ry h
  obtain ⟨p, xs, rfl, hq, fx, fs, q⟩ := h
  cases ry
  rcases hq with hq | hq
  · obtain ⟨its, r, pl, hz⟩ := I.list hq
    refine SeqAt.notIn_listAt (eqU x) pl.isList (fun w hw => mem_eqAt rx fx r fs w (by simpa using hw)) ⟨.bl _, H, I, rfl, ?_⟩
    rw [show its.toArray.any (eqU x) = its.any (eqU x) by simp, any_eqU r fs]
    exact q
  · obtain ⟨its, r, pl, hz⟩ := I.tuple hq
    refine SeqAt.notIn_tupleAt (eqU x) pl (fun w hw => mem_eqAt rx fx r fs w (by simpa using hw)) ⟨.bl _, H, I, rfl, ?_⟩
    rw [show its.toArray.any (eqU x) = its.any (eqU x) by simp, any_eqU r fs]
    exact q
theorem call_len_seq : CallR X (.builtin "len") (fun xs H Q => ∃ p ys, xs = [.ref p] ∧ (SqL X.K H p ys ∨ SqT X.K H p ys) ∧ Q (.int ys.length) H) := by
  intro pins s σ H xs us Q I r h
  obtain ⟨p, ys, rfl, hq, q⟩ := h
  obtain ⟨u, rfl, rx⟩ := vals1 r
  cases rx
  have hn := line63
  rcases hq with hq | hq
  · obtain ⟨its, r', pl, hz⟩ := I.list hq
    have hlen := r'.length
    exact Calls.call_len_list pl.isList (by simp only [List.size_toArray] <;> lia) ⟨.int ys.length, H, I.tok _, ⟨s.toks + 1, by rw [List.size_toArray, hlen]⟩, q⟩
  · obtain ⟨its, r', pl, hz⟩ := I.tuple hq
    have hlen := r'.length
    exact len_tuple pl (by simp only [List.size_toArray] <;> lia) ⟨.int ys.length, H, I.tok _, ⟨s.toks + 1, by rw [List.size_toArray, hlen]⟩, q⟩
theorem call_list_of : CallR X (.type "list") (fun xs H Q => ∃ p ys, xs = [.ref p] ∧ (SqL X.K H p ys ∨ SqT X.K H p ys) ∧ ∀ l, H l = none → Q (.ref l) (upd H l (.lst ys))) := by
  intro pins s σ H xs us Q I r h
  obtain ⟨p, ys, rfl, hq, q⟩ := h
  obtain ⟨u, rfl, rx⟩ := vals1 r
  cases rx
  have fin : ∀ (its : List Value), Vals ys its → ys.length ≤ sizeLine → ∀ (h' : Heap) (c' : Nat), (∀ b o', s.heap.get? b = some o' → h'.get? b = some o') →
      h'.get? s.heap.objs.size = some { cls := .type "list", dict := none, data := .seq its.toArray c', slots := #[] } → EP X pins σ Q (.ref s.heap.objs.size) { s with heap := h' } := fun its r' hz h' c' kp e =>
    ⟨.ref s.heap.objs.size, _, I.laid (t' := s.toks) kp (Nat.le_refl _) (show ObjOk X.prog X.w _ h' _ (.lst ys) from ⟨hz, its, c', r', e⟩), rfl, q _ (I.hok.fresh (Nat.le_refl _))⟩
  rcases hq with hq | hq
  · obtain ⟨its, r', pl, hz⟩ := I.list hq
    have hlen := r'.length
    obtain ⟨o, ho, hc, n, hd⟩ := pl.isList
    exact call_list_seq p (.inl rfl) ho hc hd (fun h' c' kp e => fin its r' hz h' c' kp e) (by simp only [List.size_toArray] <;> lia)
  · obtain ⟨its, r', pl, hz⟩ := I.tuple hq
    have hlen := r'.length
    obtain ⟨o, ho, hc, n, hd⟩ := pl
    exact call_list_seq p (.inr rfl) ho hc hd (fun h' c' kp e => fin its r' hz h' c' kp e) (by simp only [List.size_toArray] <;> lia)
noncomputable def tyV (K : PySem.W.Frag) (T : String) (x : V) (H : Hp) : Prop := match x with
  | .str _ => T = "str"
  | .int _ => T = "int"
  | .ref p => (T = "list" ∧ ∃ xs, SqL K H p xs) ∨ (T = "tuple" ∧ ∃ o, K.lookup p = some o ∧ o.cls = .type "tuple" ∧ o.dict = none) ∨
      (T = "dict" ∧ ((∃ kvs, H p = some (.dK kvs)) ∨ ∃ kvs, H p = some (.dT kvs))) ∨ (T = "set" ∧ ∃ S n, H p = some (.set S n))
  | _ => False
theorem tyV_is {pins : List (Addr × Obj)} {σ : St} {H : Hp} {s : Shared} {T : String} {x : V} {v : Value} (I : Inv X pins σ H s) (r : RelV x v) (ty : tyV X.K T x H) :
    s.TypeIs v T ∧ ∀ a, v = .ref a → ∃ ob, s.heap.get? a = some ob ∧ ob.dict = none := by
  cases x with
  | str z =>
    obtain ⟨t, rfl⟩ := r
    cases (show T = "str" from ty)
    exact ⟨typeIs_str s z t, fun _ e => nomatch e⟩
  | int i =>
    obtain ⟨t, rfl⟩ := r
    cases (show T = "int" from ty)
    exact ⟨typeIs_int s i t, fun _ e => nomatch e⟩
  | ref p =>
    cases r
    rcases ty with ⟨rfl, xs, hq⟩ | ⟨rfl, o, hk, hc, hd⟩ | ⟨rfl, hk⟩ | ⟨rfl, S, n, hk⟩
    · obtain ⟨its, _, pl, _⟩ := I.list hq
      refine ⟨pl.isList.typeIs, fun a e => ?_⟩
      cases e
      obtain ⟨o, n, e, c, hd, _⟩ := pl
      exact ⟨o, e, hd⟩
    · refine ⟨⟨o, I.kIn p o hk, hc⟩, fun a e => ?_⟩
      cases e
      exact ⟨o, I.kIn _ o hk, hd⟩
    · have z : ∃ o, s.heap.get? p = some o ∧ o.ExactDict := by
        rcases hk with ⟨kvs, hk⟩ | ⟨kvs, hk⟩
        · obtain ⟨_, _, _, _, o, _, _, e, ex, _⟩ := I.hok p _ hk
          exact ⟨o, e, ex⟩
        · obtain ⟨_, _, _, _, o, _, _, e, ex, _⟩ := I.hok p _ hk
          exact ⟨o, e, ex⟩
      obtain ⟨o, e, ex⟩ := z
      refine ⟨⟨o, e, ex.1⟩, fun a e2 => ?_⟩
      cases e2
      exact ⟨o, e, ex.2.1⟩
    · obtain ⟨o, _, _, _, e, ex, _⟩ := I.hok p _ hk
      refine ⟨⟨o, e, ex.1⟩, fun a e2 => ?_⟩
      cases e2
      exact ⟨o, e, ex.2.1⟩
  | _ => exact False.elim ty
noncomputable def tBM (K : PySem.W.Frag) (T : String) (r : V → List V → Hp → VK → Prop) (to : TE) (t : TA) : TE := fun σ H Q => to σ H fun x H1 => tyV K T x H1 ∧ t σ H1 fun xs H2 => r x xs H2 Q
variable {o e : Expr} {es : List Expr} {to : TE} {t : TA} {name : Str} {apos cpos : Pos} {T id : String} {r : V → List V → Hp → VK → Prop}
theorem pe_bm (pa : PlainAttrs T) (slot : Slot T name id) (hty : typeOf (.builtin id) = pure (.type "method_descriptor")) (hm : MtR X id r) (ho : PE X o to) (ha : PA X (e :: es) t)
    (hbase : attributeBase o name X.env (eval o X.env) = eval o X.env := by rfl)
    (hfew : ((backTo cpos (starEach (e :: es) X.env)).all (fun x => !x.1) && (backToKw cpos (keywordEach [] X.env)).all (fun x => x.1.isSome)
      && decide ((e :: es).length + ([] : List Keyword).length + (if ([] : List Keyword).isEmpty then 0 else 1) < 30)) = true := by rfl)
    (hline : (apos.endLine == cpos.line) = true := by rfl) (hs : starEach (e :: es) X.env = (false, eval e X.env) :: starEach es X.env := by rfl) (hplain : (backTo cpos (starEach es X.env)).any (·.1) = false := by rfl) :
    PE X (.Call (.Attribute o name apos) (e :: es) [] cpos) (tBM X.K T r to t) := by
  intro pins s σ H Q I h
  refine wpAny_Call_method_late hbase hfew hline rfl (thn (ho pins s σ H _ I h) fun v s1 zq => ?_)
  obtain ⟨x, H1, I1, r1, ty, q1⟩ := zq
  obtain ⟨h1, h2⟩ := tyV_is I1 r1 ty
  refine ⟨T, id, pa, slot, hty, h1, h2, ?_⟩
  have hA := ha cpos pins s1 σ H1 _ I1 q1
  rw [hs] at hA ⊢
  refine Calls.callWith_builtin (by show (false || (backTo cpos (starEach es X.env)).any (·.1)) = false; rw [hplain] <;> rfl) (Calls.evalArgs_plain ?_)
  exact thn hA fun us s2 ⟨vs, H2, I2, r2, q2⟩ => hm pins s2 σ H2 x vs v us Q I2 r1 r2 q2
/- xs.append(e), list.index on a module's tuple .. are MtR facts of 06m -/
end
end L2
namespace L2
open PySem PySem.Spec PyProof.Rows
noncomputable def MtM (X : Cx) (id : String) (r : V → List V → Hp → VK → Prop) : Prop :=
  ∀ (pins : List (Addr × Obj)) (s : Shared) (σ : St) (H : Hp) (x : V) (xs : List V) (v : Value) (us : List Value) (Q : VK), Inv X pins σ H s → RelV x v → Vals xs us → r x xs H Q →
    wpAny (model X.prog X.w) X.A (call (.builtin id) (v :: us)) (EP X pins σ Q) X.xe s
theorem Vals.one : ∀ {x : V} {us : List Value}, Vals [x] us → ∃ u, us = [u] ∧ RelV x u
  | _, _, .cons r .nil => ⟨_, rfl, r⟩
theorem Vals.eraseIdx : ∀ {xs : List V} {us : List Value} (i : Nat), Vals xs us → Vals (xs.eraseIdx i) (us.eraseIdx i)
  | _, _, _, .nil => .nil
  | _, _, 0, .cons _ t => t
  | _, _, i + 1, .cons r t => .cons r (Vals.eraseIdx i t)
theorem len_erase {α : Type} : ∀ (l : List α) (i : Nat), (l.eraseIdx i).length ≤ l.length
  | [], _ => Nat.le_refl _
  | _ :: _, 0 => Nat.le_succ _
  | _ :: r, i + 1 => Nat.succ_le_succ (len_erase r i)
section
variable {X : Cx} {pins : List (Addr × Obj)} {σ : St} {H : Hp} {s : Shared} {l b : Addr} {xs ys zs : List V}
theorem Inv.lset {its its' : List Value} {n : Nat} {f : Array Value → Array Value} {t' : Nat} (I : Inv X pins σ H s) (hH : H l = some (.lst xs))
    (e : s.heap.get? l = some { cls := .type "list", data := .seq its.toArray n }) (hf : f its.toArray = its'.toArray) (hv : Vals ys its') (hz : ys.length ≤ sizeLine) :
    Inv X pins σ (upd H l (.lst ys)) { s with heap := s.heap.update l (Obj.mapSeq f), toks := t' } := by
  have q := PySem.IsL.update e f
  rw [hf] at q
  refine I.write (x := l) (e := l) (by rw [hH]; exact trivial) (.inl rfl) (fun b' u hb hu => (Heap.get?_update_other s.heap (Obj.mapSeq f) (Ne.symm hb)).trans hu) ⟨_, q⟩ ?_
  exact ⟨hz, its', _, hv, q⟩
theorem Inv.lnew {its : List Value} {t' : Nat} (I : Inv X pins σ H s) (hv : Vals ys its) (hz : ys.length ≤ sizeLine) :
    Inv X pins σ (upd H s.heap.objs.size (.lst ys)) { s with heap := s.heap.push { cls := .type "list", data := .seq its.toArray }, toks := t' } :=
  I.laid (fun _ _ q => Heap.get?_push_of_some _ q) (Nat.le_refl _) ⟨hz, its, 0, hv, Heap.get?_push_size _ rfl⟩
theorem Inv.fresh (I : Inv X pins σ H s) : H s.heap.objs.size = none := I.hok.fresh (Nat.le_refl _)
theorem Inv.lstM (I : Inv X pins σ H s) (hH : H l = some (.lst xs)) : xs.length ≤ sizeLine ∧ ∃ (its : List Value) (n : Nat), Vals xs its ∧ xs.length = its.length ∧ s.heap.get? l = some { cls := .type "list", data := .seq its.toArray n } := by
  obtain ⟨z, its, n, r, e⟩ := I.hok l _ hH
  exact ⟨z, its, n, r, r.length, e⟩
theorem notLongL {n : Nat} (h : n ≤ sizeLine) : Builtin.List.listTooLong n = false := by
  unfold Builtin.List.listTooLong
  exact decide_eq_false (by lia)
end
section
variable {X : Cx}
inductive rAppendS (x : V) (vs : List V) (H : Hp) (Q : VK) : Prop
  | mk (l : Addr) (xs : List V) (y : V) (h0 : x = .ref l) (h1 : vs = [y]) (h2 : H l = some (.lst xs)) (h3 : xs.length < sizeLine) (h4 : Q .non (upd H l (.lst (xs ++ [y])))) : rAppendS x vs H Q
noncomputable def rAppend : V → List V → Hp → VK → Prop := fun x vs H Q => rAppendS x vs H Q
theorem mt_append : MtM X "list.append" rAppend := by
  intro pins s σ H x vs v us Q I rx rv h
  obtain ⟨l, xs, y, rfl, rfl, hH, hz, q⟩ := h
  cases rx
  obtain ⟨u, rfl, ru⟩ := rv.one
  obtain ⟨z, its, n, r, hl, e⟩ := I.lstM hH
  refine call_meets F.slot_list_append ⟨_, e, rfl⟩ F.entry_list_append (F.args_list_append_2 _ _) (PySem.list_append l its.toArray n u (by rw [List.size_toArray]; lia)) ⟨e, ?_⟩
  refine ⟨.non, _, I.lset (its' := its ++ [u]) hH e (by simp) (r.append (.cons ru .nil)) ?_, rfl, q⟩
  rw [List.length_append, List.length_singleton]
  lia
inductive rExtendS (x : V) (vs : List V) (H : Hp) (Q : VK) : Prop
  | mk (l b : Addr) (xs zs : List V) (h0 : x = .ref l) (h1 : vs = [.ref b]) (h2 : H l = some (.lst xs)) (h3 : H b = some (.lst zs)) (h4 : xs.length + zs.length ≤ sizeLine) (h5 : Q .non (upd H l (.lst (xs ++ zs)))) : rExtendS x vs H Q
noncomputable def rExtend : V → List V → Hp → VK → Prop := fun x vs H Q => rExtendS x vs H Q
theorem mt_extend : MtM X "list.extend" rExtend := by
  intro pins s σ H x vs v us Q I rx rv h
  obtain ⟨l, b, xs, zs, rfl, rfl, hH, hB, hz, q⟩ := h
  cases rx
  obtain ⟨u, rfl, ru⟩ := rv.one
  cases ru
  obtain ⟨z, its, n, r, hl, e⟩ := I.lstM hH
  obtain ⟨z2, its2, n2, r2, hl2, e2⟩ := I.lstM hB
  have hsz : its.toArray.size + its2.toArray.size ≤ sizeLine := by rw [List.size_toArray, List.size_toArray]; lia
  have hlong : ¬ (!its.toArray.isEmpty && Builtin.List.listTooLong (its.toArray.size + its2.toArray.size)) = true := by
    rw [notLongL hsz, Bool.and_false]
    exact Bool.false_ne_true
  refine call_meets F.slot_list_extend ⟨_, e, rfl⟩ F.entry_list_extend (F.args_list_extend_2 _ _)
    (AutoSeq1.list_extend_list_list_0 l its.toArray n b its2.toArray n2 hlong (by rw [List.size_toArray]; lia) (by lia)) ⟨e, e2, ?_⟩
  refine ⟨.non, _, I.lset (its' := its ++ its2) hH e (by simp) (r.append r2) ?_, rfl, q⟩
  rw [List.length_append]
  lia
inductive rPopAtS (x : V) (vs : List V) (H : Hp) (Q : VK) : Prop
  | mk (l : Addr) (xs : List V) (i : Int) (k : Nat) (y : V) (h0 : x = .ref l) (h1 : vs = [.int i]) (h2 : H l = some (.lst xs)) (h3 : -(2 ^ 63) ≤ i) (h4 : i < 2 ^ 63) (h5 : seqIndex? i xs.length = some k) (h6 : xs[k]? = some y) (h7 : Q y (upd H l (.lst (xs.eraseIdx k)))) : rPopAtS x vs H Q
noncomputable def rPopAt : V → List V → Hp → VK → Prop := fun x vs H Q => rPopAtS x vs H Q
theorem mt_popAt : MtM X "list.pop" rPopAt := by
  intro pins s σ H x vs v us Q I rx rv h
  obtain ⟨l, xs, i, k, y, rfl, rfl, hH, h1, h2, hk, hy, q⟩ := h
  cases rx
  obtain ⟨u, rfl, ru⟩ := rv.one
  obtain ⟨t, rfl⟩ := ru
  obtain ⟨z, its, n, r, hl, e⟩ := I.lstM hH
  obtain ⟨w, hw, rw'⟩ := r.get hy
  refine call_meets F.slot_list_pop ⟨_, e, rfl⟩ F.entry_list_pop (F.args_list_pop_2 _ _)
    (MeetsSeq.list_pop_at l its.toArray n i t k w (fitsIndex_both h1 h2) (by rw [List.size_toArray, ← hl]; exact hk) (by rw [← Array.getElem?_toList]; exact hw) (by rw [List.size_toArray]; lia)) ⟨e, ?_⟩
  refine ⟨y, _, I.lset (its' := its.eraseIdx k) hH e ?_ (r.eraseIdx k) ?_, rw', q⟩
  · show its.toArray.eraseIdxIfInBounds k = (its.eraseIdx k).toArray
    rw [List.eraseIdxIfInBounds_toArray]
  · have := len_erase xs k
    lia
inductive rCatS (x y : V) (H : Hp) (Q : VK) : Prop
  | mk (l b : Addr) (xs zs : List V) (h0 : x = .ref l) (h1 : y = .ref b) (h2 : H l = some (.lst xs)) (h3 : H b = some (.lst zs)) (h4 : xs.length + zs.length ≤ sizeLine) (h5 : ∀ p, H p = none → Q (.ref p) (upd H p (.lst (xs ++ zs)))) : rCatS x y H Q
noncomputable def rCat : R2 := fun x y H Q => rCatS x y H Q
theorem op_cat : OpR X (binaryOp .Add) rCat := by
  intro pins s σ H x y v u Q I rx ry h
  obtain ⟨l, b, xs, zs, rfl, rfl, hH, hB, hz, q⟩ := h
  cases rx
  cases ry
  obtain ⟨z, its, n, r, hl, e⟩ := I.lstM hH
  obtain ⟨z2, its2, n2, r2, hl2, e2⟩ := I.lstM hB
  refine PySem.P.add_list e e2 ?_ (by rw [List.size_toArray, List.size_toArray]; lia)
  have ea : its.toArray ++ its2.toArray = (its ++ its2).toArray := by simp
  rw [ea]
  exact ⟨.ref _, _, I.lnew (t' := s.toks) (r.append r2) (by rw [List.length_append]; lia), rfl, q _ I.fresh⟩
end
section
variable {prog : Program} {w : World} {A : Around} {E : Value → Shared → Prop} {s : Shared}
end
section
variable {X : Cx}
end
end L2
namespace Att
open PySem PySem.W PySem.Calls PyProof.Rows
theorem ints_of_wellAll {P : Params} {h : Heap} : ∀ (ns : List Int) (vs : List Value), WellAll P h vs (ns.map WData.int) → IntsAre vs ns := by
  intro ns
  induction ns with
  | nil =>
    intro vs w
    rw [List.map_nil] at w
    cases w
    exact .nil
  | cons n ns ih =>
    intro vs w
    rw [List.map_cons] at w
    cases w with
    | cons a b =>
      cases a
      exact .cons _ _ (ih _ b)
theorem script_of {l : OpenLaw} {n : Nat} (hn : l.most = some n) {P : Params} {h : Heap} {args : List WData} {vals : List Value}
    (hpre : l.row.toRowW.claim.pre args = true) (hwl : WellAll P h vals args) :
    ∃ a vs ns, vals = [Value.ref a] ∧ args = [WData.list (ns.map WData.int)] ∧ h.get? a = some { cls := .type "list", data := .seq vs.toArray } ∧ IntsAre vs ns ∧ ns.length ≤ n := by
  have hsh : WShape.hasAll [] args [.list .int] = true := (pre_splitW hpre).1
  have hc : l.pre.holds [] { args := args } = true := (pre_splitW hpre).2
  obtain ⟨d, r, rfl, h1, h2⟩ := hasAllW_cons hsh
  obtain rfl := hasAllW_nil h2
  obtain ⟨xs, rfl, h3⟩ := hasW_list h1
  obtain ⟨ns, rfl⟩ := items_int h3
  have hlen : ns.length ≤ n := by
    unfold OpenLaw.pre at hc
    have h4 : (WTm.not (.lt (.lit (.int (n : Int))) (.len (.arg 0)))).holds [] { args := [.list (ns.map .int)] } = true := by
      have h4 := (holds_andW hc).1
      rw [hn] at h4
      exact h4
    have h5 := condW_of h4 (w_not (w_lt w_lit (w_len_list (w_arg rfl))))
    rw [List.length_map] at h5
    refine Nat.le_of_not_lt fun q => ?_
    have q' : (n : Int) < ((ns.length : Nat) : Int) := by lia
    first
      | (rw [decide_eq_true q'] at h5; exact absurd h5 (by decide))
      | (simp at h5; lia)
  cases hwl with
  | cons w1 w2 =>
    cases w2
    cases w1 with
    | list ho hall => exact ⟨_, _, ns, rfl, rfl, ho, ints_of_wellAll ns _ hall, hlen⟩
theorem post_true (l : OpenLaw) (args : List WData) : l.row.toRowW.claim.post args (.bool true) args = true :=
  postW_of (r := l.row.toRowW) (X := (true == true))
    (show WShape.has [] (.bool true) .bool = true by first | rfl | decide | simp [WShape.has, WShape.arms, WShape.armsAll])
    (show (WTm.eq .res (.lit (.bool true))).value [] { args := args, res := some (.bool true), after := args } = some (.bool (true == true)) from w_eq_bool (w_res rfl) w_lit) rfl
theorem attach_call {l : OpenLaw} {n : Nat} {q : Program} {loose : List Str} {XP : (Str → Option Value) → Heap → Prop} {YP : World → Heap → Prop} {d : DefRec}
    (hn : l.most = some n) (hdf : d.params.defaults = [])
    (call : ∀ (w : World) (s₀ s₁ : Shared) (mg mb : Str → Option Value) (fa : Addr) (o : Obj) (pm cd doc : Value) (a : Addr) (vs : List Value) (ns : List Int),
      Ground q loose [] XP w s₀ mg mb s₁.heap → YP w s₁.heap →
      s₁.heap.get? fa = some o → o.data = .func (docDef d.name d.params d.body d.scope pm cd doc) → s₁.heap.CodeRec cd d.name → mg d.name = some (.ref fa) →
      s₁.heap.get? a = some { cls := .type "list", data := .seq vs.toArray } → IntsAre vs ns → ns.length ≤ n → s₁.gens = #[] →
      codeAny (model l.prog w) callerA (.call (.ref fa) ⟨[.ref a], []⟩) (fun r s' => r = .ok (.ret (.bool true)) ∧ OldK s₁.heap s'.heap ∧ s'.os = s₁.os ∧ AllBare s'.gens) s₁) :
    WalkO q loose XP YP l.row.toRowW d [] (fun f vs => PySem.call f vs) := by
  intro w s₀ s₁ mg mb G Y fa o pm cd doc dV kV ho hd hcd hD hmg hg args vals as hpre hlay hrd hwl hlo
  obtain rfl : dV = .none := Dflts.none hD hdf
  obtain rfl : kV = .none := Dflts.noKw hD
  obtain ⟨a, vs, ns, rfl, rfl, hobj, hints, hlen⟩ := script_of hn hpre hwl
  refine enter_call (codeAny_mono (call w s₀ s₁ mg mb fa o pm cd doc a vs ns G Y ho (fd_plain hd) hcd hmg hobj hints hlen hg) fun r s' hq => ?_)
  obtain ⟨rfl, h2, h3, h4⟩ := hq
  exact ⟨.inl ⟨.bool true, .bool true, [], rfl, fun _ => rfl, .bool true, post_true l _, fun _ => ⟨List.Pairwise.nil, fun _ hm => (nomatch hm)⟩⟩, h2, h3, h4⟩
section
variable {prog : Program} {w : World} {A : Around} {E : Value → Shared → Prop} {s : Shared} {K : Frag}
end
end Att
namespace L2
open PySem PySem.Spec PyProof.Rows
theorem vals_ints : ∀ {vs : List Value} {ns : List Int}, IntsAre vs ns → Vals (ns.map V.int) vs
  | _, _, .nil => .nil
  | _, _, .cons n t h => .cons ⟨t, rfl⟩ (vals_ints h)
noncomputable def Only (H : Hp) : Prop := ∀ b, H b = none ∨ ∃ o xs, H b = some (.frz o (.lst xs))
theorem law_call {P : Program} {w : World} {K : PySem.W.Frag} {mg mb : Str → Option Value} {CX : CXT} {k : Nat} {fa a : Addr} {fd : FuncData} {x : Str} {sp : Sp} {s₁ : Shared} {vs : List Value} {ns : List Int}
    (KX : K.In s₁.heap) (hns : s₁.heap.Ns mainGlobals mg) (hb : s₁.heap.Ns builtinsNs mb) (hbb : ∀ x : Str, x ≠ "__name__" → mb x = bootBuiltins x) (hlim : s₁.heap.NoLimit) (hg : s₁.gens = #[])
    (ha : s₁.heap.get? a = some { cls := .type "list", data := .seq vs.toArray }) (hi : IntsAre vs ns) (hl : ns.length ≤ sizeLine) (hr : Room k callerA)
    (F : ∀ base : Heap, K.In base → base.Ns mainGlobals mg → FnOk P w K mg base CX k fa fd [x] sp) (hbind : ∀ (s : Shared) (u : Value), BindsTo s fd ⟨[u], []⟩ [(x, u)])
    (hsp : ∀ H : Hp, Only H → SqL K H a (ns.map V.int) → sp [.ref a] H (fun v _ => v = .bl true) fun _ _ _ => False)
    (hCX : ∀ H e s', CX [] H s₁ (fun _ _ _ => False) e s' → False) :
    codeAny (model P w) callerA (.call (.ref fa) ⟨[.ref a], []⟩) (fun r s' => r = .ok (.ret (.bool true)) ∧ OldK s₁.heap s'.heap ∧ s'.os = s₁.os ∧ AllBare s'.gens) s₁ := by
  have rv := vals_ints hi
  have lenV := hi.length
  have core : ∀ H : Hp, Only H → SqL K H a (ns.map V.int) → HOk P w H s₁.heap → (∀ b, H b ≠ none → b = a) → (H a ≠ none → K.lookup a = none) →
      codeAny (model P w) callerA (.call (.ref fa) ⟨[.ref a], []⟩) (fun r s' => r = .ok (.ret (.bool true)) ∧ OldK s₁.heap s'.heap ∧ s'.os = s₁.os ∧ AllBare s'.gens) s₁ := by
    intro H hO hS hok hA hK
    have base_of : ∀ {b : Addr} {o : Obj}, s₁.heap.get? b = some o → H b = none → (hidT s₁.heap H).get? b = some o := fun e n => hidT_get e n
    have noA : ∀ {b : Addr} {o : Obj} {es : Array DictEntry} {ep : Nat}, s₁.heap.get? b = some o → o.data = .dict es ep → H b = none := fun {b o es ep} e d => by
      cases q : H b with
      | none => rfl
      | some u =>
        have e' : b = a := hA b (by rw [q]; simp)
        subst e'
        rw [ha] at e; cases e
        have d' : Data.seq vs.toArray _ = Data.dict es ep := d
        cases d'
    have nsK : ∀ {b : Addr} {m : Str → Option Value}, s₁.heap.Ns b m → (hidT s₁.heap H).Ns b m := fun {b m} ⟨o, es, ep, e, d, r⟩ => ⟨o, es, ep, base_of e (noA e d), d, r⟩
    have hKb : K.In (hidT s₁.heap H) := fun b o e => base_of (KX b o e) (by
      cases q : H b with
      | none => rfl
      | some u =>
        have e' : b = a := hA b (by rw [q]; simp)
        subst e'
        rw [hK (by rw [q]; simp)] at e; cases e)
    have hM : Mod K mg (hidT s₁.heap H) := ⟨hKb, nsK hns, ⟨mb, nsK hb, hbb⟩, let ⟨mc, h1, h2⟩ := hlim; ⟨mc, nsK h1, h2⟩⟩
    have e0 : Env0 P w K mg (hidT s₁.heap H) callerA [] s₁ H := ⟨rfl, hM, fun b o e => of_hidT e, Nat.le_of_eq (hidT_size _ _), trivial, fun b hb => absurd (show b ∈ ([] : List Addr) from hb) (by simp), hok, .of_eq hg⟩
    refine codeAny_mono ((F _ hKb (nsK hns)).run callerA [] s₁ H ⟨[.ref a], []⟩ [.ref a] [.ref a] _ _ hr e0 (hbind s₁ (.ref a)) (.cons rfl .nil) (hsp H hO hS)) fun r s' h => ?_
    cases r with
    | error e => exact (hCX H e s' h).elim
    | ok fl =>
      cases fl with
      | next => exact False.elim h
      | brk => exact False.elim h
      | cont => exact False.elim h
      | ret u =>
        obtain ⟨v, H', os, bare, un, hok', r', q⟩ := h
        have q' : v = .bl true := q
        subst q'
        obtain rfl : u = Value.bool true := r'
        refine ⟨rfl, OldK.of_keep fun b o e => ?_, os, bare⟩
        cases q : H b with
        | none => exact un.keep b o e q (by intro z; exact absurd (show b ∈ ([] : List Addr) from z) (by simp)) (by simp)
        | some u =>
          rcases hO b with z | ⟨ob, xs, z⟩
          · rw [q] at z; cases z
          · have z2 := un.frzs b ob _ z
            obtain ⟨e1, _⟩ := hok b _ z
            obtain ⟨e2, _⟩ := hok' b _ z2
            rw [e] at e1; cases e1
            exact e2
  cases hk : K.lookup a with
  | some o =>
    have e := KX a o hk
    rw [ha] at e
    cases e
    refine core (fun _ => none) (fun _ => .inl rfl) (.inr ⟨_, vs.toArray, _, hk, rfl, rfl, rfl, by rw [List.size_toArray, lenV]; exact hl, by simpa using rv⟩) (fun b u z => by have z' : (none : Option HO) = some u := z; cases z') (fun b z => absurd rfl z) fun z => absurd rfl z
  | none =>
    refine core (fun b => if b = a then some (.frz { cls := .type "list", data := .seq vs.toArray } (.lst (ns.map V.int))) else none) (fun b => ?_) (.inl (.inr ⟨{ cls := .type "list", data := .seq vs.toArray }, if_pos rfl⟩)) (fun b u z => ?_) (fun b z => ?_) fun _ => hk
    · by_cases hb : b = a
      · exact .inr ⟨_, _, if_pos hb⟩
      · exact .inl (if_neg hb)
    · by_cases hb : b = a
      · have z' := (if_pos hb).symm.trans z
        cases z'
        subst hb
        exact ⟨ha, by rw [List.length_map]; exact hl, vs, _, rv, ha⟩
      · have z' := (if_neg hb).symm.trans z
        cases z'
    · by_cases hb : b = a
      · exact hb
      · exact absurd (if_neg hb) z
end L2
namespace L2
open PySem PySem.Spec PyProof.Rows
theorem walk_of {l : PySem.W.OpenLaw} {n k : Nat} {q : Program} {loose : List Str} {XP : (Str → Option Value) → Heap → Prop} {YP : World → Heap → Prop} {d : DefRec} {K : Params → PySem.W.Frag} {CX : World → CXT} {sp : World → Sp} {x : Str}
    (hn : l.most = some n) (hn2 : n ≤ sizeLine) (hdf : d.params.defaults = []) (hr : Room k callerA)
    (hY : ∀ (w : World) (h : Heap), YP w h → (K w.params).In h)
    (F : ∀ (w : World) (mg : Str → Option Value) (fa : Addr) (h : Heap), (K w.params).In h → h.Ns mainGlobals mg → mg d.name = some (.ref fa) →
      ∃ fd : FuncData, (∀ (s : Shared) (u : Value), BindsTo s fd ⟨[u], []⟩ [(x, u)]) ∧
        ∀ base : Heap, (K w.params).In base → base.Ns mainGlobals mg → FnOk l.prog w (K w.params) mg base (CX w) k fa fd [x] (sp w))
    (hsp : ∀ (w : World) (H : Hp) (a : Addr) (ns : List Int), ns.length ≤ n → Only H → SqL (K w.params) H a (ns.map V.int) → sp w [.ref a] H (fun v _ => v = .bl true) fun _ _ _ => False)
    (hCX : ∀ (w : World) (H : Hp) (s : Shared) (e : Value) (s' : Shared), CX w [] H s (fun _ _ _ => False) e s' → False) :
    PySem.W.WalkO q loose XP YP l.row.toRowW d [] (fun f vs => PySem.call f vs) := by
  refine Att.attach_call hn hdf fun w s₀ s₁ mg mb fa o pm cd doc a vs ns G Y ho hd hcd hmg hobj hints hlen hg => ?_
  have KX := hY w _ Y
  obtain ⟨fd, hb, hF⟩ := F w mg fa _ KX G.T.g hmg
  exact law_call KX G.T.g G.T.b G.T.builtins G.T.nolimit hg hobj hints (Nat.le_trans hlen hn2) hr hF hb (fun H hO hS => hsp w H a ns hlen hO hS) fun H e s' => hCX w H s₁ e s'
end L2
/- THE LAST THEOREM (shape; LID, My.* are yours):
   My.Adr: a structure of the addresses that your layer names (classes, functions); My.Txt K t: a structure (Prop) of the equations over K;
   My.txt_mk : {K} {implicit addresses ..} (e1 : nsIn K mainGlobals "law" = some (some (.ref f))) (e2 : K.lookup f = some ⟨oc, od, .func (fnOf "law" "law" params body scope dV kV doc pm an cdv ct), sl⟩) (e3 : codeIn K cdv "law" = true) .. : ∃ t, My.Txt K t
(the tactic k_is has no namespace: write k_is) -/
namespace L2
open PySem PySem.Spec PyProof.Rows
noncomputable def inClass (s : Stmt) (j : Nat) : Stmt := match s with
  | .ClassDef _ _ _ body _ _ _ _ _ _ _ => body.getD j (.Pass ⟨0, 0, 0, 0⟩)
  | _ => .Pass ⟨0, 0, 0, 0⟩
noncomputable def defArgs (s : Stmt) : Arguments := match s with
  | .FunctionDef _ a _ _ _ _ _ _ _ _ => a
  | _ => { posonlyargs := [], args := [], vararg := none, kwonlyargs := [], kw_defaults := [], kwarg := none, defaults := [] }
noncomputable def defBody (s : Stmt) : List Stmt := match s with
  | .FunctionDef _ _ b _ _ _ _ _ _ _ => b
  | _ => []
noncomputable def defScope (s : Stmt) : Scope := match s with
  | .FunctionDef _ _ _ _ _ _ sc _ _ _ => sc
  | _ => { kind := .function, names := [], isGenerator := false, isCoroutine := false }
abbrev CX0 : CXT := fun _ _ _ _ _ _ => False
abbrev E0 : XK := fun _ _ _ => False
theorem pass0 {X : Cx} : Passes CX0 X E0 := fun _ _ _ _ _ _ _ h => h.elim
structure Fun (K : PySem.W.Frag) (x qual : Str) (st : Stmt) (f : Addr) (fd : FuncData) : Prop where
  ex : ∃ (oc : Value) (od : Option Addr) (kV doc pm : Value) (an : Option Addr) (cdv ct : Value) (osl : Array (Option Value)),
    fd = PySem.W.fnOf x qual (defArgs st) (defBody st) (defScope st) .none kV doc pm an cdv ct ∧ K.lookup f = some ⟨oc, od, .func fd, osl⟩ ∧ PySem.W.codeIn K cdv qual = true
  kp : PySem.W.keepIn K (.ref f) = true
section
variable {P : Program} {w : World} {K : PySem.W.Frag} {mg : Str → Option Value} {base : Heap}
theorem Fun.ok {x qual : Str} {st : Stmt} {f : Addr} {fd : FuncData} {N ps : List Str} {k : Nat} {sp : Sp} (F : Fun K x qual st f fd) (S : FnScope N ps (defScope st)) (len : ∀ vs H Q E, sp vs H Q E → vs.length = ps.length)
    (hbody : ∀ (cdv : Value) (A : Around) (outer : List Env) (s : Shared) (H : Hp) (vs : List V) (Q : VK) (E : XK), Room k (A.deeper (envOfC qual (defScope st) s.heap.objs.size f cdv)) → sp vs H Q E →
      ∃ t, PSs (cxOf CX0 P w K mg base N qual (defScope st) f cdv A outer s H E).nox (defBody st) t ∧ t { nx := fun _ H' => Q .non H', rt := Q } (start N vs) H) : FnOk P w K mg base CX0 (k + 1) f fd ps sp := by
  obtain ⟨oc, od, kV, doc, pm, an, cdv, ct, osl, rfl, lk, hcd⟩ := F.ex
  refine fn_of lk hcd S len fun A outer s H vs Q E hr hsp => ?_
  obtain ⟨t, h, q⟩ := hbody cdv A outer s H vs Q E hr hsp
  exact ⟨t, h.nox, q⟩
theorem Fun.binds {x qual : Str} {st : Stmt} {f : Addr} {fd : FuncData} {ps : List Str} (F : Fun K x qual st f fd)
    (h : ∀ (kV doc pm : Value) (an : Option Addr) (cdv ct : Value) (us : List Value), us.length = ps.length → bindArgs (PySem.W.fnOf x qual (defArgs st) (defBody st) (defScope st) .none kV doc pm an cdv ct) ⟨us, []⟩ = pure (ps.zip us)) : Binds K fd ps [] := by
  obtain ⟨oc, od, kV, doc, pm, an, cdv, ct, osl, rfl, lk, hcd⟩ := F.ex
  exact .all (h kV doc pm an cdv ct)
theorem fun_mk {x qual : Str} {st : Stmt} {f : Addr} {oc : Value} {od an : Option Addr} {osl : Array (Option Value)} {kV doc pm cdv ct : Value} (l : K.lookup f = some ⟨oc, od, .func (PySem.W.fnOf x qual (defArgs st) (defBody st) (defScope st) .none kV doc pm an cdv ct), osl⟩)
    (c : PySem.W.codeIn K cdv qual = true) (k : PySem.W.keepIn K (.ref f) = true) : Fun K x qual st f (PySem.W.fnOf x qual (defArgs st) (defBody st) (defScope st) .none kV doc pm an cdv ct) := ⟨⟨oc, od, kV, doc, pm, an, cdv, ct, osl, rfl, l, c⟩, k⟩
end
theorem hu_of {A : Around} {k : Nat} (hr : Room k A) : A.units + 1 < cLine := Nat.lt_of_le_of_lt (Nat.add_le_add_left (by decide : 1 ≤ 64) _) hr.units
theorem small1000 {n : Nat} (h : n ≤ 1000) : n < sizeLine := Nat.lt_of_le_of_lt h (by decide)
section
variable {X : Cx}
theorem pv (i : Nat) {x : Str} {pos : Pos} (hN : X.N[i]? = some x := by rfl) (hv : Vis X.env.scope x := by first | exact Or.inl rfl | exact Or.inr (Or.inl rfl) | exact Or.inr (Or.inr rfl)) (hd : (x == ("__debug__" : Str)) = false := by decide)
    (hcd : (x == ("__classdict__" : Str)) = false := by decide) : PE X (.Name x pos) (tVar i) := pe_var hN hv hd hcd
end
noncomputable def Same (H H' : Hp) : Prop := ∀ b o, H b = some o → H' b = some o
theorem Same.refl (H : Hp) : Same H H := fun _ _ h => h
theorem Same.trans {H H1 H2 : Hp} (a : Same H H1) (b : Same H1 H2) : Same H H2 := fun c o h => b c o (a c o h)
theorem Same.free {H H' : Hp} (e : Same H H') {l : Addr} (h : H' l = Option.none) : H l = Option.none := by
  cases q : H l with
  | none => rfl
  | some o =>
    rw [e l o q] at h
    cases h
theorem Same.seq {K : PySem.W.Frag} {H H' : Hp} {a : Addr} {xs : List V} (e : Same H H') (h : SqL K H a xs) : SqL K H' a xs := by
  rcases h with (h | ⟨o, h⟩) | h
  · exact .inl (.inl (e _ _ h))
  · exact .inl (.inr ⟨o, e _ _ h⟩)
  · exact .inr h
end L2
namespace L2
inductive And3 (P0 P1 P2 : Prop) : Prop
  | mk (h0 : P0) (h1 : P1) (h2 : P2) : And3 P0 P1 P2
inductive And4 (P0 P1 P2 P3 : Prop) : Prop
  | mk (h0 : P0) (h1 : P1) (h2 : P2) (h3 : P3) : And4 P0 P1 P2 P3
inductive And6 (P0 P1 P2 P3 P4 P5 : Prop) : Prop
  | mk (h0 : P0) (h1 : P1) (h2 : P2) (h3 : P3) (h4 : P4) (h5 : P5) : And6 P0 P1 P2 P3 P4 P5
inductive And7 (P0 P1 P2 P3 P4 P5 P6 : Prop) : Prop
  | mk (h0 : P0) (h1 : P1) (h2 : P2) (h3 : P3) (h4 : P4) (h5 : P5) (h6 : P6) : And7 P0 P1 P2 P3 P4 P5 P6
inductive And11 (P0 P1 P2 P3 P4 P5 P6 P7 P8 P9 P10 : Prop) : Prop
  | mk (h0 : P0) (h1 : P1) (h2 : P2) (h3 : P3) (h4 : P4) (h5 : P5) (h6 : P6) (h7 : P7) (h8 : P8) (h9 : P9) (h10 : P10) : And11 P0 P1 P2 P3 P4 P5 P6 P7 P8 P9 P10
inductive Ex2 {α0 α1 : Type} (P : α0 → α1 → Prop) : Prop
  | mk (a0 : α0) (a1 : α1) (h : P a0 a1) : Ex2 P
inductive Ex3 {α0 α1 α2 : Type} (P : α0 → α1 → α2 → Prop) : Prop
  | mk (a0 : α0) (a1 : α1) (a2 : α2) (h : P a0 a1 a2) : Ex3 P
inductive Ex5 {α0 α1 α2 α3 α4 : Type} (P : α0 → α1 → α2 → α3 → α4 → Prop) : Prop
  | mk (a0 : α0) (a1 : α1) (a2 : α2) (a3 : α3) (a4 : α4) (h : P a0 a1 a2 a3 a4) : Ex5 P
inductive Ex6 {α0 α1 α2 α3 α4 α5 : Type} (P : α0 → α1 → α2 → α3 → α4 → α5 → Prop) : Prop
  | mk (a0 : α0) (a1 : α1) (a2 : α2) (a3 : α3) (a4 : α4) (a5 : α5) (h : P a0 a1 a2 a3 a4 a5) : Ex6 P
end L2
set_option maxHeartbeats 16000000
namespace L2
open PySem PySem.Spec PyProof.Rows
noncomputable def blk (X : Cx) (N : List Str) (s : Shared) (H : Hp) (sc : Scope) (cl : List (Str × Addr)) (C : Addr) (ex : List Addr) : Cx where
  prog := X.prog
  w := X.w
  K := X.K
  mg := X.mg
  base := X.base
  A := X.A
  N := N
  s₀ := s
  H₀ := H
  env := compEnvC sc cl C X.env
  outer := X.stack
  stack := X.stack
  ex := ex
  fn := fun _ => false
  calm := X.calm
  pn := []
  xe := fun _ _ => False
section
variable {prog : Program} {w : World} {A : Around} {R : Result → Shared → Prop} {s : Shared}
theorem compLoop_go {elt target iter : Expr} {ifs : List Expr} {scope : Scope} {pos : Pos} {it acc : Value} {env : Env} (I : Nat → Shared → Prop)
    (turn : ∀ n s, I n s → wpAny (model prog w) A (pyNext it) (fun r s₁ => match r with
      | none => R (.ok .next) s₁
      | some v => wpAny (model prog w) A (letOwnedTupleGo target it v) (fun _ s₁' => wpAny (model prog w) A (assign target env v) (fun _ s₂ =>
          wpAny (model prog w) A (forIn ifs true fun c r => if r = true then do let ok ← isTrue c env (eval c env); pure (ForInStep.yield ok) else pure (ForInStep.yield r)) (fun ok s₃ =>
            if ok = true then wpAny (model prog w) A (eval elt env) (fun x s₄ =>
              wpAny (model prog w) A (call (.builtin "list.append") [acc, x]) (fun _ s₅ => ∃ m, m < n ∧ I m s₅) (fun _ _ => False) s₄) (fun _ _ => False) s₃
            else ∃ m, m < n ∧ I m s₃) (fun _ _ => False) s₂) (fun _ _ => False) s₁') (fun _ _ => False) s₁) (fun _ _ => False) s)
    (n : Nat) (h : I n s) :
    codeAny (model prog w) A (.compLoop (.ListComp elt [⟨target, iter, ifs, 0⟩] scope pos) 0 it acc env) R s := by
  refine codeAny_loop rfl I (fun n s hI => ?_) n h
  show wpAny _ A ((compTurn (.ListComp elt [⟨target, iter, ifs, 0⟩] scope pos) 0 it acc env).onRaise (fun x => do noteFrame x env; theTreesLotGoes x)) _ _ s
  refine wpAny_noted ?_
  rw [compTurn_list]
  refine wpAny_bind (wpAny_standAt (wpAny_bind (wpAny_mono (turn n s hI) (fun r s₁ h₁ => ?_) fun _ _ h' => h'.elim)))
  cases r with
  | none => exact wpAny_pure h₁
  | some v =>
    refine wpAny_bind (wpAny_mono h₁ (fun _ s₁' h₁' => ?_) fun _ _ h' => h'.elim)
    refine wpAny_bind (wpAny_mono h₁' (fun _ s₂ h₂ => wpAny_bind (wpAny_mono h₂ (fun ok s₃ h₃ => ?_) fun _ _ h' => h'.elim)) fun _ _ h' => h'.elim)
    cases ok with
    | false => exact wpAny_pure ⟨rfl, h₃⟩
    | true =>
      exact wpAny_bind (wpAny_bind (wpAny_mono h₃ (fun x s₄ h₄ => wpAny_bind (wpAny_mono h₄ (fun _ s₅ h₅ => wpAny_pure (wpAny_pure ⟨rfl, h₅⟩)) fun _ _ h' => h'.elim)) fun _ _ h' => h'.elim))
end
noncomputable def PTs (X : Cx) (ifs : List Expr) (t : TT) : Prop :=
  ∀ (pins : List (Addr × Obj)) (s : Shared) (σ : St) (H : Hp) (Q : Bool → Hp → Prop), Inv X pins σ H s → t σ H Q →
    wpAny (model X.prog X.w) X.A (forIn ifs true fun c r => if r = true then do let ok ← isTrue c X.env (eval c X.env); pure (ForInStep.yield ok) else pure (ForInStep.yield r)) (TP X pins σ Q) X.xe s
noncomputable def tYes : TT := fun _ H Q => Q true H
theorem pts_nil {X : Cx} : PTs X [] tYes := fun _ _ _ H _ I h => wpAny_tests_nil ⟨H, I, h⟩
theorem pts_one {X : Cx} {c : Expr} {t : TT} (h : PT X c t) : PTs X [c] t := fun pins s σ H Q I q => wpAny_tests_one (h pins s σ H Q I q)
noncomputable def frees (σ : St) (ix : List Nat) : St := ix.map fun j => (σ[j]?).getD none
noncomputable def CompGo (J : It) (H1 : Hp) (σ : St) (ix : List Nat) (tc : TT) (te : TE) (Q : VK) : Prop := ∀ D, H1 D = none →
  ∃ W : Nat → Nat → Hp → Prop, (∃ m, W 0 m (upd H1 D (.lst []))) ∧ ∀ i m H, W i m H →
    (J.stop i H ∧ Q (.ref D) H) ∨ (J.go i H ∧ ∀ x H', J.yld i H x H' → tc (some x :: frees σ ix) H' fun b H2 =>
      if b = true then te (some x :: frees σ ix) H2 fun y H3 => ∃ ys, H3 D = some (.lst ys) ∧ ys.length < sizeLine ∧ ∃ m', m' < m ∧ W (i + 1) m' (upd H3 D (.lst (ys ++ [y])))
      else ∃ m', m' < m ∧ W (i + 1) m' H2)
noncomputable def tComp (ix : List Nat) (wi : TI) (tc : TT) (te : TE) : TE := fun σ H Q => wi σ H fun J H1 => CompGo J H1 σ ix tc te Q
section
variable {X : Cx}
theorem inv_blk {pins : List (Addr × Obj)} {σ : St} {H : Hp} {s : Shared} {N : List Str} {x : Str} {sc : Scope} {cl : List (Str × Addr)} {fp : List Addr} {ix : List Nat} {h1 : Heap} {m : Str → Option Value} {tk : Nat}
    (I : Inv X pins σ H s) (hkind : sc.kind = .function) (hN : N = x :: ix.map fun j => (X.N[j]?).getD "")
    (hsub : ∀ y c, cl.lookup y = some c → X.env.cells.lookup y = some c) (hhas : ∀ y, ((relabel sc X.env).names.lookup y = some .cell ∨ (relabel sc X.env).names.lookup y = some .free) → ∃ c, cl.lookup y = some c)
    (hix : ∀ j ∈ ix, ∃ y, X.N[j]? = some y ∧ X.env.kindOf y = some .cell ∧ (relabel sc X.env).names.lookup y = some .cell)
    (hfp : ∀ b ∈ fp, FpOk X pins H b) (hlt : ∀ b ∈ fp, b < s.heap.objs.size)
    (hns : h1.Ns s.heap.objs.size m) (hk : ∀ b o, s.heap.get? b = some o → h1.get? b = some o) :
    Inv (blk X N s H sc cl s.heap.objs.size fp) [] (none :: frees σ ix) H { s with heap := h1, toks := tk } := by
  have fresh : H s.heap.objs.size = none := I.hok.fresh (Nat.le_refl _)
  refine ⟨⟨I.ok.mod, hkind, I.ok.glob, I.ok.blt, Nat.le_refl _, fun y z c h1 h2 => I.ok.inj y z c (hsub y c h1) (hsub z c h2), fun y hy => hhas y hy, fun y c z _ => absurd (show false = true from z) (by decide), I.ok.hd, I.ok.frames, .inl rfl,
    fun b hb => ⟨Nat.ne_of_lt (hlt b hb), fun y c e => (hfp b hb).2.2.2.2.1 y c (hsub y c e)⟩, I.bs, Nat.le_trans I.ok.bsz I.sz, fun b o e hb => ?_, fun b hb z => ?_, I.stack, I.stkFree⟩,
    rfl, I.bare, Un.kept hk, ⟨m, hns, fun i y v e1 e2 e3 => ?_⟩, fun y c e => ?_, fresh, fun y c e => I.freeC y c (hsub y c e), fun p hp => absurd (show p ∈ ([] : List (Addr × Obj)) from hp) (by simp), I.hok.kept hk, ?_⟩
  · rcases (hfp b hb).2.2.2.1 with z | z
    · exact I.ok.noex b o e z
    · exact absurd (Nat.lt_of_lt_of_le (Heap.lt_size e) (Nat.le_trans I.ok.bsz z)) (Nat.lt_irrefl _)
  · rcases List.mem_cons.mp (I.stkSub b z) with q | q
    · exact (hfp b hb).2.1 q
    · exact (hfp b hb).2.2.1 q
  · cases i with
    | zero =>
      have e2' : (some none : Option (Option V)) = some (some v) := e2
      cases e2'
    | succ i =>
      have e2' : (frees σ ix)[i]? = some (some v) := by simpa using e2
      unfold frees at e2'
      rw [List.getElem?_map] at e2'
      cases q : ix[i]? with
      | none => rw [q] at e2'; cases e2'
      | some j =>
        rw [q] at e2'
        have e3' : (σ[j]?).getD none = some v := by simpa using e2'
        have e4 : σ[j]? = some (some v) := by
          cases q2 : σ[j]? with
          | none => rw [q2] at e3'; cases e3'
          | some w => rw [q2] at e3'; simpa using e3'
        obtain ⟨y', hy, hc, hr⟩ := hix j (List.mem_of_getElem? q)
        have ey : y' = y := by
          have e1' : N[i + 1]? = some y := e1
          rw [hN, List.getElem?_cons_succ, List.getElem?_map, q] at e1'
          have := Option.some.inj e1'
          simpa [hy] using this
        subst ey
        obtain ⟨m0, hn0, hl0⟩ := I.loc
        obtain ⟨u, r, l⟩ := hl0 j y' v hy e4 (.inr (.inl hc))
        refine ⟨u, r, .inr ⟨.inl hr, ?_⟩⟩
        rcases l with ⟨k, _⟩ | ⟨_, c, ec, ic⟩
        · rw [hc] at k; cases k
        · obtain ⟨c', ec'⟩ := hhas y' (.inl hr)
          have := hsub y' c' ec'
          rw [ec] at this; cases this
          obtain ⟨o, ho, hd⟩ := ic
          exact ⟨c, ec', o, hk c o ho, hd⟩
  · obtain ⟨v, o, ho, hd⟩ := I.cell y c (hsub y c e)
    exact ⟨v, o, hk c o ho, hd⟩
  · show (none :: frees σ ix).length = N.length
    rw [hN]
    simp [frees]
theorem pe_comp {elt iter : Expr} {x : Str} {px pos : Pos} {ifs : List Expr} {sc : Scope} {cl : List (Str × Addr)} {ix : List Nat} {wi : TI} {tc : TT} {te : TE} (N : List Str)
    (hc : X.calm = true) (hi : PI X (.Name x px) iter wi) (hif : ∀ s H C ex, PTs (blk X N s H sc cl C ex) ifs tc) (he : ∀ s H C ex, PE (blk X N s H sc cl C ex) elt te)
    (hkind : sc.kind = .function) (hN : N = x :: ix.map fun j => (X.N[j]?).getD "") (hnd : N.Nodup) (hx : sc.names.lookup x = some .local)
    (hcl : closureFor sc X.env = pure cl) (hcell : ∀ y ∈ sc.names, y.2 ≠ .cell) (hnames : ∀ y ∈ sc.names, y.2 = .local → sc.names.lookup y.1 = some .local)
    (hsub : ∀ y c, cl.lookup y = some c → X.env.cells.lookup y = some c) (hhas : ∀ y, ((relabel sc X.env).names.lookup y = some .cell ∨ (relabel sc X.env).names.lookup y = some .free) → ∃ c, cl.lookup y = some c)
    (hix : ∀ j ∈ ix, ∃ y, X.N[j]? = some y ∧ X.env.kindOf y = some .cell ∧ (relabel sc X.env).names.lookup y = some .cell)
    (hs : ∀ x, foldedSetIterable iter X.env x = pure x := by intro _; rfl) :
    PE X (.ListComp elt [⟨.Name x px, iter, ifs, 0⟩] sc pos) (tComp ix wi tc te) := by
  intro pins s σ H Q I h
  rw [eval_ListComp]
  refine wpAny_comprehension_free (use := none) rfl hs hcl hkind hnames (thn (hi pins s σ H _ I h) fun v s1 h1 => thn h1 fun itv s2 h2 => ?_)
  obtain ⟨it, fp, tn, J, H2, e, I2, T, st2, f2, q2⟩ := h2
  subst e
  have fr2 : H2 s2.heap.objs.size = none := I2.hok.fresh (Nat.le_refl _)
  obtain ⟨W, ⟨m0, w0⟩, turn⟩ := q2 s2.heap.objs.size fr2
  refine wpAny_newObj_type ?_
  have I3 : Inv X pins σ (upd H2 s2.heap.objs.size (.lst [])) { s2 with heap := s2.heap.push { cls := .type "list", dict := none, data := .seq ([] : List Value).toArray } } := by
    exact I2.lnew (its := []) (ys := []) (t' := s2.toks) .nil (Nat.zero_le _)
  have lt2 : ∀ b ∈ fp, b < s2.heap.objs.size := fun b hb => by
    obtain ⟨o, ho, _⟩ := T.obj _ _ st2 b hb
    exact Heap.lt_size ho
  have f3 : ∀ b ∈ fp, FpOk X pins (upd H2 s2.heap.objs.size (.lst [])) b := fun b hb => ⟨by rw [upd_ne (Nat.ne_of_lt (lt2 b hb))]; exact (f2 b hb).1, (f2 b hb).2⟩
  generalize hs3 : ({ s2 with heap := s2.heap.push { cls := .type "list", dict := none, data := .seq ([] : List Value).toArray } } : Shared) = s3 at I3
  have hsz3 : s2.heap.objs.size ≤ s3.heap.objs.size := by rw [← hs3]; show _ ≤ (s2.heap.push _).objs.size; rw [Heap.size_push]; exact Nat.le_succ _
  have tn3 : tn 0 s3.heap := T.keep _ _ _ st2 fun b _ o e => by rw [← hs3]; exact Heap.get?_push_of_some _ e
  have lt3 : ∀ b ∈ fp, b < s3.heap.objs.size := fun b hb => Nat.lt_of_lt_of_le (lt2 b hb) hsz3
  refine wpAny_newFunctionEnv hcell (by intro y hy; simp at hy) (fun h4 hns4 hsb4 => ?_) hkind
  have old : ∀ b o, s3.heap.get? b = some o → h4.get? b = some o := fun b o e => hsb4.extBut b o (Nat.ne_of_lt (Heap.lt_size e)) (Heap.get?_push_of_some _ e)
  have I4 := inv_blk (m := _) (tk := s3.toks + ([] : List (Str × Value)).length) (N := N) I3 hkind hN hsub hhas hix f3 lt3 hns4 old
  have tn4 : tn 0 h4 := T.keep _ _ _ tn3 fun b _ o e => old b o e
  have fpB : ∀ {H' : Hp}, (∀ b ∈ fp, H' b = none) → ∀ b ∈ fp, FpOk (blk X N s3 (upd H2 s2.heap.objs.size (.lst [])) sc cl s3.heap.objs.size fp) [] H' b := fun {H'} hn b hb =>
    ⟨hn b hb, Nat.ne_of_lt (lt3 b hb), I4.ok.exfs b hb, .inl hb, fun y c e => (I4.ok.exf b hb).2 y c e, fun p hp => absurd (show p ∈ ([] : List (Addr × Obj)) from hp) (by simp)⟩
  have loop : codeAny (model X.prog X.w) X.A (.compLoop (.ListComp elt [⟨.Name x px, iter, ifs, 0⟩] sc pos) 0 (.ref it) (.ref s2.heap.objs.size) (compEnvC sc cl s3.heap.objs.size X.env))
      (compPost (model X.prog X.w) X.A X.xe none (EP X pins σ Q) (.ref s2.heap.objs.size) s3.heap.objs.size) { s3 with heap := h4, toks := s3.toks + ([] : List (Str × Value)).length } := by
    refine compLoop_go (fun n s' => ∃ i v0 H', Inv (blk X N s3 (upd H2 s2.heap.objs.size (.lst [])) sc cl s3.heap.objs.size fp) [] (v0 :: frees σ ix) H' s' ∧ tn i s'.heap ∧ (∀ b ∈ fp, H' b = none) ∧ W i n H') ?_ m0
      ⟨0, none, _, I4, tn4, fun b hb => (f3 b hb).1, w0⟩
    rintro n s5 ⟨i, v0, H5, I5, st5, fr5, w5⟩
    rcases turn i n H5 w5 with ⟨stop, qn⟩ | ⟨go, step⟩
    · refine thn (T.done (blk X N s3 (upd H2 s2.heap.objs.size (.lst [])) sc cl s3.heap.objs.size fp) rfl rfl rfl hc i [] s5 _ H5 _ I5 (fpB fr5) st5 stop) fun r s6 zq => ?_
      obtain ⟨hr, I6⟩ := zq
      subst hr
      obtain ⟨mm, hm, _⟩ := I6.loc
      refine ⟨mm, hm, fun h7 sb7 => ?_⟩
      have I7 : Inv X pins σ H5 { s6 with heap := h7 } := by
        have hC : H5 s3.heap.objs.size = none := I6.free
        have hc3 : s3.heap.get? s3.heap.objs.size = none := Heap.get?_none_of_le (Nat.le_refl _)
        have up : ∀ b o, b ≠ s3.heap.objs.size → s6.heap.get? b = some o → h7.get? b = some o := fun b o hb e => sb7.extBut b o hb e
        have neC : ∀ b o, s3.heap.get? b = some o → b ≠ s3.heap.objs.size := fun b o e => Nat.ne_of_lt (Heap.lt_size e)
        have u := I6.base
        refine I3.call' (s' := { s6 with heap := h7 }) (ch := fp) I6.os ⟨fun b o e n hb hx => ?_, fun b o e n hb hx => ?_, fun b o e n hx => u.free b o e n hx, fun b o e hx => ?_, u.tups, u.frzs, u.tbls⟩ (fun b o e => ?_) I6.bare fun b hb => ⟨(f3 b hb).2.2.2.1, (f3 b hb).2.1, (f3 b hb).2.2.2.2.1, (f3 b hb).2.2.2.2.2⟩
        · exact up b o (neC b o e) (u.keep b o e n hb hx)
        · obtain ⟨sl, e1⟩ := u.slot b o e n hb hx
          exact ⟨sl, up b _ (neC b o e) e1⟩
        · obtain ⟨o', e1⟩ := u.there b o e hx
          exact ⟨o', up b _ (neC b o e) e1⟩
        · refine (I6.hok b o e).stay (fun c v hc' q => up c v ?_ q) (fun _ q => q) fun _ _ q => q
          rintro rfl
          rcases hc' with z | z
          · rw [← z, hC] at e; cases e
          · rw [hC] at z; cases z
      exact ⟨.ref s2.heap.objs.size, H5, I7, rfl, qn⟩
    · refine thn (T.item (blk X N s3 (upd H2 s2.heap.objs.size (.lst [])) sc cl s3.heap.objs.size fp) rfl rfl rfl hc i [] s5 _ H5 _ I5 (fpB fr5) st5 go) fun r s6 zq => ?_
      obtain ⟨u, hr, h6⟩ := zq
      subst hr
      refine thn h6 fun _ s7 zq => ?_
      obtain ⟨y, H7, I7, r7, y7, st7, fr7⟩ := zq
      have I7' := I7.pinned (fpB fr7) (T.obj _ _ st7)
      refine wpAny_assign_Name (store_ok (i := 0) I7' hnd (by show N[0]? = some x; rw [hN]; rfl) (.inl (lookup_relabel_local hx)) r7 (fun s8 I8 => ?_) (.inr (lookup_relabel_local hx)))
      have I8' : Inv (blk X N s3 (upd H2 s2.heap.objs.size (.lst [])) sc cl s3.heap.objs.size fp) ([] ++ pinsAt fp s7.heap) (some y :: frees σ ix) H7 s8 := I8
      refine thn (hif _ _ _ _ _ s8 _ H7 _ I8' (step y H7 y7)) fun ok s9 zq => ?_
      obtain ⟨H9, I9, q9⟩ := zq
      have again : ∀ {H' : Hp} {s' : Shared} {m' : Nat}, Inv (blk X N s3 (upd H2 s2.heap.objs.size (.lst [])) sc cl s3.heap.objs.size fp) ([] ++ pinsAt fp s7.heap) (some y :: frees σ ix) H' s' → m' < n → W (i + 1) m' H' →
          ∃ m, m < n ∧ ∃ i v0 H', Inv (blk X N s3 (upd H2 s2.heap.objs.size (.lst [])) sc cl s3.heap.objs.size fp) [] (v0 :: frees σ ix) H' s' ∧ tn i s'.heap ∧ (∀ b ∈ fp, H' b = none) ∧ W i m H' := fun {H' s' m'} Ia hm wa => by
        refine ⟨m', hm, i + 1, some y, H', Ia.unpinned, T.keep _ _ _ st7 fun b hb o e => (Ia.pin (b, o) (List.mem_append_right _ (List.mem_append_right _ (mem_pinsAt hb e)))).1, fun b hb => ?_, wa⟩
        obtain ⟨o, e, d⟩ := T.obj _ _ st7 b hb
        exact (Ia.pin (b, o) (List.mem_append_right _ (List.mem_append_right _ (mem_pinsAt hb e)))).2.1
      cases ok with
      | false =>
        rw [if_neg Bool.false_ne_true] at q9 ⊢
        obtain ⟨m', hm, wa⟩ := q9
        exact again I9 hm wa
      | true =>
        rw [if_pos rfl] at q9 ⊢
        refine thn (he _ _ _ _ _ s9 _ H9 _ I9 q9) fun v10 s10 zq => ?_
        obtain ⟨z, H10, I10, r10, ys, hD, hl, m', hm, wa⟩ := zq
        exact thn (mt_append _ s10 _ H10 (.ref s2.heap.objs.size) [z] (.ref s2.heap.objs.size) [v10] (fun _ H' => H' = upd H10 s2.heap.objs.size (.lst (ys ++ [z]))) I10 rfl (.cons r10 .nil) ⟨_, ys, z, rfl, rfl, hD, hl, rfl⟩)
          fun _ s11 ⟨_, H11, I11, _, e11⟩ => again I11 hm (by rw [e11]; exact wa)
  subst hs3
  exact codeAny_compStart_list loop (T.self _ 0 _ _ _ tn4 loop)
end
end L2
namespace L2
open PySem PySem.Spec PyProof.Rows
noncomputable def Its (x : Str) : It := ⟨fun i _ => i < x.cps.size, fun i H v H' => H' = H ∧ ∃ c, x.cps[i]? = some c ∧ v = .str ⟨#[c]⟩, fun i _ => x.cps.size ≤ i⟩
theorem turn_str {P : Program} {w : World} {K : PySem.W.Frag} {tg : Expr} {x : Str} {t : Tok} (it : Addr) (T : String) (hT : T = "str_ascii_iterator" ∨ T = "str_iterator") : Turn P w K tg (Its x) [it] it (fun i h => h.IsStrIter it T x t i ∧ i ≤ x.cps.size) where
  mem := by simp
  obj := fun i h st b hb => by
    have e : b = it := by simpa using hb
    subst e
    obtain ⟨⟨o, e, c, d⟩, _⟩ := st
    exact ⟨o, e, fun v z => by rw [d] at z; cases z⟩
  keep := fun i h h' st k => ⟨let ⟨o, ho, r⟩ := st.1; ⟨o, k it (by simp) o ho, r⟩, st.2⟩
  item := by
    intro X hP hw hK hc i pins s σ H E I hf st hg
    subst hP hw hK
    obtain ⟨f0, f1, f2, f3, f4, f5⟩ := hf it (by simp)
    have hi : i < x.cps.size := hg
    have fin : ∀ h', h'.IsStrIter it T x t (i + 1) → (∀ b o, b ≠ it → s.heap.get? b = some o → h'.get? b = some o) → ∀ u : Tok, ∃ uv, some (Value.str ⟨#[x.cps[i]]⟩ u) = some uv ∧
        wpAny (model X.prog X.w) X.A (letOwnedTupleGo tg (.ref it) uv) (fun _ s2 => ∃ v H', Inv X pins σ H' s2 ∧ RelV v uv ∧ (Its x).yld i H v H' ∧ (s2.heap.IsStrIter it T x t (i + 1) ∧ i + 1 ≤ x.cps.size) ∧ ∀ b ∈ [it], H' b = none) E { s with heap := h', toks := s.toks + 1 } := fun h' st' kk u => by
      have I1 : Inv X pins σ H { s with heap := h', toks := s.toks + 1 } := I.turned (fun b o hb e => kk b o hb e) f0 f1 f3 f4 f5
      obtain ⟨o, e, c, d⟩ := id st'
      refine ⟨_, rfl, go_of (s := { s with heap := h', toks := s.toks + 1 }) e c d (by rcases hT with rfl | rfl <;> decide) ⟨.str ⟨#[x.cps[i]]⟩, H, I1, ⟨u, rfl⟩, ⟨rfl, _, by simp [hi], rfl⟩, ⟨st', hi⟩, fun b hb => ?_⟩⟩
      exact (hf b hb).1
    rcases hT with rfl | rfl
    · exact wpAny_pyNext_ascii_item st.1 (c := x.cps[i]) (by simp [hi]) fun h' hit' hs' => fin h' hit' (fun b o hb e => hs'.extBut b o hb e) _
    · exact wpAny_pyNext_wide_item st.1 (c := x.cps[i]) (by simp [hi]) fun h' hit' hs' => fin h' hit' (fun b o hb e => hs'.extBut b o hb e) _
  done := by
    intro X hP hw hK hc i pins s σ H E I hf st hg
    subst hP hw hK
    obtain ⟨f0, f1, f2, f3, f4, f5⟩ := hf it (by simp)
    have hi : x.cps.size ≤ i := hg
    rcases hT with rfl | rfl
    · exact wpAny_pyNext_ascii_end (I.ok.hd hc) st.1 (by simp; lia) fun h' eb => ⟨rfl, I.turned (t' := s.toks) (fun b o hb e => eb b o hb e) f0 f1 f3 f4 f5⟩
    · exact wpAny_pyNext_wide_end (I.ok.hd hc) st.1 (by simp; lia) fun h' eb => ⟨rfl, I.turned (t' := s.toks) (fun b o hb e => eb b o hb e) f0 f1 f3 f4 f5⟩
  self := fun _ _ _ _ _ st h => by
    rcases hT with rfl | rfl
    · exact wpAny_pyIter_striter_ascii st.1 h
    · exact wpAny_pyIter_striter_wide st.1 h
section
variable {X : Cx} {tg : Expr}
noncomputable def iStr (tl : TE) : TI := fun σ H R => tl σ H fun x H1 => ∃ z, x = .str z ∧ R (Its z) H1
theorem pi_str {l : Expr} {tl : TE} (hl : PE X l tl) : PI X tg l (iStr tl) := by
  intro pins s σ H R I h
  refine thn (hl pins s σ H _ I h) fun v s1 zq => ?_
  obtain ⟨x, H1, I1, r1, q1⟩ := zq
  obtain ⟨z, e, q⟩ := q1
  subst e
  obtain ⟨t, rfl⟩ := r1
  have fin : ∀ (o : Obj) (T : String), (T = "str_ascii_iterator" ∨ T = "str_iterator") → (s1.heap.push o).IsStrIter s1.heap.objs.size T z t 0 → PIE X pins σ tg R (.ref s1.heap.objs.size) { s1 with heap := s1.heap.push o } := fun o T hT hs => by
    refine ⟨s1.heap.objs.size, [s1.heap.objs.size], _, _, H1, rfl, I1.kept (t' := s1.toks) fun b o e => Heap.get?_push_of_some _ e, turn_str (x := z) (t := t) _ T hT, ⟨hs, Nat.zero_le _⟩, fun b hb => ?_, q⟩
    have e : b = s1.heap.objs.size := by simpa using hb
    subst e
    exact I1.fpOk (Nat.le_refl _) (I1.hok.fresh (Nat.le_refl _))
  cases ha : z.cps.all (· < 128)
  · exact wpAny_pyIter_wide ha (fin _ _ (.inr rfl) ⟨_, Heap.get?_push_size _ rfl, rfl, rfl⟩)
  · exact wpAny_pyIter_ascii ha (fin _ _ (.inl rfl) ⟨_, Heap.get?_push_size _ rfl, rfl, rfl⟩)
end
end L2
namespace L2
open PySem PySem.Spec PyProof.Rows
theorem layNew_led (t : SetTable) (es : Array (Int × Value)) (h : Int) (x : Value) : (layNew t es h x).2.1.led = t.led := by
  unfold layNew
  split
  · dsimp only
    unfold SetTable.orStandIn
    split <;> rfl
  · rfl
theorem relaid_flags {t t' : SetTable} {hs : Array Int} {n : Nat} {o : Array Nat} (h : t.relaid hs n = some (t', o)) : t'.led = t.led ∧ t'.plain = t.plain := by
  unfold SetTable.relaid SetTable.laid at h
  cases e : SetTable.layClean (SetTable.sizeAbove n - 1) hs with
  | none => rw [e] at h; cases h
  | some ow =>
    rw [e] at h
    have h' := Option.some.inj h
    cases h'
    exact ⟨rfl, rfl⟩
theorem relayAll_led (t : SetTable) (es : Array (Int × Value)) (n : Nat) : (relayAll t es n).2.1.led = t.led := by
  unfold relayAll
  split
  · rename_i t' o e
    dsimp only
    split
    · exact (relaid_flags e).1
    · rfl
  · rfl
theorem relayAll_plain (t : SetTable) (es : Array (Int × Value)) (n : Nat) (hp : (relayAll t es n).2.1.plain = true) : t.plain = true := by
  unfold relayAll at hp
  split at hp
  · rename_i t' o e
    dsimp only at hp
    split at hp
    · rw [← (relaid_flags e).2]; exact hp
    · cases hp
  · cases hp
noncomputable def txtOf : Value → Str
  | .str x _ => x
  | _ => ⟨#[]⟩
noncomputable def SSet (P : Program) (w : World) (h : Heap) (a : Addr) (ss : List Str) : Prop :=
  ∃ o es ep t, h.get? a = some o ∧ o.ExactSet ∧ o.data = .set es ep t ∧ ElemsOf (strKind P w) es.toList ∧ es.toList.map (fun e => txtOf e.2) = ss ∧ ss.Nodup ∧ es.size < scanBound ∧ t.fits es.size = true ∧
    t.led = !w.params.followText "set-order" ∧ (1 ≤ es.size → t.plain = false)
theorem str_is {P : Program} {w : World} {x : Str} {v : Value} (h : (strKind P w).is x v = true) : ∃ u, v = .str x u := Value.isStrOf_shape h
theorem elems_txt {P : Program} {w : World} {l : List (Int × Value)} (h : ElemsOf (strKind P w) l) {e : Int × Value} (he : e ∈ l) : ∃ u, e.2 = .str (txtOf e.2) u := by
  obtain ⟨⟨k, hk, _⟩, _⟩ := h e he
  obtain ⟨u, hu⟩ := str_is hk
  exact ⟨u, by rw [hu]; rfl⟩
theorem find_mem {P : Program} {w : World} {l : List (Int × Value)} (h : ElemsOf (strKind P w) l) (x : Str) : (l.findIdx? (fun e => (strKind P w).is x e.2)).isSome = decide (x ∈ l.map fun e => txtOf e.2) := by
  rw [Bool.eq_iff_iff, List.findIdx?_isSome, List.any_eq_true, decide_eq_true_eq, List.mem_map]
  constructor
  · rintro ⟨e, he, hk⟩
    obtain ⟨u, hu⟩ := str_is hk
    exact ⟨e, he, by rw [hu]; rfl⟩
  · rintro ⟨e, he, rfl⟩
    obtain ⟨u, hu⟩ := elems_txt h he
    refine ⟨e, he, ?_⟩
    rw [hu]
    exact strKind_is _ _ _ _
section
variable {P : Program} {w : World} {A : Around} {E : Value → Shared → Prop} {s : Shared}
theorem sset_add {a : Addr} {ss : List Str} {x : Str} {u : Tok} {Q : Bool → Shared → Prop} (hS : SSet P w s.heap a ss) (hroom : ss.length + 1 < scanBound)
    (h : ∀ h' ss' b, Heap.SameBut a s.heap h' → SSet P w h' a ss' → (if x ∈ ss then ss' = ss else ss'.Perm (ss ++ [x])) → Q b { s with heap := h' }) :
    wpAny (model P w) A (setAddHashed a (.str x u) (hashStr w x)) Q E s := by
  obtain ⟨o, es, ep, t, ho, hex, hd, hel, hss, hnd, hb, hf, hled, hpl⟩ := hS
  have hkey : (strKind P w).is x (.str x u) = true := strKind_is _ _ _ _
  have hn : es.size = ss.length := by rw [← hss, List.length_map, Array.length_toList]
  unfold setAddHashed setAddHashedIn
  refine wpAny_holding (wpAny_bind (wpAny_setState_of ho hd hf ?_))
  dsimp only
  rw [byScan_of (knd := strKind P w) rfl hb hel]
  simp only [↓reduceIte]
  unfold setAddByScan
  refine wpAny_bind ?_
  refine wpAny_bind (wpAny_rule ?_)
  refine wpAny_bind (wpAny_setScan_of (knd := strKind P w) hkey ho hd hf hel ?_)
  have hfm := find_mem hel x
  rw [hss] at hfm
  cases hr : List.findIdx? (fun e => (strKind P w).is x e.2) es.toList with
  | some j =>
    dsimp only
    rw [hr] at hfm
    have hx : x ∈ ss := of_decide_eq_true (Eq.symm hfm)
    refine wpAny_pure (wpAny_pure ?_)
    have := h s.heap ss false (Heap.SameBut.refl a s.heap) ⟨o, es, ep, t, ho, hex, hd, hel, hss, hnd, hb, hf, hled, hpl⟩ (by rw [if_pos hx])
    exact this
  | none =>
    dsimp only
    rw [hr] at hfm
    have hx : x ∉ ss := of_decide_eq_false (Eq.symm hfm)
    have hgw : ∀ (b : Bool) {s₁ : Shared} {Q' : Unit → Shared → Prop}, Q' () s₁ → wpAny (model P w) A (match b with | true => rule "set.scan.the-table-gave-way" | false => pure ()) Q' E s₁ :=
      fun b s₁ Q' hq => by cases b <;> first | exact wpAny_pure hq | exact wpAny_rule hq
    have hperm := layNew_perm t es (hashStr w x) (.str x u)
    have hfits := layNew_fits t es (hashStr w x) (.str x u)
    have hled1 := layNew_led t es (hashStr w x) (.str x u)
    show wpAny (model P w) A _ _ E s
    have hash : (strKind P w).hash x = hashStr w x := rfl
    try rw [hash]
    generalize hL : layNew t es (hashStr w x) (.str x u) = L at hperm hfits hled1 ⊢
    obtain ⟨es1, t1, wasDummy, gave⟩ := L
    dsimp only at hperm hfits hled1 ⊢
    rw [Array.toList_push] at hperm
    have hel1 : ElemsOf (strKind P w) es1.toList := (ElemsOf.push (knd := strKind P w) hel hkey rfl).perm hperm
    have hss1 : (es1.toList.map fun e => txtOf e.2).Perm (ss ++ [x]) := by
      have := hperm.map (fun e : Int × Value => txtOf e.2)
      rw [List.map_append, hss] at this
      exact this
    have hsz1 : es1.size = ss.length + 1 := by rw [← Array.length_toList, hperm.length_eq, List.length_append, Array.length_toList, hn]; rfl
    have hb1 : es1.size < scanBound := by rw [hsz1]; exact hroom
    have hnd1 : (es1.toList.map fun e => txtOf e.2).Nodup := by
      refine hss1.nodup_iff.mpr ?_
      rw [List.nodup_append]
      exact ⟨hnd, by simp, fun y hy z hz e => by rw [List.mem_singleton.mp hz] at e; exact hx (e ▸ hy)⟩
    refine wpAny_bind (hgw _ ?_)
    have tail : ∀ t2 : SetTable, t2.fits es1.size = true → t2.led = t.led → t2.plain = false → ∀ (g : Bool → Sem Unit), (∀ (b : Bool) (s₁ : Shared) (Q' : Unit → Shared → Prop), Q' () s₁ → wpAny (model P w) A (g b) Q' E s₁) →
        wpAny (model P w) A (do
          storeSet a es1 t2
          if (!wasDummy && t2.tooFull) = true then do
              g (relayAll t2 es1 (SetTable.grown es1.size)).2.2
              storeSet a (relayAll t2 es1 (SetTable.grown es1.size)).1 (relayAll t2 es1 (SetTable.grown es1.size)).2.1
              pure (some true)
            else pure (some true)) (fun r s' => r = some true ∧ ∃ h' ss', s' = { s with heap := h' } ∧ Heap.SameBut a s.heap h' ∧ SSet P w h' a ss' ∧ ss'.Perm (ss ++ [x])) E s := by
      intro t2 hf2 hl2 hp2 g hg
      refine wpAny_bind (wpAny_storeSet_of ho hd ?_ (fits_of_scanBound hb1))
      have ho1 : (s.heap.update a (Obj.putSet es1 t2)).get? a = some { o with data := .set es1 (ep + 1) t2 } := by
        have := Heap.get?_update_self (Obj.putSet es1 t2) ho (by rw [putSet_of es1 t2 hd]; rfl)
        rw [putSet_of es1 t2 hd] at this; exact this
      have hsb1 := Heap.SameBut.update s.heap a (Obj.putSet es1 t2)
      split
      · have hp := relayAll_perm t2 es1 (SetTable.grown es1.size)
        have hfr := relayAll_fits t2 es1 (SetTable.grown es1.size)
        have hlr := relayAll_led t2 es1 (SetTable.grown es1.size)
        have hpr := relayAll_plain t2 es1 (SetTable.grown es1.size)
        generalize hRl : relayAll t2 es1 (SetTable.grown es1.size) = Rl at hp hfr hlr hpr ⊢
        obtain ⟨es2, t3, gave2⟩ := Rl
        dsimp only at hp hfr hlr hpr ⊢
        have hsz : es2.size = es1.size := by rw [← Array.length_toList, hp.length_eq, Array.length_toList]
        have hb2 : es2.size < scanBound := by rw [hsz]; exact hb1
        refine wpAny_bind (hg _ _ _ ?_)
        refine wpAny_bind (wpAny_storeSet_of ho1 rfl ?_ (fits_of_scanBound hb2))
        have ho2 : ((s.heap.update a (Obj.putSet es1 t2)).update a (Obj.putSet es2 t3)).get? a = some { o with data := .set es2 (ep + 1 + 1) t3 } := by
          have := Heap.get?_update_self (Obj.putSet es2 t3) ho1 (by rw [putSet_of es2 t3 rfl]; rfl)
          rw [putSet_of (o := { o with data := .set es1 (ep + 1) t2 }) es2 t3 rfl] at this; exact this
        have hss2 := hp.map (fun e : Int × Value => txtOf e.2)
        refine wpAny_pure ⟨rfl, _, es2.toList.map (fun e => txtOf e.2), rfl, hsb1.trans (Heap.SameBut.update _ a _), ⟨_, es2, ep + 1 + 1, t3, ho2, hex, rfl, hel1.perm hp, rfl, hss2.nodup_iff.mpr hnd1, hb2, hfr, hlr.trans (hl2.trans hled), fun _ => ?_⟩, hss2.trans hss1⟩
        cases hq : t3.plain with
        | false => rfl
        | true => rw [hpr hq] at hp2; cases hp2
      · exact wpAny_pure ⟨rfl, _, es1.toList.map (fun e => txtOf e.2), rfl, hsb1, ⟨_, es1, ep + 1, t2, ho1, hex, rfl, hel1, rfl, hnd1, hb1, hf2, hl2.trans hled, fun _ => hp2⟩, hss1⟩
    have fin : ∀ s' : Shared, (∃ h' ss', s' = { s with heap := h' } ∧ Heap.SameBut a s.heap h' ∧ SSet P w h' a ss' ∧ ss'.Perm (ss ++ [x])) → Q true s' := by
      rintro s' ⟨h', ss', rfl, hsb, hS', hp'⟩
      exact h h' ss' true hsb hS' (by rw [if_neg hx]; exact hp')
    split
    · refine wpAny_bind ?_
      rw [hashByValue_scannable 8 (x := .str x u) rfl]
      refine wpAny_pure ?_
      dsimp only [plainKind]
      simp only [Bool.false_eq_true, if_false]
      refine wpAny_mono (tail { t1 with plain := false } (SetTable.fits_plain_off hfits) hled1 rfl _ ?_) (fun r s' hq => ?_) fun _ _ e => e
      · intro b s₁ Q' hq; cases b <;> first | exact wpAny_pure hq | exact wpAny_rule hq
      · obtain ⟨rfl, hq⟩ := hq
        exact wpAny_pure (fin s' hq)
    · rename_i hnp
      refine wpAny_bind (wpAny_pure ?_)
      simp only [↓reduceIte]
      refine wpAny_mono (tail t1 hfits hled1 (by simpa using hnp) _ ?_) (fun r s' hq => ?_) fun _ _ e => e
      · intro b s₁ Q' hq; cases b <;> first | exact wpAny_pure hq | exact wpAny_rule hq
      · obtain ⟨rfl, hq⟩ := hq
        exact wpAny_pure (fin s' hq)
end
end L2
namespace L2
open PySem PySem.Spec PyProof.Rows
inductive Dd : List Str → List Str → Prop
  | nil : Dd [] []
  | old {xs ss : List Str} {x : Str} : Dd xs ss → x ∈ ss → Dd (xs ++ [x]) ss
  | new {xs ss ss' : List Str} {x : Str} : Dd xs ss → x ∉ ss → ss'.Perm (ss ++ [x]) → Dd (xs ++ [x]) ss'
theorem Dd.mem {xs ss : List Str} (h : Dd xs ss) : ∀ y, y ∈ ss ↔ y ∈ xs := by
  induction h with
  | nil => intro y; exact Iff.rfl
  | old d hx ih =>
    rename_i zs ss x
    intro y
    rw [ih y, List.mem_append, List.mem_singleton]
    constructor
    · exact .inl
    · rintro (q | rfl)
      · exact q
      · exact (ih y).mp hx
  | new d hx hp ih =>
    rename_i zs ss ss' x
    intro y
    rw [hp.mem_iff, List.mem_append, List.mem_append, ih y]
theorem Dd.nodup {xs ss : List Str} (h : Dd xs ss) : ss.Nodup := by
  induction h with
  | nil => exact List.nodup_nil
  | old d hx ih => exact ih
  | new d hx hp ih =>
    rename_i zs ss ss' x
    refine hp.nodup_iff.mpr (List.nodup_append.mpr ⟨ih, by simp, fun y hy z hz e => ?_⟩)
    rw [List.mem_singleton.mp hz] at e
    exact hx (e ▸ hy)
theorem Dd.len {xs ss : List Str} (h : Dd xs ss) : ss.length ≤ xs.length := by
  induction h with
  | nil => exact Nat.le_refl _
  | old d hx ih => rw [List.length_append]; exact Nat.le_trans ih (Nat.le_add_right _ _)
  | new d hx hp ih => rw [hp.length_eq, List.length_append, List.length_append]; exact Nat.add_le_add_right ih _
theorem strs_at : ∀ {vs : List Value} {xs : List Str}, StrsAre vs xs → ∀ (i : Nat) (v : Value), vs[i]? = some v → ∃ x t, xs[i]? = some x ∧ v = .str x t
  | _, _, .nil, i, v, h => by simp at h
  | _, _, .cons x t r, 0, v, h => by simp at h; exact ⟨x, t, rfl, h.symm⟩
  | _, _, .cons x t r, i + 1, v, h => by
    obtain ⟨y, u, e1, e2⟩ := strs_at r i v (by simpa using h)
    exact ⟨y, u, by simpa using e1, e2⟩
section
variable {P : Program} {w : World} {A : Around} {R : Result → Shared → Prop} {I : Addr} {fp wr : List Addr} {G : Array GenState → Array GenState → Prop} {n : Nat} {Pv : Nat → Value → Prop} {St : Nat → Shared → Prop}
theorem SSet.at {h h' : Heap} {a : Addr} {ss : List Str} (hS : SSet P w h a ss) (k : ∀ o, h.get? a = some o → h'.get? a = some o) : SSet P w h' a ss := by
  obtain ⟨o, es, ep, tb, ho, rest⟩ := hS
  exact ⟨o, es, ep, tb, k o ho, rest⟩
theorem sset_update_loop (W : WalksS P w A.in1 I fp wr G n Pv St) (S : Addr) (hSf : S ∉ fp) (xs : List Str) (hn : xs.length = n) (hval : ∀ i v, Pv i v → ∃ x t, xs[i]? = some x ∧ v = .str x t) (hb : n + 1 < scanBound) :
    ∀ (k i : Nat) (s : Shared) (ss : List Str), n - i = k → i ≤ n → St i s → SSet P w s.heap S ss → Dd (xs.take i) ss →
      (∀ s' ss', Moved (S :: wr) G s s' → SSet P w s'.heap S ss' → Dd xs ss' → R (.ok (.ret .none)) s') →
      codeAny (model P w) A (.builtin "set.update.loop" ⟨[.ref S, .ref I], []⟩) R s := by
  have hSw : S ∉ wr := fun h => hSf (W.sub _ h)
  have hsub : ∀ b ∈ wr, b ∈ S :: wr := fun b hb => List.mem_cons_of_mem _ hb
  intro k
  induction k with
  | zero =>
    intro i s ss hk hi hst hS hd hR
    have hin : i = n := by lia
    subst hin
    refine codeAny_builtin PyProof.Rows.F.entry_set_update_loop ?_
    rw [Around.under_plainId PyProof.Rows.F.plain_set_update_loop _]
    show wpAny _ A.in1 (pyNext (.ref I) >>= _) _ _ s
    refine wpAny_bind (W.done s _ _ hst fun s' hm => ?_)
    show wpAny _ A.in1 (ret Value.none) _ _ s'
    refine wpAny_pure (hR s' ss (hm.mono hsub) (hS.at fun o e => hm.heap S _ hSw e) ?_)
    rw [List.take_of_length_le (Nat.le_of_eq hn)] at hd
    exact hd
  | succ k ih =>
    intro i s ss hk hi hst hS hd hR
    have hlt : i < n := by lia
    refine codeAny_builtin PyProof.Rows.F.entry_set_update_loop ?_
    rw [Around.under_plainId PyProof.Rows.F.plain_set_update_loop _]
    show wpAny _ A.in1 (pyNext (.ref I) >>= _) _ _ s
    refine wpAny_bind (W.item i s _ _ hlt hst fun v s' hP hst' hm => ?_)
    obtain ⟨x, t, hx, rfl⟩ := hval i v hP
    have hS' : SSet P w s'.heap S ss := hS.at fun o e => hm.heap S _ hSw e
    show wpAny _ A.in1 (holding [Value.str x t] (setAdd S (.str x t)) >>= _) _ _ s'
    refine wpAny_bind (wpAny_holding ?_)
    unfold setAdd
    refine wpAny_holding ?_
    refine wpAny_bind ((strKind P w).pyHash (k := x) (strKind_is _ _ _ _) ?_)
    have hl : ss.length ≤ i := by have := hd.len; rw [List.length_take] at this; lia
    refine sset_add (s := { s' with toks := s'.toks + 1 }) hS' (by lia) fun h' ss' b hsb hS2 hss => ?_
    have hd' : Dd (xs.take (i + 1)) ss' := by
      have e : xs.take (i + 1) = xs.take i ++ [x] := by rw [List.take_add_one, hx]; rfl
      rw [e]
      by_cases hm : x ∈ ss
      · rw [if_pos hm] at hss
        rw [hss]
        exact .old hd hm
      · rw [if_neg hm] at hss
        exact .new hd hm hss
    refine wpAny_pure ⟨plainId_quiet PyProof.Rows.F.plain_set_update_loop _, ih (i + 1) _ ss' (by lia) hlt (W.frame _ s' _ _ hst' (Nat.le_succ _) fun b hb o e => ?_) hS2 hd' fun s'' ss'' hm'' hS'' hd'' => ?_⟩
    · rw [hsb.2 b (fun h : b = S => hSf (by rw [← h]; exact hb))]; exact e
    · refine hR s'' ss'' (Moved.trans W.gtrans ((hm.mono hsub).then_heap (Nat.le_succ _) fun b o hb e => ?_) hm'') hS'' hd''
      rw [hsb.2 b (fun h : b = S => hb (by rw [h]; exact List.mem_cons_self))]; exact e
end
section
variable {P : Program} {w : World} {A : Around} {E : Value → Shared → Prop} {s : Shared}
theorem code_set_new_led (a : Value) {Q₁ : Value → Shared → Prop}
    (h : Q₁ (.ref s.heap.objs.size) { s with heap := s.heap.push { cls := .type "set", dict := none, data := .set #[] 0 (.fresh 0 0 (!w.params.followText "set-order")) } }) :
    codeAny (model P w) A (.call (.builtin "set.__new__") ⟨[.type "set", a], []⟩) (wants Q₁ E) s := by
  refine codeAny_of_tree ?_
  show wpAny _ A.in1 (do checkBuiltinCall "set.__new__" ⟨[.type "set", a], []⟩; again (.builtin "set.__new__" ⟨[.type "set", a], []⟩)) _ _ s
  refine wpAny_bind (wpAny_of_eq (PySem.F.newCall_set_1 a) (wpAny_pure ⟨plainId_quiet PySem.F.plain_set_new _, codeAny_builtin PySem.F.entry_set_new ?_⟩))
  rw [Around.under_plainId PySem.F.plain_set_new _]
  unfold Builtin.«set.__new__» Builtin.Frozenset.newClass
  have hsub := sub_set_self
  obtain ⟨hp, g, d, tk, os⟩ := s
  dsimp only
  wp_walk
  refine wpAny_askSetting (wpAny_pure ?_)
  dsimp only
  simp only [newObj]
  refine wpAny_bind (wpAny_alloc (wpAny_pure ?_))
  exact wpAny_pure h
set_option maxHeartbeats 16000000 in
theorem call_set_strs {l : Addr} {items : Array Value} {xs : List Str} {Q : Value → Shared → Prop}
    (hh : A.handled = none) (hl : s.heap.IsList l items) (hi : StrsAre items.toList xs) (hb : items.size + 1 < scanBound)
    (h : ∀ (h' : Heap) (tk : Nat) (ss : List Str), SSet P w h' s.heap.objs.size ss → Dd xs ss → (∀ b o, b < s.heap.objs.size → s.heap.get? b = some o → h'.get? b = some o) → Q (.ref s.heap.objs.size) { s with heap := h', toks := tk }) :
    wpAny (model P w) A (call (.type "set") [.ref l]) Q E s := by
  obtain ⟨c, tl, hmro⟩ := PySem.F.called_set.mro
  have hmade := PySem.F.called_set.made
  have hsub := PySem.F.called_set.sub
  refine wpAny_call (codeAny_of_tree ?_)
  show wpAny _ _ (callAny (.type "set") _) _ _ _
  refine wpAny_pure ⟨Code.quiet_builtin _ (by decide +kernel), codeAny_builtin PySem.F.entry_type_call ?_⟩
  rw [Around.under_plain (weight_type_call_type "set" [.ref l] []) rfl]
  have h1 := PySem.F.called_set.notType
  have h2 := PySem.F.called_set.canCreate
  have hct := PySem.F.typeCall_set_1 (.ref l)
  repeat (any_goals (first | assumption | wp_step))
  refine codeAny_mono (code_set_new_led (.ref l) (E := E) (Q₁ := fun obj s₁ => obj = .ref s.heap.objs.size ∧ s₁ = { s with heap := s.heap.push { cls := .type "set", dict := none, data := .set #[] 0 (.fresh 0 0 (!w.params.followText "set-order")) } }) ⟨rfl, rfl⟩) fun r s₁ hr => ?_
  cases r with
  | error e => exact hr
  | ok fl =>
    cases fl with
    | ret obj =>
      obtain ⟨rfl, rfl⟩ := hr
      generalize hled : (!w.params.followText "set-order") = led
      have hS : (s.heap.push { cls := .type "set", dict := none, data := .set #[] 0 (.fresh 0 0 led) }).get? s.heap.objs.size = some { cls := .type "set", dict := none, data := .set #[] 0 (.fresh 0 0 led) } := Heap.get?_push_size _ rfl
      have hT : Shared.TypeIs { s with heap := s.heap.push { cls := .type "set", dict := none, data := .set #[] 0 (.fresh 0 0 led) } } (.ref s.heap.objs.size) "set" := ⟨_, hS, rfl⟩
      have hli := PySem.F.called_set.init.lookup
      have hbi := PySem.F.called_set.init.bind (.ref s.heap.objs.size)
      repeat (any_goals (first | assumption | wp_step))
      refine codeAny_mono (codeAny_call_builtin (R := wants (fun r s₂ => r = .none ∧ ∃ h' tk ss, s₂ = { s with heap := h', toks := tk } ∧ SSet P w h' s.heap.objs.size ss ∧ Dd xs ss ∧
          (∀ b o, b < s.heap.objs.size → s.heap.get? b = some o → h'.get? b = some o)) E) PySem.F.called_set.init.plain PySem.F.entry_set_init (check_set_init_1 hT ?_)) fun r₂ s₂ hr₂ => ?_
      · obtain ⟨ol, hol, hcl, nl, hdl⟩ := hl
        obtain ⟨ocls, odict, odata, oslots⟩ := ol
        simp only at hcl hdl
        subst hcl; subst hdl
        have hol' : (s.heap.push { cls := .type "set", dict := none, data := .set #[] 0 (.fresh 0 0 led) }).get? l = some { cls := .type "list", dict := odict, data := .seq items nl, slots := oslots } := Heap.get?_push_of_some _ hol
        have hsls := PySem.F.sub_list_set
        have hslf := PySem.F.sub_list_frozenset
        have hne : (Value.type "list" == Value.type "dict") = false := by decide
        have hl1 : (s.heap.push { cls := .type "set", dict := none, data := .set #[] 0 (.fresh 0 0 led) }).IsList l items := ⟨_, hol', rfl, nl, rfl⟩
        unfold Builtin.«set.__init__» noKeywords Builtin.Frozenset.updateFrom
        generalize hPI : pyIter = PI
        wp_walk
        subst hPI
        refine wpAny_pyIter_list hl1 ?_
        refine wpAny_bind (wpAny_runValue ?_)
        have hlS : l < s.heap.objs.size := Heap.lt_size hol
        have hh3 : A.in1.in1.in1.handled = none := by simp [hh]
        have hneI : l ≠ (s.heap.push { cls := .type "set", dict := none, data := .set #[] 0 (.fresh 0 0 led) }).objs.size := by
          rw [Heap.size_push]; exact Nat.ne_of_lt (Nat.lt_succ_of_lt hlS)
        have hSf : s.heap.objs.size ∉ [(s.heap.push { cls := .type "set", dict := none, data := .set #[] 0 (.fresh 0 0 led) }).objs.size, l] := by
          rw [Heap.size_push]; simp only [List.mem_cons, List.mem_singleton, List.not_mem_nil, or_false, not_or]
          exact ⟨Nat.ne_of_lt (Nat.lt_succ_self _), Nat.ne_of_gt hlS⟩
        have hlen : xs.length = items.size := by have := hi.length; simpa using this.symm
        have hval : ∀ (i : Nat) (v : Value), items[i]? = some v → ∃ x t, xs[i]? = some x ∧ v = .str x t := fun i v hv => strs_at hi i v (by rw [Array.getElem?_toList]; exact hv)
        refine sset_update_loop ((Walks.list hh3 _ l hneI items).toS) s.heap.objs.size hSf xs hlen hval hb (items.size - 0) 0 _ [] (by lia) (Nat.zero_le _)
          ⟨⟨_, Heap.get?_push_size _ rfl, rfl, rfl⟩, (hl1.push _)⟩ ?hS0 (by rw [List.take_zero]; exact .nil) ?hR
        case hS0 =>
          have hget : ((s.heap.push { cls := .type "set", dict := none, data := .set #[] 0 (.fresh 0 0 led) }).push { cls := .type "list_iterator", data := .fields #[.ref l, .int 0 0] }).get? s.heap.objs.size
              = some { cls := .type "set", dict := none, data := .set #[] 0 (.fresh 0 0 led) } := Heap.get?_push_of_some _ hS
          exact ⟨_, #[], 0, _, hget, ⟨rfl, rfl, rfl⟩, rfl, fun e he => by simp at he, rfl, List.nodup_nil, by decide, by rfl, hled.symm, fun q => absurd q (by simp)⟩
        case hR =>
          intro s' ss' hm hS' hd'
          obtain ⟨h', g', d', tk', os'⟩ := s'
          have eg : g' = s.gens := hm.gens
          have ed : d' = s.drawn := hm.drawn
          have eo : os' = s.os := hm.os
          subst eg; subst ed; subst eo
          show wpAny _ _ _ _ _ _
          refine wpAny_pure ?_
          show wpAny _ _ (ret Value.none) _ _ _
          refine wpAny_pure ⟨rfl, h', tk', ss', rfl, hS', hd', fun b o hb e => ?_⟩
          have hb1 : b ≠ s.heap.objs.size := Nat.ne_of_lt hb
          have hb2 : b ≠ (s.heap.push { cls := .type "set", dict := none, data := .set #[] 0 (.fresh 0 0 led) }).objs.size := by
            rw [Heap.size_push]; exact Nat.ne_of_lt (Nat.lt_succ_of_lt hb)
          exact hm.heap b o (by simp only [List.mem_cons, List.mem_singleton, List.not_mem_nil, or_false, not_or]; exact ⟨hb1, hb2⟩) (Heap.get?_push_of_some _ (Heap.get?_push_of_some _ e))
      · cases r₂ with
        | error e => exact hr₂
        | ok fl₂ =>
          cases fl₂ with
          | ret r =>
            obtain ⟨rfl, h', tk, ss, rfl, hS', hd', hk'⟩ := hr₂
            repeat (any_goals (first | assumption | wp_step))
            exact h _ _ ss hS' hd' hk'
          | _ => exact hr₂.elim
    | _ => exact hr.elim
end
end L2
namespace L2
open PySem PySem.Spec PyProof.Rows
namespace SF
theorem entry_set_iter : entryFor table "set.__iter__" = some Builtin.«frozenset.__iter__» := entryFor_alias (id' := "frozenset.__iter__") (by kernel_rfl) rfl (by decide +kernel) (by kernel_rfl)
theorem slot_next : Slot "set_iterator" "__next__" "set_iterator.__next__" :=
  .of (owner := "set_iterator") (n := "__next__") (by rw [typeLookup_type, builtinLookup_eq_fast]; kernel_rfl) (by decide +kernel) (by decide +kernel) (by decide +kernel)
    (by first | exact .inl (by decide +kernel) | exact .inr (by decide +kernel)) (by rw [isSubtype_type]; kernel_rfl)
theorem entry_next : entryFor table "set_iterator.__next__" = some Builtin.«set_iterator.__next__» := entryFor_of_tree (by kernel_rfl)
theorem args_next (a : Value) : argsOk "set_iterator.__next__" ⟨[a], []⟩ := by unfold argsOk; kernel_rfl
theorem slot_self : Slot "set_iterator" "__iter__" "set_iterator.__iter__" :=
  .of (owner := "set_iterator") (n := "__iter__") (by rw [typeLookup_type, builtinLookup_eq_fast]; kernel_rfl) (by decide +kernel) (by decide +kernel) (by decide +kernel)
    (by first | exact .inl (by decide +kernel) | exact .inr (by decide +kernel)) (by rw [isSubtype_type]; kernel_rfl)
theorem entry_self : entryFor table "set_iterator.__iter__" = some Builtin.«dict_keyiterator.__iter__» :=
  entryFor_alias (id' := "dict_keyiterator.__iter__") (by kernel_rfl) rfl (by decide +kernel) (by kernel_rfl)
theorem args_self (a : Value) : argsOk "set_iterator.__iter__" ⟨[a], []⟩ := by unfold argsOk; kernel_rfl
theorem set_len : typeLookup (.type "set") "__len__" = pure (some (.builtin "set.__len__")) := by rw [typeLookup_type, builtinLookup_eq_fast]; kernel_rfl
theorem sub_set : isSubtype (.type "set") (.type "set") = pure true := by rw [isSubtype_type]; kernel_rfl
end SF
end L2
namespace L2
open PySem PySem.Spec PyProof.Rows
theorem erase_perm {α : Type} : ∀ (l : List α) (i : Nat) (h : i < l.length), (l[i] :: l.eraseIdx i).Perm l
  | x :: r, 0, _ => List.Perm.refl _
  | x :: r, i + 1, h => by
    have h' : i < r.length := by simpa using h
    exact (List.Perm.swap x r[i] (r.eraseIdx i)).trans ((erase_perm r i h').cons x)
theorem pickGo_perm {α : Type} (next : Nat → Nat) : ∀ (fuel k : Nat) (left : List α) (out : Array α), left.length = fuel → (pickOrder.go next fuel k left out).toList.Perm (out.toList ++ left)
  | 0, k, left, out, h => by
    have e : left = [] := List.eq_nil_of_length_eq_zero h
    subst e
    simp [pickOrder.go]
  | fuel + 1, k, left, out, h => by
    have hlt : next k % left.length < left.length := Nat.mod_lt _ (by lia)
    unfold pickOrder.go
    rw [List.getElem?_eq_getElem hlt]
    dsimp only
    refine (pickGo_perm next fuel (k + 1) _ _ (by rw [List.length_eraseIdx_of_lt hlt]; lia)).trans ?_
    rw [Array.toList_push, List.append_assoc]
    refine List.Perm.append_left _ ?_
    rw [List.singleton_append]
    exact erase_perm _ _ hlt
theorem pick_perm {α : Type} (next : Nat → Nat) (xs : Array α) : (pickOrder next xs).toList.Perm xs.toList := by
  have := pickGo_perm next xs.size 0 xs.toList #[] (by simp)
  simpa [pickOrder] using this
section
variable {P : Program} {w : World} {A : Around} {E : Value → Shared → Prop}
theorem choose_any {src : Source} {n : Nat} {s : Shared} {Q : Nat → Shared → Prop} (hn : n ≠ 0) (h : ∀ i d, i < n → Q i { s with drawn := d }) : wpAny (model P w) A (choose src n) Q E s := by
  intro Γ p hΓ
  unfold choose
  rw [Sem.wp_choose]
  exact ⟨hn, h _ _ (Nat.mod_lt _ (Nat.pos_of_ne_zero hn))⟩
theorem drawOrder_perm {α : Type} : ∀ (n : Nat) (xs : List α) (s : Shared) (Q : List α → Shared → Prop), xs.length = n → (∀ ys d, ys.Perm xs → Q ys { s with drawn := d }) → wpAny (model P w) A (drawOrder n xs) Q E s
  | 0, xs, s, Q, hl, h => by
    have e : xs = [] := List.eq_nil_of_length_eq_zero hl
    subst e
    exact wpAny_pure (h [] s.drawn (List.Perm.refl _))
  | n + 1, [], s, Q, hl, h => by simp at hl
  | n + 1, x :: r, s, Q, hl, h => by
    unfold drawOrder
    refine wpAny_bind (choose_any (by rw [hl]; exact Nat.succ_ne_zero n) fun i d hi => ?_)
    rw [List.getElem?_eq_getElem hi]
    dsimp only
    refine wpAny_bind (drawOrder_perm n _ _ _ (by rw [List.length_eraseIdx_of_lt hi]; lia) fun ys d' hp => ?_)
    refine wpAny_pure (h _ d' ?_)
    exact (hp.cons _).trans (erase_perm _ _ hi)
end
theorem range_get {α : Type} : ∀ l : List α, (List.range l.length).filterMap (fun i => l[i]?) = l
  | [] => rfl
  | x :: r => by
    rw [List.length_cons, List.range_succ_eq_map, List.filterMap_cons]
    simp only [List.getElem?_cons_zero]
    rw [List.filterMap_map]
    exact congrArg (x :: ·) (range_get r)
noncomputable def setIt (first : Value) (i : Nat) (S : Addr) (n ep : Nat) : Obj := { cls := .type "set_iterator", dict := none, data := .fields #[first, .int i 0, .ref S, .int n 0, .int ep 0], slots := #[] }
inductive Ord (w : World) (S : Addr) (es : Array (Int × Value)) (ep : Nat) (t : SetTable) (h : Heap) : Value → Nat → List Value → Prop
  | text (i : Nat) : w.params.followText "set-order" = true → Ord w S es ep t h (.int 0 0) i ((pickOrder (w.params.setOrder S ep) es).toList.map (·.2))
  | drawn (i : Nat) (T : Addr) (ps : List Nat) : w.params.followText "set-order" = false → IsTup h T (ps.map fun (p : Nat) => Value.int p 0).toArray → (∀ p ∈ ps, p < es.size) → Ord w S es ep t h (.ref T) i (ps.filterMap fun p => (es[p]?).map (·.2))
  | none (k i : Nat) : w.params.followText "set-order" = false → es.size = 0 → Ord w S es ep t h (.int k 0) i []
  | one0 (e : Int × Value) : w.params.followText "set-order" = false → es = #[e] → Ord w S es ep t h (.int 0 0) 0 [e.2]
  | one1 (e : Int × Value) (j : Nat) : w.params.followText "set-order" = false → es = #[e] → t.place = #[j] → Ord w S es ep t h (.int (j + 1 : Nat) 0) 1 [e.2]
noncomputable def SetSt (P : Program) (w : World) (S I T0 : Addr) (es : Array (Int × Value)) (ep : Nat) (t : SetTable) (ord : List Value) (i : Nat) (h : Heap) : Prop :=
  ∃ first o, h.get? I = some (setIt first i S es.size ep) ∧ h.get? S = some o ∧ o.data = .set es ep t ∧ Ord w S es ep t h first i ord ∧ ∀ T, first = .ref T → T = T0
section
variable {P : Program} {w : World} {A : Around} {E : Value → Shared → Prop} {s : Shared}
theorem below1 (j : Nat) : SetTable.below #[j] (j + 1) = 1 := by
  simp [SetTable.below, SetTable.below.go]
theorem below0 (j : Nat) : SetTable.below #[j] 0 = 0 := by
  simp [SetTable.below, SetTable.below.go]
theorem byText_wp {Q : Bool → Shared → Prop} (h : Q (w.params.followText "set-order") s) : wpAny (model P w) A setsByText Q E s := by
  unfold setsByText
  exact wpAny_bind (wpAny_askSetting (wpAny_pure h))
theorem setNext_wp {S : Addr} {es : Array (Int × Value)} {ep i k : Nat} {t : SetTable} {ord : List Value} {o : Obj} {Q : Option (Value × Nat) → Shared → Prop} (ho : s.heap.get? S = some o) (hd : o.data = .set es ep t) (hf : t.fits es.size = true)
    (hled : t.led = !w.params.followText "set-order") (od : Ord w S es ep t s.heap (.int (k : Int) 0) i ord)
    (h : ∀ k' : Nat, (∀ v, ord[i]? = some v → Ord w S es ep t s.heap (.int (k' : Int) 0) (i + 1) ord) → Q ((ord[i]?).map fun v => (v, k')) s) : wpAny (model P w) A (setNext S k i ep) Q E s := by
  unfold setNext
  refine wpAny_bind (wpAny_setState_of ho hd hf ?_)
  dsimp only
  refine wpAny_bind (byText_wp ?_)
  generalize hk : (k : Int) = ki at od
  generalize hfst : Value.int ki 0 = first at od
  cases od with
  | text i ht =>
    cases hfst
    obtain rfl : k = 0 := by lia
    rw [ht]
    simp only [if_true, bne_self_eq_false, Bool.false_eq_true, if_false]
    unfold setWalk
    refine wpAny_bind ?_
    refine wpAny_bind (wpAny_setState_of ho hd hf ?_)
    dsimp only
    refine wpAny_bind (byText_wp ?_)
    rw [ht]
    simp only [if_true]
    refine wpAny_bind (wpAny_askSetting (wpAny_pure ?_))
    refine wpAny_pure ?_
    have := h 0 fun v _ => Ord.text (i + 1) ht
    rw [List.getElem?_map, Array.getElem?_toList] at this
    rw [Option.map_map] at this
    exact this
  | drawn => cases hfst
  | none k' i ht h0 =>
    cases hfst
    rw [ht]
    have e0 : es = #[] := Array.eq_empty_of_size_eq_zero h0
    subst e0
    have hl : t.led = true := by rw [hled, ht]; rfl
    rw [if_neg Bool.false_ne_true]
    split
    · rename_i hdr
      have hdr' : (!t.plain && decide ((#[] : Array (Int × Value)).size > 1)) = true := hdr
      simp at hdr'
    · refine wpAny_bind (show wpAny (model P w) A (if (!t.led && !(#[] : Array (Int × Value)).isEmpty) = true then unsupported "set:maker-not-led" else pure ()) _ _ _ from ?_)
      rw [hl]
      refine wpAny_pure (wpAny_pure ?_)
      have := h k fun v e => by simp at e
      simpa using this
  | one0 e ht he =>
    cases hfst
    obtain rfl : k = 0 := by lia
    rw [ht]
    subst he
    have hl : t.led = true := by rw [hled, ht]; rfl
    have hpz : t.place.size = 1 := by
      simp only [SetTable.fits, Bool.and_eq_true, beq_iff_eq] at hf
      exact hf.1
    obtain ⟨j, hj⟩ : ∃ j, t.place = #[j] := by
      generalize t.place = pl at hpz
      obtain ⟨l⟩ := pl
      obtain ⟨j, rfl⟩ := List.length_eq_one_iff.mp hpz
      exact ⟨j, rfl⟩
    rw [if_neg Bool.false_ne_true]
    split
    · rename_i hdr
      have hdr' : (!t.plain && decide ((#[e] : Array (Int × Value)).size > 1)) = true := hdr
      simp at hdr'
    · refine wpAny_bind (show wpAny (model P w) A (if (!t.led && !(#[e] : Array (Int × Value)).isEmpty) = true then unsupported "set:maker-not-led" else pure ()) _ _ _ from ?_)
      rw [hl]
      refine wpAny_pure (wpAny_pure ?_)
      rw [hj, below0]
      exact h (j + 1) fun v _ => Ord.one1 e j ht rfl hj
  | one1 e j ht he hp =>
    cases hfst
    obtain rfl : k = j + 1 := by lia
    rw [ht]
    subst he
    have hl : t.led = true := by rw [hled, ht]; rfl
    rw [if_neg Bool.false_ne_true]
    split
    · rename_i hdr
      have hdr' : (!t.plain && decide ((#[e] : Array (Int × Value)).size > 1)) = true := hdr
      simp at hdr'
    · refine wpAny_bind (show wpAny (model P w) A (if (!t.led && !(#[e] : Array (Int × Value)).isEmpty) = true then unsupported "set:maker-not-led" else pure ()) _ _ _ from ?_)
      rw [hl]
      refine wpAny_pure (wpAny_pure ?_)
      rw [hp, below1]
      exact h 0 fun v e => by simp at e
theorem Ord.keep {S : Addr} {es : Array (Int × Value)} {ep i : Nat} {t : SetTable} {ord : List Value} {first : Value} {h h' : Heap} (od : Ord w S es ep t h first i ord) (k : ∀ T o, first = .ref T → h.get? T = some o → h'.get? T = some o) : Ord w S es ep t h' first i ord := by
  cases od with
  | text i ht => exact .text i ht
  | drawn i T ps ht hT hp =>
    obtain ⟨o, e, c⟩ := hT
    exact .drawn i T ps ht ⟨o, k T o rfl e, c⟩ hp
  | none kk i ht h0 => exact .none kk i ht h0
  | one0 e ht he => exact .one0 e ht he
  | one1 e j ht he hp => exact .one1 e j ht he hp
theorem Ord.kind {S : Addr} {es : Array (Int × Value)} {ep i : Nat} {t : SetTable} {ord : List Value} {first : Value} {h : Heap} (od : Ord w S es ep t h first i ord) :
    (∃ k : Nat, first = .int (k : Int) 0) ∨ ∃ (T : Addr) (ps : List Nat), first = .ref T ∧ w.params.followText "set-order" = false ∧ IsTup h T (ps.map fun (p : Nat) => Value.int p 0).toArray ∧ (∀ p ∈ ps, p < es.size) ∧ ord = ps.filterMap fun p => (es[p]?).map (·.2) := by
  cases od with
  | text i ht => exact .inl ⟨0, rfl⟩
  | drawn i T ps ht hT hp => exact .inr ⟨T, ps, rfl, ht, hT, hp, rfl⟩
  | none k i ht h0 => exact .inl ⟨k, rfl⟩
  | one0 e ht he => exact .inl ⟨0, rfl⟩
  | one1 e j ht he hp => exact .inl ⟨j + 1, rfl⟩
theorem Ord.step {S : Addr} {es : Array (Int × Value)} {ep i : Nat} {t : SetTable} {ord : List Value} {T : Addr} {h : Heap} (od : Ord w S es ep t h (.ref T) i ord) : Ord w S es ep t h (.ref T) (i + 1) ord := by
  cases od with
  | drawn i T ps ht hT hp => exact .drawn (i + 1) T ps ht hT hp
end
theorem fm_get {es : Array (Int × Value)} : ∀ {ps : List Nat}, (∀ p ∈ ps, p < es.size) → ∀ (i : Nat), (ps.filterMap fun p => (es[p]?).map (·.2))[i]? = (ps[i]?).bind fun p => (es[p]?).map (·.2)
  | [], _, i => by simp
  | p :: r, hp, i => by
    have h1 : p < es.size := hp p (by simp)
    have e : es[p]? = some es[p] := by simp [h1]
    rw [List.filterMap_cons, e]
    cases i with
    | zero => simp [e]
    | succ i => simpa using fm_get (fun q hq => hp q (List.mem_cons_of_mem _ hq)) i
section
variable {P : Program} {w : World} {A : Around}
theorem walks_set (hh : A.handled = none) {S I : Addr} {es : Array (Int × Value)} {ep : Nat} {t : SetTable} {ord : List Value} (fp : List Addr) (hI : I ∈ fp) (hS : S ∈ fp) (hne : S ≠ I) (hf : t.fits es.size = true) (hled : t.led = !w.params.followText "set-order")
    {T0 : Addr} (hT : T0 ∈ fp) (hTI : T0 ≠ I) :
    Walks P w A I fp [I] ord.length (fun i v => ord[i]? = some v) (SetSt P w S I T0 es ep t ord) where
  sub := fun b hb => by rw [List.mem_singleton.mp hb]; exact hI
  frame := fun i h h' st hk => by
    obtain ⟨first, o, h1, h2, h3, h4, h5⟩ := st
    exact ⟨first, o, hk I hI _ h1, hk S hS _ h2, h3, h4.keep (fun T o e q => hk T (by rw [h5 T e]; exact hT) o q), h5⟩
  item := fun i s Q E hi st hQ => by
    obtain ⟨first, o, h1, h2, h3, h4, h5⟩ := st
    have ty : s.TypeIs (.ref I) "set_iterator" := ⟨_, h1, rfl⟩
    unfold pyNext
    refine wpAny_bind (wpAny_attempt (wpAny_callSpecial?_slot (name := Str.ofString "__next__") ty SF.slot_next (wpAny_call_entry SF.slot_next ty SF.entry_next ?_ (SF.args_next _))))
    show wpAny _ _ (fieldsOf (.ref I) >>= _) _ _ s
    refine wpAny_bind (wpAny_fieldsOf h1 rfl ?_)
    show wpAny _ _ (setEntries S >>= _) _ _ s
    refine wpAny_bind (wpAny_setEntries_of h2 h3 hf ?_)
    simp only [bne_self_eq_false, Bool.false_eq_true, if_false]
    have hv : ord[i]? = some ord[i] := List.getElem?_eq_getElem hi
    rcases h4.kind with ⟨k, rfl⟩ | ⟨T, ps, rfl, ht, hTt, hps, hord⟩
    · show wpAny _ _ (setNext S (Int.toNat (k : Int)) (Int.toNat (i : Int)) (Int.toNat (ep : Int)) >>= _) _ _ s
      simp only [Int.toNat_natCast]
      refine wpAny_bind (setNext_wp h2 h3 hf hled h4 fun k' hk' => ?_)
      rw [hv]
      show wpAny _ _ (setField (.ref I) 0 (rawInt k') >>= _) _ _ s
      refine wpAny_bind (wpAny_setField_rec h1 (by simp) fun ha ha1 ha2 => ?_)
      refine wpAny_bind (wpAny_setField_rec ha1 (by simp) fun hb hb1 hb2 => ?_)
      refine wpAny_pure ⟨_, rfl, wpAny_pure (hQ _ hb s.toks hv ⟨.int (k' : Int) 0, o, hb1, ?_, h3, (hk' _ hv).keep (fun T o e => by cases e), (fun T e => by cases e)⟩ fun b o hb' e => ?_)⟩
      · rw [hb2.2 S hne, ha2.2 S hne]; exact h2
      · have : b ≠ I := fun z => hb' (by simp [z])
        rw [hb2.2 b this, ha2.2 b this]; exact e
    · have hTne : T ≠ I := by rw [h5 T rfl]; exact hTI
      have hg := fm_get hps i
      rw [← hord, hv] at hg
      cases hpi : ps[i]? with
      | none => rw [hpi] at hg; cases hg
      | some p =>
        rw [hpi] at hg
        have hp : p < es.size := hps p (List.mem_of_getElem? hpi)
        have hep : es[p]? = some es[p] := by simp [hp]
        have hg' : some ord[i] = (es[p]?).map (·.2) := hg
        rw [hep] at hg'
        have hval : ord[i] = es[p].2 := Option.some.inj hg'
        show wpAny _ _ (seqItems? (.ref T) >>= _) _ _ s
        obtain ⟨oT, eT, cT, nT, dT⟩ := hTt
        refine wpAny_bind (wpAny_seqItems eT dT ?_)
        dsimp only
        have hpl : ((ps.map fun (p : Nat) => Value.int p 0).toArray)[Int.toNat (i : Int)]? = some (.int (p : Int) 0) := by
          rw [Int.toNat_natCast, List.getElem?_toArray, List.getElem?_map, hpi]; rfl
        rw [hpl]
        show wpAny _ _ (setNextDrawn S (Int.toNat (p : Int)) (Int.toNat (ep : Int)) >>= _) _ _ s
        simp only [Int.toNat_natCast]
        unfold setNextDrawn
        refine wpAny_bind (wpAny_bind (wpAny_setState_of h2 h3 hf ?_))
        simp only [bne_self_eq_false, Bool.false_eq_true, if_false]
        rw [hep]
        refine wpAny_pure ?_
        refine wpAny_bind (wpAny_setField_rec h1 (by simp) fun hb hb1 hb2 => ?_)
        refine wpAny_pure ⟨_, rfl, wpAny_pure (hQ _ hb s.toks (by rw [hv, hval]; rfl) ⟨.ref T, o, hb1, ?_, h3, h4.step.keep (fun T' o e q => ?_), h5⟩ fun b o hb' e => ?_)⟩
        · rw [hb2.2 S hne]; exact h2
        · cases e; rw [hb2.2 T hTne]; exact q
        · have : b ≠ I := fun z => hb' (by simp [z])
          rw [hb2.2 b this]; exact e
  done := fun s Q E st hQ => by
    obtain ⟨first, o, h1, h2, h3, h4, h5⟩ := st
    have ty : s.TypeIs (.ref I) "set_iterator" := ⟨_, h1, rfl⟩
    have hv : ord[ord.length]? = none := List.getElem?_eq_none (Nat.le_refl _)
    have stop : ∀ h' : Heap, (∀ b o, b ≠ I → s.heap.get? b = some o → h'.get? b = some o) → wpAny (model P w) A.in1 (do raiseNew (← newExc (.type "StopIteration") []) : Sem Fin) (fun _ _ => False)
        (fun x s' => wpAny (model P w) A (do let b ← isInstance x (.type "StopIteration"); if b = true then pure Option.none else throw x) Q E s') { s with heap := h' } := by
      intro h' hk
      refine wpAny_bind ?_
      simp only [newExc, newTuple]
      refine wpAny_bind (wpAny_newObj_type ?_ (by size_fits))
      refine wpAny_bind (m := firstArgMember _ _) (wpAny_of_eq (a := Value.none) (by first | rfl | (simp only [firstArgMember]; rfl)) ?_)
      refine wpAny_newObj_type ?_ (by size_fits)
      simp only [raiseNew]
      refine wpAny_bind (wpAny_handled ?_)
      rw [show A.in1.handled = none from hh]
      refine wpAny_bind (wpAny_pure (wpAny_throw ?_))
      refine wpAny_bind (wpAny_isInstance (T := "StopIteration") (b := true) ⟨_, Heap.get?_push_size _ rfl, rfl⟩ isSubtype_stop ?_)
      exact wpAny_pure (hQ _ _ fun b o hb e => Heap.get?_push_of_some _ (Heap.get?_push_of_some _ (hk b o (fun z => hb (by simp [z])) e)))
    unfold pyNext
    refine wpAny_bind (wpAny_attempt (wpAny_callSpecial?_slot (name := Str.ofString "__next__") ty SF.slot_next (wpAny_call_entry SF.slot_next ty SF.entry_next ?_ (SF.args_next _))))
    show wpAny _ _ (fieldsOf (.ref I) >>= _) _ _ s
    refine wpAny_bind (wpAny_fieldsOf h1 rfl ?_)
    show wpAny _ _ (setEntries S >>= _) _ _ s
    refine wpAny_bind (wpAny_setEntries_of h2 h3 hf ?_)
    simp only [bne_self_eq_false, Bool.false_eq_true, if_false]
    rcases h4.kind with ⟨k, rfl⟩ | ⟨T, ps, rfl, ht, hTt, hps, hord⟩
    · show wpAny _ _ (setNext S (Int.toNat (k : Int)) (Int.toNat (ord.length : Int)) (Int.toNat (ep : Int)) >>= _) _ _ s
      simp only [Int.toNat_natCast]
      refine wpAny_bind (setNext_wp h2 h3 hf hled h4 fun k' hk' => ?_)
      rw [hv]
      show wpAny _ _ (setField (.ref I) 2 .none >>= _) _ _ s
      refine wpAny_bind (wpAny_setField_rec h1 (by simp) fun ha ha1 ha2 => ?_)
      refine wpAny_mono (stop ha fun b o hb e => by rw [ha2.2 b hb]; exact e) (fun _ _ z => z.elim) fun x s' z => ?_
      exact z
    · have hpi : ps[ord.length]? = none := by
        have hg := fm_get hps ord.length
        rw [← hord, hv] at hg
        cases hpi : ps[ord.length]? with
        | none => rfl
        | some p =>
          rw [hpi] at hg
          have hp : p < es.size := hps p (List.mem_of_getElem? hpi)
          have hep : es[p]? = some es[p] := by simp [hp]
          have hg' : (none : Option Value) = (es[p]?).map (·.2) := hg
          rw [hep] at hg'
          cases hg'
      show wpAny _ _ (seqItems? (.ref T) >>= _) _ _ s
      obtain ⟨oT, eT, cT, nT, dT⟩ := hTt
      refine wpAny_bind (wpAny_seqItems eT dT ?_)
      dsimp only
      have hpl : ((ps.map fun (p : Nat) => Value.int p 0).toArray)[Int.toNat (ord.length : Int)]? = none := by
        rw [Int.toNat_natCast, List.getElem?_toArray, List.getElem?_map, hpi]; rfl
      rw [hpl]
      show wpAny _ _ (setField (.ref I) 0 (rawInt 0) >>= _) _ _ s
      refine wpAny_bind (wpAny_setField_rec h1 (by simp) fun ha ha1 ha2 => ?_)
      refine wpAny_bind (wpAny_setField_rec ha1 (by simp) fun hb hb1 hb2 => ?_)
      refine wpAny_mono (stop hb fun b o hb' e => by rw [hb2.2 b hb', ha2.2 b hb']; exact e) (fun _ _ z => z.elim) fun x s' z => ?_
      exact z
  self := fun i s Q E st hQ => by
    obtain ⟨first, o, h1, h2, h3, h4, h5⟩ := st
    have ty : s.TypeIs (.ref I) "set_iterator" := ⟨_, h1, rfl⟩
    refine wpAny_pyIter_slot ty SF.slot_self (wpAny_call_entry SF.slot_self ty SF.entry_self ?_ (SF.args_self _))
    show wpAny _ _ (ret (.ref I)) _ _ s
    exact wpAny_pure ⟨_, rfl, "set_iterator", _, ty, SF.slot_next.lookup, hQ⟩
theorem pyIter_sset {E : Value → Shared → Prop} {s : Shared} {S : Addr} {ss : List Str} {Q : Value → Shared → Prop} (hS : SSet P w s.heap S ss)
    (h : ∀ (h' : Heap) (d' : Drawn) (I : Addr) (fp : List Addr) (ord : List Value) (St : Nat → Heap → Prop), (∀ b o, s.heap.get? b = some o → h'.get? b = some o) → s.heap.objs.size ≤ I → I ∈ fp → (∀ b ∈ fp, b < h'.objs.size ∧ (b = S ∨ s.heap.objs.size ≤ b)) →
      (∀ A' : Around, A'.handled = none → Walks P w A' I fp [I] ord.length (fun i v => ord[i]? = some v) St) → St 0 h' → (∃ ys, StrsAre ord ys ∧ ys.Perm ss) → Q (.ref I) { s with heap := h', drawn := d' }) :
    wpAny (model P w) A (pyIter (.ref S)) Q E s := by
  obtain ⟨o, es, ep, t, ho, hex, hd, hel, hss, hnd, hb, hf, hled, hpl⟩ := hS
  have ty : s.TypeIs (.ref S) "set" := ⟨o, ho, hex.1⟩
  have hlt : S < s.heap.objs.size := Heap.lt_size ho
  have hstr : ∀ l : List (Int × Value), (∀ e ∈ l, e ∈ es.toList) → StrsAre (l.map (·.2)) (l.map fun e => txtOf e.2) := by
    intro l
    induction l with
    | nil => intro _; exact .nil
    | cons e r ih =>
      intro hm
      obtain ⟨u, hu⟩ := elems_txt hel (hm e (by simp))
      have := StrsAre.cons (txtOf e.2) u (ih fun x hx => hm x (List.mem_cons_of_mem _ hx))
      rw [← hu] at this
      exact this
  refine wpAny_pyIter_slot ty PySem.F.slot_set_iter (wpAny_call_entry PySem.F.slot_set_iter ty SF.entry_set_iter ?_ (PySem.F.args_set_iter_1 _))
  show wpAny _ _ (Builtin.Frozenset.sizeOf S >>= _) _ _ s
  unfold Builtin.Frozenset.sizeOf
  refine wpAny_bind (wpAny_bind (wpAny_setEntries_of ho hd hf (wpAny_pure ?_)))
  unfold setDrawn
  refine wpAny_bind (wpAny_bind (wpAny_setState_of ho hd hf ?_))
  dsimp only
  refine wpAny_bind (byText_wp (wpAny_pure ?_))
  have make : ∀ (first : Value) (T0 : Addr) (ord : List Value) (h1 : Heap) (d1 : Drawn), (∀ b ob, s.heap.get? b = some ob → h1.get? b = some ob) → s.heap.objs.size ≤ h1.objs.size → (∀ T, first = .ref T → T = T0) → T0 < h1.objs.size → (T0 = S ∨ s.heap.objs.size ≤ T0) → Ord w S es ep t h1 first 0 ord → (∃ ys, StrsAre ord ys ∧ ys.Perm ss) →
      Q (.ref h1.objs.size) { s with heap := h1.push (setIt first 0 S es.size ep), drawn := d1 } := by
    intro first T0 ord h1 d1 hk hsz hT hT1 hT2 od hord
    have hne : S ≠ h1.objs.size := Nat.ne_of_lt (Nat.lt_of_lt_of_le hlt hsz)
    have szp : (h1.push (setIt first 0 S es.size ep)).objs.size = h1.objs.size + 1 := Heap.size_push ..
    refine h _ d1 h1.objs.size [h1.objs.size, S, T0] ord (SetSt P w S h1.objs.size T0 es ep t ord) (fun b ob e => Heap.get?_push_of_some _ (hk b ob e)) hsz (by simp) (fun b hb => ?_) (fun A' hA => ?_) ⟨first, o, Heap.get?_push_size _ rfl, Heap.get?_push_of_some _ (hk S o ho), hd, od.keep (fun T ob _ e => Heap.get?_push_of_some _ e), hT⟩ hord
    · rw [szp]
      have hb' : b = h1.objs.size ∨ b = S ∨ b = T0 := by simpa using hb
      rcases hb' with rfl | rfl | rfl
      · exact ⟨Nat.lt_succ_self _, .inr hsz⟩
      · exact ⟨Nat.lt_succ_of_lt (Nat.lt_of_lt_of_le hlt hsz), .inl rfl⟩
      · exact ⟨Nat.lt_succ_of_lt hT1, hT2⟩
    · exact walks_set hA _ (by simp) (by simp) hne hf hled (by simp) (Nat.ne_of_lt hT1)
  have plain0 : ∀ (ord : List Value), Ord w S es ep t s.heap (.int 0 0) 0 ord → (∃ ys, StrsAre ord ys ∧ ys.Perm ss) → Q (.ref s.heap.objs.size) { s with heap := s.heap.push (setIt (.int 0 0) 0 S es.size ep) } := fun ord od hord =>
    make (.int 0 0) S ord s.heap s.drawn (fun _ _ e => e) (Nat.le_refl _) (fun T e => by cases e) hlt (.inl rfl) od hord
  cases hbt : w.params.followText "set-order" with
  | true =>
    simp only [Bool.not_true, Bool.false_and, Bool.false_eq_true, if_false]
    refine wpAny_bind (wpAny_pure (wpAny_bind (wpAny_setEpoch_of ho hd hf ?_)))
    refine wpAny_bind (wpAny_newObj_type (wpAny_pure ⟨_, rfl, "set_iterator", _, ⟨_, Heap.get?_push_size _ rfl, rfl⟩, SF.slot_next.lookup, ?_⟩))
    refine plain0 _ (.text 0 hbt) ⟨_, hstr _ (fun e he => (pick_perm _ es).mem_iff.mp he), ?_⟩
    rw [← hss]; exact (pick_perm _ es).map _
  | false =>
    show wpAny _ _ (if (!false && (!t.plain && decide (es.size > 1))) = true then _ else _) _ _ s
    by_cases h2 : es.size > 1
    · have hp0 : t.plain = false := hpl (by lia)
      rw [if_pos (by simp [hp0, h2])]
      refine wpAny_bind (drawOrder_perm es.size (List.range es.size) s _ (by simp) fun ps d hps => ?_)
      have hpsl : ps.length = es.size := by rw [hps.length_eq, List.length_range]
      refine wpAny_bind (wpAny_newObj_type ?_ ?_)
      · refine (wpAny_bind (wpAny_setEpoch_of (s := { s with heap := s.heap.push _, drawn := d }) (Heap.get?_push_of_some _ ho) hd hf ?_))
        refine wpAny_bind (wpAny_newObj_type (wpAny_pure ⟨_, rfl, "set_iterator", _, ⟨_, Heap.get?_push_size _ rfl, rfl⟩, SF.slot_next.lookup, ?_⟩))
        have hlp : ∀ p ∈ ps, p < es.size := fun p hp => List.mem_range.mp (hps.mem_iff.mp hp)
        refine make (.ref s.heap.objs.size) s.heap.objs.size (ps.filterMap fun p => (es[p]?).map (·.2)) (s.heap.push _) d (fun b ob e => Heap.get?_push_of_some _ e) (by rw [Heap.size_push]; exact Nat.le_succ _) (fun T e => by cases e; rfl) (by rw [Heap.size_push]; exact Nat.lt_succ_self _) (.inr (Nat.le_refl _))
          (.drawn 0 _ ps hbt ⟨_, Heap.get?_push_size _ rfl, rfl, _, rfl⟩ hlp) ?_
        have e1 : (ps.filterMap fun p => (es[p]?).map (·.2)) = (ps.filterMap fun p => es[p]?).map (·.2) := by rw [List.map_filterMap]
        have hpm : (ps.filterMap fun p => es[p]?).Perm es.toList := by
          have := hps.filterMap (fun p => es[p]?)
          have e2 := range_get es.toList
          simp only [Array.getElem?_toList, Array.length_toList] at e2
          rw [e2] at this
          exact this
        refine ⟨_, by rw [e1]; exact hstr _ (fun e he => hpm.mem_iff.mp he), ?_⟩
        rw [← hss]; exact hpm.map _
      · have hz : ps.length ≤ sizeLine := by rw [hpsl]; exact fits_of_scanBound hb
        show (ps.map _).toArray.size ≤ sizeLine
        rw [List.size_toArray, List.length_map]; exact hz
    · rw [if_neg (by simp [h2])]
      refine wpAny_bind (wpAny_pure (wpAny_bind (wpAny_setEpoch_of ho hd hf ?_)))
      refine wpAny_bind (wpAny_newObj_type (wpAny_pure ⟨_, rfl, "set_iterator", _, ⟨_, Heap.get?_push_size _ rfl, rfl⟩, SF.slot_next.lookup, ?_⟩))
      by_cases h1 : es.size = 0
      · refine plain0 [] (.none 0 0 hbt h1) ⟨[], .nil, ?_⟩
        rw [← hss, Array.eq_empty_of_size_eq_zero h1]
        exact List.Perm.refl _
      · obtain ⟨e, he⟩ : ∃ e, es = #[e] := by
          obtain ⟨l⟩ := es
          have hl : l.length = 1 := by
            have a1 : ¬ l.length > 1 := h2
            have a2 : ¬ l.length = 0 := h1
            lia
          obtain ⟨e, rfl⟩ := List.length_eq_one_iff.mp hl
          exact ⟨e, rfl⟩
        refine plain0 [e.2] (.one0 e hbt he) ⟨[txtOf e.2], hstr [e] (fun x hx => by rw [he]; exact hx), ?_⟩
        rw [← hss, he]
        exact List.Perm.refl _
theorem collect_sset {E : Value → Shared → Prop} {s : Shared} {S : Addr} {ss : List Str} {Q : List Value → Shared → Prop} (hh : A.handled = none) (hS : SSet P w s.heap S ss) (hl : ss.length ≤ sizeLine)
    (h : ∀ (h' : Heap) (d' : Drawn) (tk : Nat) (ord : List Value) (ys : List Str), (∀ b o, s.heap.get? b = some o → h'.get? b = some o) → s.heap.objs.size ≤ h'.objs.size → StrsAre ord ys → ys.Perm ss → Q ord { s with heap := h', drawn := d', toks := tk }) :
    wpAny (model P w) A (collect (.ref S)) Q E s := by
  obtain ⟨o, es, ep, t, ho, hex, hd, hrest⟩ := id hS
  have hlt : S < s.heap.objs.size := Heap.lt_size ho
  unfold collect
  refine wpAny_bind (wpAny_runValue (codeAny_builtin entry_proto_collect' ?_))
  rw [Around.under_plainId PySem.F.plain_proto_collect _]
  show wpAny _ A.in1 (newList [] >>= fun l => again (.builtin "list.__iadd__" ⟨[l, .ref S], []⟩)) _ _ s
  refine wpAny_bind (wpAny_newObj_type ?_)
  refine wpAny_pure ⟨plainId_quiet PySem.F.plain_list_iadd _, codeAny_builtin entry_list_iadd' ?_⟩
  rw [Around.under_plainId PySem.F.plain_list_iadd _]
  generalize hH : s.heap.push { cls := .type "list", data := .seq ([] : List Value).toArray } = H
  have hHs : H.objs.size = s.heap.objs.size + 1 := by rw [← hH, Heap.size_push]
  have old : ∀ b ob, s.heap.get? b = some ob → H.get? b = some ob := fun b ob e => by rw [← hH]; exact Heap.get?_push_of_some _ e
  have hS1 : SSet P w H S ss := hS.at fun o e => old S o e
  have hD : H.get? s.heap.objs.size = some { cls := .type "list", data := .seq #[] } := by rw [← hH]; exact Heap.get?_push_size _ rfl
  show wpAny _ A.in1 (Builtin.List.listExtendWith (.ref s.heap.objs.size) (.ref S) (.ref s.heap.objs.size)) _ _ { s with heap := H }
  unfold Builtin.List.listExtendWith
  refine wpAny_bind (wpAny_typeOf (T := "set") (v := .ref S) (show Shared.TypeIs { s with heap := H } (.ref S) "set" from ⟨o, old S o ho, hex.1⟩) ?_)
  have h1 : Builtin.List.listSameRef (.ref s.heap.objs.size) (.ref S) = false := by simp [Builtin.List.listSameRef, Nat.ne_of_gt hlt]
  have h2 : (Value.type "set" == Value.type "list") = false := by decide
  have h3 : (Value.type "set" == Value.type "tuple") = false := by decide
  simp only [h1, h2, h3, Bool.or_false, Bool.false_eq_true, if_false]
  refine wpAny_bind (pyIter_sset (s := { s with heap := H }) hS1 fun h' d' I fp ord St hk hI hIf hfp W st zq => ?_)
  obtain ⟨ys, hys, hp⟩ := zq
  have ty' : Shared.TypeIs { s with heap := h', drawn := d' } (.ref S) "set" := ⟨o, hk S o (old S o ho), hex.1⟩
  refine wpAny_bind (wpAny_holding ?_)
  unfold Builtin.List.listLengthHint
  refine wpAny_bind (wpAny_specialOf (T := "set") (v := .ref S) ty' SF.set_len ?_)
  wp_delta
  refine wpAny_bind (wpAny_isInstance (T := "set") (v := .ref S) (b := true) ty' SF.sub_set ?_)
  show wpAny _ A.in1 (typeOf (Value.ref S) >>= _) _ _ _
  refine wpAny_bind (wpAny_typeOf (T := "set") (v := .ref S) ty' ?_)
  refine wpAny_pure ?_
  have hDI : s.heap.objs.size ≠ I := fun z => by
    have : H.objs.size ≤ I := hI
    rw [hHs] at this
    lia
  have hSf : s.heap.objs.size ∉ fp := fun hb => by
    rcases (hfp _ hb).2 with z | z
    · exact absurd z (Nat.ne_of_gt hlt)
    · have : H.objs.size ≤ s.heap.objs.size := z
      rw [hHs] at this
      lia
  have hlen : ord.length = ss.length := by
    have a1 : ord.length = ys.length := hys.length
    rw [a1, hp.length_eq]
  have key : ∀ (h1 : Heap) (c₁ : Nat), St 0 h1 → (∀ b ob, b ≠ s.heap.objs.size → h'.get? b = some ob → h1.get? b = some ob) → h1.get? s.heap.objs.size = some { cls := .type "list", data := .seq #[] c₁ } →
      codeAny (model P w) A (.builtin "list.extend.loop" ⟨[.ref s.heap.objs.size, .ref I, .ref s.heap.objs.size], []⟩)
        (fun r s' => r = .ok (.ret (.ref s.heap.objs.size)) ∧ ∃ acc' c', s'.heap.get? s.heap.objs.size = some { cls := .type "list", data := .seq acc' c' } ∧ Q acc'.toList s') { s with heap := h1, drawn := d' } := by
    intro h1 c₁ st1 hk1 hD1
    refine codeAny_extend_loopS (W A.in1 hh).toS (by rw [hlen]; exact hl) _ hSf _ ord.length 0 _ #[] c₁ rfl (Nat.zero_le _) st1 hD1 (ItemsOf.nil _) fun s' acc' c' hm hS' hacc => ?_
    refine ⟨rfl, acc', c', hS', ?_⟩
    have eacc : acc'.toList = ord := by
      refine List.ext_getElem? fun i => ?_
      rw [Array.getElem?_toList]
      by_cases hi : i < acc'.size
      · have e : acc'[i]? = some acc'[i] := by simp [hi]
        rw [e, hacc.2 i _ e]
      · have hi' : ord.length ≤ i := by have := hacc.1; lia
        rw [List.getElem?_eq_none hi']
        simp; lia
    have heq : s' = { s with heap := s'.heap, drawn := d', toks := s'.toks } := Moved.eq_with hm
    rw [eacc, heq]
    refine h s'.heap d' s'.toks ord ys (fun b ob e => ?_) (Nat.le_of_lt (Heap.lt_size hS')) hys hp
    have hb1 : b ≠ s.heap.objs.size := Nat.ne_of_lt (Heap.lt_size e)
    have hb2 : b ≠ I := fun z => by
      have hz : H.objs.size ≤ b := by rw [z]; exact hI
      rw [hHs] at hz
      exact Nat.lt_irrefl _ (Nat.lt_of_lt_of_le (Nat.lt_succ_of_lt (Heap.lt_size e)) hz)
    exact hm.heap b ob (by simp [hb1, hb2]) (hk1 b ob hb1 (hk b ob (old b ob e)))
  have hD' : h'.get? s.heap.objs.size = some { cls := .type "list", data := .seq #[] } := hk _ _ hD
  have fin : ∀ (h1 : Heap) (c₁ : Nat), St 0 h1 → (∀ b ob, b ≠ s.heap.objs.size → h'.get? b = some ob → h1.get? b = some ob) → h1.get? s.heap.objs.size = some { cls := .type "list", data := .seq #[] c₁ } → ∀ (R : Result → Shared → Prop),
      (∀ s' acc' c', s'.heap.get? s.heap.objs.size = some { cls := .type "list", data := .seq acc' c' } → Q acc'.toList s' → R (.ok (.ret (.ref s.heap.objs.size))) s') →
      codeAny (model P w) A (.builtin "list.extend.loop" ⟨[.ref s.heap.objs.size, .ref I, .ref s.heap.objs.size], []⟩) R { s with heap := h1, drawn := d' } := by
    intro h1 c₁ a1 a2 a3 R hR
    refine codeAny_mono (key h1 c₁ a1 a2 a3) fun r s' zq => ?_
    obtain ⟨e, acc', c', q1, q2⟩ := zq
    subst e
    exact hR s' acc' c' q1 q2
  have last : ∀ (R : Result → Shared → Prop), R = R → True := fun _ _ => trivial
  refine wpAny_ite_split (fun _ => ?_) (fun _ => wpAny_pure ⟨plainId_quiet PySem.F.plain_extend_loop _, fin h' 0 st (fun b ob _ e => e) hD' _ fun s' acc' c' q1 q2 => ?_⟩)
  · refine wpAny_bind (wpAny_rule ?_)
    refine wpAny_bind ?_
    show wpAny _ _ (updateSeq s.heap.objs.size (·.push .none) >>= fun _ => updateSeq s.heap.objs.size (·.pop)) _ _ _
    refine wpAny_bind (wpAny_updateSeq hD' rfl ?_)
    have hS₂ := Heap.get?_update_self (Obj.mapSeq (·.push Value.none)) hD' rfl
    refine wpAny_updateSeq (hz := by seq_fits) hS₂ rfl ?_
    have hS₃ := Heap.get?_update_self (Obj.mapSeq (·.pop)) hS₂ rfl
    refine wpAny_pure ⟨plainId_quiet PySem.F.plain_extend_loop _, fin _ _ ?_ (fun b ob hb e => ?_) hS₃ _ fun s' acc' c' q1 q2 => ?_⟩
    · refine (W A.in1 hh).frame 0 _ _ st fun b hb o e => ?_
      have hbS : b ≠ s.heap.objs.size := fun z => hSf (z ▸ hb)
      exact (Heap.get?_update_other _ _ (Ne.symm hbS)).trans ((Heap.get?_update_other _ _ (Ne.symm hbS)).trans e)
    · exact (Heap.get?_update_other _ _ (Ne.symm hb)).trans ((Heap.get?_update_other _ _ (Ne.symm hb)).trans e)
    · show wpAny _ A (load s.heap.objs.size >>= _) _ _ _
      exact wpAny_bind (wpAny_load q1 (wpAny_pure q2))
  · show wpAny _ A (load s.heap.objs.size >>= _) _ _ _
    exact wpAny_bind (wpAny_load q1 (wpAny_pure q2))
theorem sorted_sset {E : Value → Shared → Prop} {s : Shared} {S : Addr} {ss : List Str} {Q : Value → Shared → Prop} (hh : A.handled = none) (hS : SSet P w s.heap S ss) (h64 : ss.length < 64)
    (h : ∀ (h' : Heap) (d' : Drawn) (tk : Nat) (l : Addr) (vs : List Value) (zs : List Str) (e : Nat), (∀ b o, s.heap.get? b = some o → h'.get? b = some o) → s.heap.objs.size ≤ l → h'.get? l = some { cls := .type "list", data := .seq vs.toArray e } → StrsAre vs zs → zs.Perm ss → sortedS zs = true →
      Q (.ref l) { s with heap := h', drawn := d', toks := tk }) :
    wpAny (model P w) A (call (.builtin "sorted") [.ref S]) Q E s := by
  refine Calls.call_function_entry kind_sorted plain_sorted entry_sorted (args_sorted1 _) ?_
  unfold Builtin.«sorted»
  refine wpAny_bind (m := checkCount "sorted" 1 1 _) (wpAny_pure ?_)
  refine wpAny_bind (collect_sset (A := A.in1) (show A.in1.handled = none from hh) hS (by rw [sizeLine_eq]; lia) fun h1 d1 tk1 ord ys hk1 hsz1 hys hp1 => ?_)
  have hn : ord.length < 64 := by
    have : ord.length = ys.length := hys.length
    rw [this, hp1.length_eq]; exact h64
  refine wpAny_bind (wpAny_newList ?_ (by rw [sizeLine_eq]; lia))
  have hoL : (h1.push (seqObj "list" ord.toArray 0)).get? h1.objs.size = some (seqObj "list" ord.toArray 0) := Heap.get?_push_size _ rfl
  show wpAny _ _ _ _ _ { s with heap := h1.push (seqObj "list" ord.toArray 0), drawn := d1, toks := tk1 }
  refine wpAny_bind (wpAny_holding (wpAny_call_entry slot_list_sort ⟨_, hoL, rfl⟩ entry_list_sort (list_sort_treeK strKind_oneLt hoL hys.keysOf (fun v₁ v₂ rest e => keyKind_strs (by rw [← e]; exact hys)) hn fun st' a1 a2 => ⟨_, rfl, ?_⟩) (args_list_sort _)))
  obtain ⟨zs, q1, q2, q3⟩ := sorted_out_str hys a1 a2
  refine wpAny_pure ⟨_, rfl, ?_⟩
  obtain ⟨e, he⟩ := sortedHeap_at (out := (arrOf st').map (·.2)) hoL
  refine h _ d1 tk1 h1.objs.size ((arrOf st').map (·.2)).toList zs e (fun b o q => ?_) hsz1 he q1 (q2.trans hp1) q3
  have hb := Heap.lt_size (hk1 b o q)
  rw [sortedHeap_old (Nat.ne_of_lt hb) (by rw [Heap.size_push]; exact Nat.lt_succ_of_lt hb)]
  exact Heap.get?_push_of_some _ (hk1 b o q)
end
section
variable {X : Cx}
noncomputable def SetO (P : Program) (w : World) (a : Addr) (ss : List Str) : HO := .ext fun h => SSet P w h a ss
theorem vals_strs : ∀ {xs : List Str} {us : List Value}, Vals (xs.map V.str) us → StrsAre us xs
  | [], _, h => by cases h; exact .nil
  | x :: r, _, h => by
    cases h with
    | cons h1 h2 => obtain ⟨t, rfl⟩ := h1; exact .cons x t (vals_strs h2)
theorem strs_vals : ∀ {us : List Value} {xs : List Str}, StrsAre us xs → Vals (xs.map V.str) us
  | _, _, .nil => .nil
  | _, _, .cons x t r => .cons ⟨t, rfl⟩ (strs_vals r)
theorem call_set (hc : X.calm = true) : CallR X (.type "set") (fun vs H Q => ∃ (a : Addr) (xs : List Str), vs = [.ref a] ∧ SqL X.K H a (xs.map V.str) ∧ xs.length + 1 < scanBound ∧
    ∀ p ss, H p = none → Dd xs ss → Q (.ref p) (upd H p (SetO X.prog X.w p ss))) := by
  intro pins s σ H vs us Q I r h
  obtain ⟨a, xs, rfl, hq, hz, q⟩ := h
  obtain ⟨u, rfl, ru⟩ := r.one
  cases ru
  obtain ⟨its, rv, p, _⟩ := I.list hq
  have hs := vals_strs rv
  have hl : its.length = xs.length := hs.length
  refine call_set_strs (I.ok.hd hc) p.isList (by simpa using hs) (by rw [List.size_toArray, hl]; exact hz) fun h' tk ss hS hd hk => ?_
  have fr : H s.heap.objs.size = none := I.hok.fresh (Nat.le_refl _)
  refine ⟨.ref s.heap.objs.size, upd H s.heap.objs.size (SetO X.prog X.w s.heap.objs.size ss), I.laid (t' := tk) (fun b o e => hk b o (Heap.lt_size e) e) (Nat.le_refl _) ⟨hS, ?_, fun h1 h2 h3 k => ?_⟩, rfl, q _ ss fr hd⟩
  · obtain ⟨o, _, _, _, ho, _⟩ := hS; exact ⟨o, ho⟩
  · exact SSet.at h3 k
theorem call_sorted_set (hc : X.calm = true) : CallR X (.builtin "sorted") (fun vs H Q => ∃ (a : Addr) (ss : List Str), vs = [.ref a] ∧ H a = some (SetO X.prog X.w a ss) ∧ ss.length < 64 ∧
    ∀ p zs, H p = none → zs.Perm ss → sortedS zs = true → Q (.ref p) (upd H p (.lst (zs.map V.str)))) := by
  intro pins s σ H vs us Q I r h
  obtain ⟨a, ss, rfl, hq, hz, q⟩ := h
  obtain ⟨u, rfl, ru⟩ := r.one
  cases ru
  have hS : SSet X.prog X.w s.heap a ss := (I.hok a _ hq).1
  refine sorted_sset (I.ok.hd hc) hS hz fun h' d' tk l ws zs e hk hl hget hs hp hso => ?_
  have fr : H l = none := I.hok.fresh hl
  have hzl : zs.length < 64 := by rw [hp.length_eq]; exact hz
  have ok' : HOk X.prog X.w (upd H l (.lst (zs.map V.str))) h' := I.hok.laid (a := l) (o := .lst (zs.map V.str)) hk hl ⟨by rw [List.length_map]; exact Nat.le_of_lt (small1000 (by lia)), ws, e, strs_vals hs, hget⟩
  have un : Un (frs X.stack) [] H (upd H l (.lst (zs.map V.str))) s.heap h' := Un.laid hk hl fr
  exact ⟨.ref l, _, I.call (g' := s.gens) (d' := d') (t' := tk) (ch := []) un ok' I.bare (fun b z => absurd z (by simp)), rfl, q l zs fr hp hso⟩
end
end L2
namespace L2
open PySem PySem.Spec PyProof.Rows
section
variable {P : Program} {w : World} {K : PySem.W.Frag} {mg : Str → Option Value} {base : Heap} {N : List Str} {qual : Str} {scope : Scope} {f : Addr} {cd : Value} {A : Around} {outer : List Env} {s₀ : Shared} {H₀ : Hp} {E : XK}
end
section
variable {P : Program} {w : World} {K : PySem.W.Frag} {mg : Str → Option Value} {base : Heap} {N : List Str} {qual : Str} {scope : Scope} {f : Addr} {cd : Value} {A : Around} {outer : List Env} {s₀ : Shared} {H₀ : Hp} {E : XK}
end
section
variable {X : Cx} {E : XK} {x : Str} {C : Addr} {B newId initId : String} {bmB : List Value} {np cpos pos : Pos} {e : Expr} {es : List Expr} {t : TA}
end
end L2
namespace L2
open PySem PySem.Spec PyProof.Rows
section
variable {X : Cx} {pins₀ : List (Addr × Obj)} {E : XK}
theorem Inv.track {Y : Cx} {pins : List (Addr × Obj)} {σ : St} {H : Hp} {s : Shared} {a : Addr} {o : HO} (I : Inv Y pins σ H s) (hn : H a = none) (h0 : Y.s₀.heap.get? a = none) (hL : a ≠ Y.env.locals) (hc : ∀ x c, Y.env.cells.lookup x = some c → c ≠ a)
    (hp : ∀ p ∈ Y.pn ++ pins, p.1 ≠ a) (ho : ObjOk Y.prog Y.w (upd H a o) s.heap a o) : Inv Y pins σ (upd H a o) s := by
  have keep : ∀ b u, H b = some u → upd H a o b = some u := fun b u e => by rw [upd_ne (ne_of_none e hn)]; exact e
  refine ⟨I.ok, I.os, I.bare, ⟨I.base.keep, I.base.slot, fun b ob e n hx => ?_, I.base.there, fun b xs e => keep b _ (I.base.tups b xs e), fun b ob xs e => keep b _ (I.base.frzs b ob xs e), fun b ps e => ?_⟩, I.loc, I.cell, ?_, fun x c e => ?_, fun p q => ?_, fun b u e => ?_, I.len⟩
  · have : b ≠ a := fun z => by rw [z, h0] at e; cases e
    rw [upd_ne this]; exact I.base.free b ob e n hx
  · obtain ⟨m, e'⟩ := I.base.tbls b ps e
    exact ⟨m, keep b _ e'⟩
  · rw [upd_ne (Ne.symm hL)]; exact I.free
  · rw [upd_ne (hc x c e)]; exact I.freeC x c e
  · obtain ⟨p1, p2, p3⟩ := I.pin p q
    exact ⟨p1, by rw [upd_ne (hp p q)]; exact p2, p3⟩
  · by_cases hb : b = a
    · subst hb; rw [upd_same] at e; cases e; exact ho
    · rw [upd_ne hb] at e
      exact (I.hok b u e).stay (fun _ _ _ q => q) (fun c q => keep c _ q) fun c xs q => keep c _ q
end
section
variable {X : Cx} {E : XK} {c n : Str} {C : Addr} {i : Nat} {body suite : List Stmt} {b₀ : Stmt} {tb ts : TS} {np hpos pos : Pos}
end
end L2
namespace L2
open PySem PySem.Spec PyProof.Rows PySem.Builtin PySem.Builtin.ObjectAttr PySem.Builtin.Getset_descriptor
section
variable {prog : Program} {w : World} {A : Around} {E : Value → Shared → Prop} {h : Heap} {g : Array GenState} {d : Drawn} {t : Nat} {os : OsState} {K : PySem.W.Frag} {a C : Addr} {o : Obj}
end
section
variable {X : Cx}
end
end L2
namespace L2
open PySem PySem.Spec PyProof.Rows
mutual
inductive Dp (K : PySem.W.Frag) (H : Hp) : V → PyData → Prop
  | non : Dp K H .non .none
  | bl (b : Bool) : Dp K H (.bl b) (.bool b)
  | int (i : Int) : Dp K H (.int i) (.int i)
  | str (x : Str) : Dp K H (.str x) (.str x)
  | lst {a : Addr} {xs : List V} {ds : List PyData} : SqL K H a xs → DpAll K H xs ds → Dp K H (.ref a) (.list ds)
  | tup {a : Addr} {xs : List V} {ds : List PyData} : SqT K H a xs → DpAll K H xs ds → Dp K H (.ref a) (.tuple ds)
inductive DpAll (K : PySem.W.Frag) (H : Hp) : List V → List PyData → Prop
  | nil : DpAll K H [] []
  | cons {v : V} {vs : List V} {d : PyData} {ds : List PyData} : Dp K H v d → DpAll K H vs ds → DpAll K H (v :: vs) (d :: ds)
end
section
variable {X : Cx} {pins : List (Addr × Obj)} {σ : St} {H : Hp} {s : Shared}
mutual
theorem Dp.reads (I : Inv X pins σ H s) : ∀ {v : V} {d : PyData}, Dp X.K H v d → ∀ {u : Value}, RelV v u → ∃ as, Reads s.heap u d as
  | _, _, .non, _, r => by cases r; exact ⟨_, .none⟩
  | _, _, .bl b, _, r => by cases r; exact ⟨_, .bool b⟩
  | _, _, .int i, _, r => by obtain ⟨t, rfl⟩ := r; exact ⟨_, .int i t⟩
  | _, _, .str x, _, r => by obtain ⟨t, rfl⟩ := r; exact ⟨_, .str x t⟩
  | _, _, .lst hs ha, _, r => by
    cases r
    obtain ⟨its, rv, ⟨o, n, e, hc, _, hd⟩, _⟩ := I.list hs
    obtain ⟨as, ra⟩ := DpAll.reads I ha rv
    exact ⟨_, .list e hc hd (by simpa using ra)⟩
  | _, _, .tup hs ha, _, r => by
    cases r
    obtain ⟨its, rv, ⟨o, e, hc, n, hd⟩, _⟩ := I.tuple hs
    obtain ⟨as, ra⟩ := DpAll.reads I ha rv
    exact ⟨_, .tuple e hc hd (by simpa using ra)⟩
theorem DpAll.reads (I : Inv X pins σ H s) : ∀ {vs : List V} {ds : List PyData}, DpAll X.K H vs ds → ∀ {us : List Value}, Vals vs us → ∃ as, ReadsAll s.heap us ds as
  | _, _, .nil, _, r => by cases r; exact ⟨_, .nil⟩
  | _, _, .cons h1 h2, _, r => by
    cases r with
    | cons r1 r2 =>
      obtain ⟨as, q1⟩ := Dp.reads I h1 r1
      obtain ⟨bs, q2⟩ := DpAll.reads I h2 r2
      exact ⟨_, .cons q1 q2⟩
end
end
noncomputable def EqOk (d : PyData) : Prop := d.canLay0 = true ∧ d.depth ≤ 16
section
variable {X : Cx}
inductive rNeDS (K : PySem.W.Frag) (x y : V) (H : Hp) (Q : VK) : Prop
  | mk (dx dy : PyData) (h0 : Dp K H x dx) (h1 : Dp K H y dy) (h2 : EqOk dx) (h3 : EqOk dy) (h4 : Q (.bl (!PyData.eqv dx dy)) H) : rNeDS K x y H Q
noncomputable def rNeD (K : PySem.W.Frag) : R2 := fun x y H Q => rNeDS K x y H Q
theorem op_neD (hu : X.A.units + 32 < cLine) : OpR X (compareOp .NotEq) (rNeD X.K) := by
  intro pins s σ H x y v u Q I rx ry h
  obtain ⟨dx, dy, h1, h2, o1, o2, q⟩ := h
  obtain ⟨as, ra⟩ := Dp.reads I h1 rx
  obtain ⟨bs, rb⟩ := Dp.reads I h2 ry
  exact SeqAt.compareNe_reads ra rb o1.1 o2.1 (by have := o1.2; have := Nat.min_le_left dx.depth dy.depth; lia) ⟨.bl _, H, I, rfl, q⟩
end
noncomputable def RowAt (K : PySem.W.Frag) (H : Hp) (a : Addr) (r : List Str) : Prop := SqT K H a (r.map V.str)
inductive RowsAtS (K : PySem.W.Frag) (H : Hp) (a : Addr) (rs : List (List Str)) : Prop
  | mk (as : List Addr) (h0 : H a = some (.lst (as.map V.ref))) (h1 : Paired (fun b r => RowAt K H b r) as rs) : RowsAtS K H a rs
noncomputable def RowsAt (K : PySem.W.Frag) (H : Hp) (a : Addr) (rs : List (List Str)) : Prop := RowsAtS K H a rs
inductive TellAtS (K : PySem.W.Frag) (H : Hp) (a : Addr) (rss : List (List (List Str))) : Prop
  | mk (as : List Addr) (h0 : SqT K H a (as.map V.ref)) (h1 : Paired (fun b rs => RowsAt K H b rs) as rss) : TellAtS K H a rss
noncomputable def TellAt (K : PySem.W.Frag) (H : Hp) (a : Addr) (rss : List (List (List Str))) : Prop := TellAtS K H a rss
theorem Same.seqT {K : PySem.W.Frag} {H H' : Hp} {a : Addr} {xs : List V} (e : Same H H') (h : SqT K H a xs) : SqT K H' a xs := by
  rcases h with (h | ⟨o, h⟩) | h
  · exact .inl (.inl (e _ _ h))
  · exact .inl (.inr ⟨o, e _ _ h⟩)
  · exact .inr h
theorem RowAt.same {K : PySem.W.Frag} {H H' : Hp} {a : Addr} {r : List Str} (h : RowAt K H a r) (e : Same H H') : RowAt K H' a r := e.seqT h
theorem RowsAt.same {K : PySem.W.Frag} {H H' : Hp} {a : Addr} {rs : List (List Str)} (h : RowsAt K H a rs) (e : Same H H') : RowsAt K H' a rs := by
  obtain ⟨as, h1, h2⟩ := h
  exact ⟨as, e _ _ h1, Paired.mapP h2 fun b r z => z.same e⟩
theorem same_new {H : Hp} {p : Addr} (h : H p = none) (o : HO) : Same H (upd H p o) := fun b u q => by rw [upd_ne (ne_of_none q h)]; exact q
end L2
namespace L2
open PySem PySem.Spec PyProof.Rows
section
variable {X : Cx} {o e : Expr} {to : TE} {t : TA} {apos cpos : Pos}
end
end L2
namespace L2
open PySem PySem.Spec PyProof.Rows PySem.Builtin PySem.Builtin.Str
noncomputable def cutS (z : Str) (lo hi : Option Int) : Str := ⟨((z.cps.toList.drop (HT.sIx z.length 0 lo)).take (HT.sIx z.length z.length hi - HT.sIx z.length 0 lo)).toArray⟩
theorem sIx_le (n d : Nat) (hd : d ≤ n) (v : Option Int) (hv : ∀ i, v = some i → -(n : Int) ≤ i ∨ 0 ≤ i ∨ True) : HT.sIx n d v ≤ n := by
  cases v with
  | none => exact hd
  | some i =>
    show (if i < 0 then (i + (n : Int)).toNat else min i.toNat n) ≤ n
    split <;> lia
theorem clip_sIx (n d : Nat) (hd : d ≤ n) (v : Option Int) : (match v with | none => (d : Int) | some i => max 0 (min (if i < 0 then i + (n : Int) else i) (n : Int))) = ((HT.sIx n d v : Nat) : Int) := by
  cases v with
  | none => rfl
  | some i =>
    show max 0 (min (if i < 0 then i + (n : Int) else i) (n : Int)) = ((if i < 0 then (i + (n : Int)).toNat else min i.toNat n : Nat) : Int)
    split <;> lia
theorem idx_sIx (lo hi : Option Int) (n : Nat) : strSliceIndices lo hi 1 n = (List.range (HT.sIx n n hi - HT.sIx n 0 lo)).map (fun k => HT.sIx n 0 lo + k) := by
  have e1 := clip_sIx n 0 (Nat.zero_le _) lo
  have e2 := clip_sIx n n (Nat.le_refl _) hi
  have key : strSliceIndices lo hi 1 n = sliceRange ((HT.sIx n 0 lo : Nat) : Int) ((HT.sIx n n hi : Nat) : Int) 1 := by
    rw [← e1, ← e2]
    cases lo <;> cases hi <;> rfl
  rw [key]
  generalize HT.sIx n 0 lo = a
  generalize HT.sIx n n hi = b
  unfold sliceRange
  simp only [show ((1 : Int) > 0) = True from by simp, if_true]
  by_cases h : (a : Int) < b
  · rw [if_pos h]
    have e3 : (((b : Int) - a + 1 - 1) / 1).toNat = b - a := by lia
    rw [e3]
    refine List.map_congr_left fun k _ => ?_
    lia
  · rw [if_neg h]
    have e4 : b - a = 0 := by lia
    rw [e4]
    rfl
theorem picks_cut (z : Str) (lo hi : Option Int) : ((strSliceIndices lo hi 1 z.length).filterMap (z.cps[·]?)) = (z.cps.toList.drop (HT.sIx z.length 0 lo)).take (HT.sIx z.length z.length hi - HT.sIx z.length 0 lo) := by
  rw [idx_sIx]
  have hz : z.length = z.cps.toList.length := by simp [Str.length]
  have hb : HT.sIx z.length z.length hi ≤ z.length := sIx_le _ _ (Nat.le_refl _) hi fun _ _ => .inr (.inr trivial)
  generalize HT.sIx z.length 0 lo = a at *
  generalize HT.sIx z.length z.length hi = b at *
  by_cases h : a ≤ b
  · have := StrLaws.picks z.cps.toList (b - a) a (by lia)
    simpa using this
  · have e : b - a = 0 := by lia
    rw [e]
    simp
section
variable {X : Cx}
noncomputable def rSlS : V → Option Int → Option Int → Hp → VK → Prop := fun x lo hi H Q => ∃ z, x = .str z ∧ z.length ≤ sizeLine ∧ Q (.str (cutS z lo hi)) H
theorem sl_str : SlR X rSlS := by
  intro pins s σ H x v vl vu lo hi sl Q I rx hs pl pu h
  obtain ⟨z, rfl, hz, q⟩ := h
  obtain ⟨t, rfl⟩ := rx
  refine ⟨"str", _, PySem.F.slot_str_getitem.lookup, typeIs_str s z t, ?_⟩
  obtain ⟨l, hl, el⟩ : ∃ l : Option (Int × Tok), partValue l = vl ∧ l.map (·.1) = lo := by
    cases pl with
    | none => exact ⟨none, rfl, rfl⟩
    | int i t => exact ⟨some (i, t), rfl, rfl⟩
  obtain ⟨u, hu, eu⟩ : ∃ u : Option (Int × Tok), partValue u = vu ∧ u.map (·.1) = hi := by
    cases pu with
    | none => exact ⟨none, rfl, rfl⟩
    | int i t => exact ⟨some (i, t), rfl, rfl⟩
  have hS : s.heap.IsSlice sl l u none := by
    obtain ⟨o, ho, hc, hd⟩ := hs
    exact ⟨o, ho, hc, by rw [hd, hl, hu]; rfl⟩
  refine getItem_meets (typeIs_str s z t) (by decide) PySem.F.slot_str_getitem PySem.F.entry_str_getitem (PySem.F.args_str_getitem_2 _ _) (meets_str_getitem_slice z t sl l u none (by decide)) ⟨hS, ?_⟩
  have epick : slicePicked z l u none = strSliceIndices lo hi 1 z.length := by
    unfold slicePicked
    rw [el, eu]
    rfl
  have ecut : ((slicePicked z l u none).filterMap (z.cps[·]?)) = (z.cps.toList.drop (HT.sIx z.length 0 lo)).take (HT.sIx z.length z.length hi - HT.sIx z.length 0 lo) := by rw [epick]; exact picks_cut z lo hi
  unfold sliceMade
  split
  · rename_i hw
    have hlen : (slicePicked z l u none).length = z.length := by simpa using hw
    have eq : cutS z lo hi = z := by
      have e1 : ((z.cps.toList.drop (HT.sIx z.length 0 lo)).take (HT.sIx z.length z.length hi - HT.sIx z.length 0 lo)) = z.cps.toList := by
        rw [epick, idx_sIx, List.length_map, List.length_range] at hlen
        have hb : HT.sIx z.length z.length hi ≤ z.length := sIx_le _ _ (Nat.le_refl _) hi fun _ _ => .inr (.inr trivial)
        rcases Nat.eq_zero_or_pos z.length with h0 | h0
        · have : z.cps.toList = [] := by
            have : z.cps.toList.length = 0 := by simpa [Str.length] using h0
            exact List.eq_nil_of_length_eq_zero this
          rw [this]; simp
        · have ea : HT.sIx z.length 0 lo = 0 := by lia
          have eb : HT.sIx z.length z.length hi = z.length := by lia
          rw [ea, eb, List.drop_zero, Nat.sub_zero]
          exact List.take_of_length_le (by simp [Str.length])
      unfold cutS
      rw [e1]
    rw [eq] at q
    exact ⟨.str z, H, I, ⟨t, rfl⟩, q⟩
  · show (Made.str _).post _ s
    rw [ecut]
    refine ⟨?_, .str (cutS z lo hi), H, I.tok _, ⟨_, rfl⟩, q⟩
    refine Nat.le_trans ?_ hz
    show ((z.cps.toList.drop (HT.sIx z.length 0 lo)).take (HT.sIx z.length z.length hi - HT.sIx z.length 0 lo)).toArray.size ≤ z.cps.size
    rw [List.size_toArray, List.length_take, List.length_drop, Array.length_toList]
    lia
end
end L2
namespace L2
open PySem PySem.Spec PyProof.Rows
noncomputable def Glob (mg : Str → Option Value) (x : Str) (v : V) : Prop := ∃ u, mg x = some u ∧ RelV v u
theorem pe_g {X : Cx} {x : Str} {v : V} {pos : Pos} (h : Glob X.mg x v) (hg : Gl X x := by rfl) (hd : (x == ("__debug__" : Str)) = false := by decide) : PE X (.Name x pos) (tC v) := by
  obtain ⟨u, hm, r⟩ := h
  exact pe_glob hg hm r hd
theorem relabel_none {sc : Scope} {env : Env} (hfree : ∀ y ∈ sc.names, y.2 ≠ .free) (hcell : ∀ y ∈ sc.names, y.2 ≠ .cell) (y : Str) (h : (relabel sc env).names.lookup y = some .cell ∨ (relabel sc env).names.lookup y = some .free) : False := by
  have key : ∀ k, (relabel sc env).names.lookup y = some k → ∃ z ∈ sc.names, z.2 = k ∨ z.2 = .free := fun k e => by
    have hm := PySem.mem_of_lookup e
    obtain ⟨z, hz, ez⟩ := List.mem_map.mp hm
    refine ⟨z, hz, ?_⟩
    obtain ⟨n, kk⟩ := z
    dsimp only at ez
    split at ez
    · rename_i hc
      simp only [Bool.and_eq_true, beq_iff_eq] at hc
      exact .inr hc.1.1
    · exact .inl (congrArg Prod.snd ez)
  rcases h with h | h
  · obtain ⟨z, hz, q | q⟩ := key _ h
    · exact hcell z hz q
    · exact hfree z hz q
  · obtain ⟨z, hz, q | q⟩ := key _ h
    · exact hfree z hz q
    · exact hfree z hz q
theorem pe_comp0 {X : Cx} {elt iter : Expr} {x : Str} {px pos : Pos} {ifs : List Expr} {sc : Scope} {wi : TI} {tc : TT} {te : TE} (hi : PI X (.Name x px) iter wi) (hif : ∀ s H C ex, PTs (blk X [x] s H sc [] C ex) ifs tc) (he : ∀ s H C ex, PE (blk X [x] s H sc [] C ex) elt te)
    (hc : X.calm = true := by rfl) (hkind : sc.kind = .function := by rfl) (hx : sc.names.lookup x = some .local := by decide +kernel) (hfree : ∀ y ∈ sc.names, y.2 ≠ .free := by decide +kernel) (hcell : ∀ y ∈ sc.names, y.2 ≠ .cell := by decide +kernel)
    (hnames : ∀ y ∈ sc.names, y.2 = .local → sc.names.lookup y.1 = some .local := by decide +kernel) (hs : ∀ x, foldedSetIterable iter X.env x = pure x := by intro _; rfl) :
    PE X (.ListComp elt [⟨.Name x px, iter, ifs, 0⟩] sc pos) (tComp [] wi tc te) :=
  pe_comp [x] hc hi hif he hkind rfl (by simp) hx (PySem.closureFor_none hfree) hcell hnames (fun y c e => by simp at e) (fun y h => (relabel_none hfree hcell y h).elim) (fun j hj => by simp at hj) hs
structure JSeq (J : It) (I0 : Hp → Prop) (xs : List V) : Prop where
  go : ∀ i H, I0 H → i < xs.length → J.go i H
  stop : ∀ i H, I0 H → xs.length ≤ i → J.stop i H
  yld : ∀ i H x H', i < xs.length → I0 H → J.yld i H x H' → H' = H ∧ xs[i]? = some x
  stay : ∀ H H', I0 H → Same H H' → I0 H'
theorem jseq_tup {K : PySem.W.Frag} {a : Addr} {xs : List V} : JSeq (Itt K a) (fun H => SqT K H a xs) xs where
  go := fun i H h hi => ⟨xs, xs[i], h, by simp [hi]⟩
  stop := fun i H h hi => ⟨xs, h, hi⟩
  yld := fun i H x H' _ h y => ⟨y.1, y.2 xs h⟩
  stay := fun H H' h e => e.seqT h
theorem jseq_list {K : PySem.W.Frag} {a : Addr} {xs : List V} : JSeq (Itl K a) (fun H => SqL K H a xs) xs where
  go := fun i H h hi => ⟨xs, xs[i], h, by simp [hi]⟩
  stop := fun i H h hi => ⟨xs, h, hi⟩
  yld := fun i H x H' _ h y => ⟨y.1, y.2 xs h⟩
  stay := fun H H' h e => e.seq h
noncomputable def nums (lo : Int) (n : Nat) : List V := (List.range n).map fun i => V.int (lo + (i : Nat))
theorem jseq_rng {lo : Int} {n : Nat} : JSeq (Itr lo n) (fun _ => True) (nums lo n) where
  go := fun i H _ hi => by simpa [nums, Itr] using hi
  stop := fun i H _ hi => by simpa [nums, Itr] using hi
  yld := fun i H x H' hi _ y => by
    refine ⟨y.1, ?_⟩
    have hi' : i < n := by simpa [nums] using hi
    have e : x = .int (lo + i) := y.2
    unfold nums
    rw [List.getElem?_map, List.getElem?_range hi', e]; rfl
  stay := fun _ _ _ _ => trivial
theorem Paired.snocP {α β : Type} {F : α → β → Prop} {x : α} {y : β} : ∀ {l₁ : List α} {l₂ : List β}, Paired F l₁ l₂ → F x y → Paired F (l₁ ++ [x]) (l₂ ++ [y])
  | _, _, .nil, h => .cons h .nil
  | _, _, .cons h₁ t, h => .cons h₁ (Paired.snocP t h)
noncomputable def SameX (D : Addr) (H H' : Hp) : Prop := ∀ b u, H b = some u → b ≠ D → H' b = some u
theorem Same.x {H H' : Hp} (e : Same H H') (D : Addr) : SameX D H H' := fun b u q _ => e b u q
theorem comp_rel {J : It} {H1 : Hp} {σ : St} {ix : List Nat} {tc : TT} {te : TE} {Q : VK} {I0 : Hp → Prop} (xs : List V) (p : V → Bool) (R : Addr → V → V → Hp → Prop) (hJ : JSeq J I0 xs) (h0 : I0 H1) (hz : xs.length ≤ sizeLine) (hR : ∀ D x y H H', R D x y H → SameX D H H' → R D x y H')
    (hc : ∀ x ∈ xs, ∀ H2, Same H1 H2 → ∀ Q' : Bool → Hp → Prop, (∀ H3, Same H2 H3 → Q' (p x) H3) → tc (some x :: frees σ ix) H2 Q')
    (he : ∀ D, ∀ x ∈ xs, p x = true → ∀ H2, Same H1 H2 → H2 D ≠ none → ∀ Q' : VK, (∀ y H3, Same H2 H3 → R D x y H3 → Q' y H3) → te (some x :: frees σ ix) H2 Q')
    (hQ : ∀ D H' ys, H1 D = none → Same H1 H' → H' D = some (.lst ys) → Paired (fun x y => R D x y H') (xs.filter p) ys → Q (.ref D) H') :
    CompGo J H1 σ ix tc te Q := by
  intro D hD
  have put : ∀ H ys, Same H1 H → Same H1 (upd H D (.lst ys)) := fun H ys e b u q => by rw [upd_ne (ne_of_none q hD)]; exact e b u q
  refine ⟨fun i m H => i ≤ xs.length ∧ m = xs.length - i ∧ Same H1 H ∧ ∃ ys, H D = some (.lst ys) ∧ Paired (fun x y => R D x y H) ((xs.take i).filter p) ys, ⟨xs.length, Nat.zero_le _, rfl, put _ _ (Same.refl _), [], upd_same, by simpa using Paired.nil⟩, ?_⟩
  rintro i m H ⟨hi, rfl, e, ys, hy, hp⟩
  have hI := hJ.stay _ _ h0 e
  by_cases hlt : i < xs.length
  · refine .inr ⟨hJ.go i H hI hlt, fun x H' hy' => ?_⟩
    obtain ⟨rfl, hx⟩ := hJ.yld i H x H' hlt hI hy'
    have hm : x ∈ xs := List.mem_of_getElem? hx
    have ht : xs.take (i + 1) = xs.take i ++ [x] := by rw [List.take_add_one, hx]; rfl
    have hlen : ys.length ≤ i := by
      have h1 := Paired.length hp
      have h2 := List.length_filter_le p (xs.take i)
      rw [List.length_take] at h2
      lia
    refine hc x hm _ e _ fun H3 e3 => ?_
    cases hpx : p x with
    | false =>
      rw [if_neg Bool.false_ne_true]
      refine ⟨xs.length - (i + 1), by lia, hlt, rfl, e.trans e3, ys, e3 _ _ hy, ?_⟩
      rw [ht, List.filter_append]
      simp only [List.filter_cons, hpx, List.filter_nil, List.append_nil, Bool.false_eq_true, if_false]
      exact Paired.mapP hp fun x y z => hR _ _ _ _ _ z (e3.x D)
    | true =>
      rw [if_pos rfl]
      refine he D x hm hpx _ (e.trans e3) (by rw [e3 _ _ hy]; simp) _ fun y H4 e4 hr => ?_
      have e5 : SameX D H4 (upd H4 D (.lst (ys ++ [y]))) := fun b u q hb => by rw [upd_ne hb]; exact q
      refine ⟨ys, e4 _ _ (e3 _ _ hy), by lia, xs.length - (i + 1), by lia, hlt, rfl, put _ _ (e.trans (e3.trans e4)), ys ++ [y], upd_same, ?_⟩
      rw [ht, List.filter_append]
      simp only [List.filter_cons, hpx, List.filter_nil, if_true]
      exact Paired.snocP (Paired.mapP hp fun x y z => hR _ _ _ _ _ (hR _ _ _ _ _ z ((e3.trans e4).x D)) e5) (hR _ _ _ _ _ hr e5)
  · have hi' : i = xs.length := by lia
    subst hi'
    refine .inl ⟨hJ.stop _ H hI (Nat.le_refl _), ?_⟩
    rw [List.take_length] at hp
    exact hQ D H ys hD e hy hp
theorem paired_map {α β : Type} {f : α → β} : ∀ {l : List α} {l' : List β}, Paired (fun x y => y = f x) l l' → l' = l.map f
  | _, _, .nil => rfl
  | _, _, .cons h t => by rw [h, paired_map t]; rfl
theorem comp_map {J : It} {H1 : Hp} {σ : St} {ix : List Nat} {tc : TT} {te : TE} {Q : VK} {I0 : Hp → Prop} (xs : List V) (p : V → Bool) (f : V → V) (hJ : JSeq J I0 xs) (h0 : I0 H1) (hz : xs.length ≤ sizeLine)
    (hc : ∀ x ∈ xs, ∀ H2, Same H1 H2 → ∀ Q' : Bool → Hp → Prop, (∀ H3, Same H2 H3 → Q' (p x) H3) → tc (some x :: frees σ ix) H2 Q')
    (he : ∀ x ∈ xs, p x = true → ∀ H2, Same H1 H2 → ∀ Q' : VK, (∀ H3, Same H2 H3 → Q' (f x) H3) → te (some x :: frees σ ix) H2 Q')
    (hQ : ∀ D H', H1 D = none → Same H1 H' → H' D = some (.lst ((xs.filter p).map f)) → Q (.ref D) H') :
    CompGo J H1 σ ix tc te Q :=
  comp_rel xs p (fun _ x y _ => y = f x) hJ h0 hz (fun _ _ _ _ _ h _ => h) hc (fun _ x hx hp H2 e _ Q' q => he x hx hp H2 e Q' fun H3 e3 => q _ H3 e3 rfl) fun D H' ys hD e hy hp => hQ D H' hD e (by rw [hy, paired_map hp])
theorem comp_ix {J : It} {H1 : Hp} {σ : St} {ix : List Nat} {te : TE} {Q : VK} {I0 : Hp → Prop} (xs : List V) (ws : List V) (hJ : JSeq J I0 xs) (h0 : I0 H1) (hz : xs.length ≤ sizeLine) (hl : ws.length = xs.length)
    (he : ∀ (i : Nat) (x y : V), xs[i]? = some x → ws[i]? = some y → ∀ H2, Same H1 H2 → ∀ Q' : VK, (∀ H3, Same H2 H3 → Q' y H3) → te (some x :: frees σ ix) H2 Q')
    (hQ : ∀ D H', H1 D = none → Same H1 H' → H' D = some (.lst ws) → Q (.ref D) H') : CompGo J H1 σ ix tYes te Q := by
  intro D hD
  have put : ∀ H ys, Same H1 H → Same H1 (upd H D (.lst ys)) := fun H ys e b u q => by rw [upd_ne (ne_of_none q hD)]; exact e b u q
  refine ⟨fun i m H => i ≤ xs.length ∧ m = xs.length - i ∧ Same H1 H ∧ H D = some (.lst (ws.take i)), ⟨xs.length, Nat.zero_le _, rfl, put _ _ (Same.refl _), by rw [upd_same, List.take_zero]⟩, ?_⟩
  rintro i m H ⟨hi, rfl, e, hy⟩
  have hI := hJ.stay _ _ h0 e
  by_cases hlt : i < xs.length
  · refine .inr ⟨hJ.go i H hI hlt, fun x H' hy' => ?_⟩
    obtain ⟨rfl, hx⟩ := hJ.yld i H x H' hlt hI hy'
    have hw : ws[i]? = some ws[i] := List.getElem?_eq_getElem (by lia)
    unfold tYes
    dsimp only
    rw [if_pos rfl]
    refine he i x ws[i] hx hw _ e _ fun H3 e3 => ?_
    refine ⟨ws.take i, e3 _ _ hy, by rw [List.length_take]; lia, xs.length - (i + 1), by lia, hlt, rfl, put _ _ (e.trans e3), ?_⟩
    rw [upd_same, List.take_add_one, hw]; rfl
  · have hi' : i = xs.length := by lia
    subst hi'
    refine .inl ⟨hJ.stop _ H hI (Nat.le_refl _), hQ D H hD e ?_⟩
    rw [hy, List.take_of_length_le (by lia)]
theorem comp_all {α : Type} {J : It} {H1 : Hp} {σ : St} {ix : List Nat} {te : TE} {Q : VK} {I0 : Hp → Prop} (xs : List V) (rs : List α) (p : α → Bool) (hJ : JSeq J I0 xs) (h0 : I0 H1) (hz : xs.length ≤ 1000) (hl : rs.length = xs.length)
    (he : ∀ (i : Nat) (x : V) (r : α), xs[i]? = some x → rs[i]? = some r → ∀ H2, Same H1 H2 → ∀ Q' : VK, (∀ H3, Same H2 H3 → Q' (.bl (p r)) H3) → te (some x :: frees σ ix) H2 Q')
    (hQ : ∀ D H', H1 D = none → Same H1 H' → H' D = some (.lst ((rs.map p).map V.bl)) → Q (.ref D) H') : CompGo J H1 σ ix tYes te Q :=
  comp_ix xs ((rs.map p).map V.bl) hJ h0 (Nat.le_of_lt (small1000 hz)) (by simp [hl]) (fun i x y hx hy H2 e Q' q => by
    rw [List.getElem?_map, List.getElem?_map] at hy
    cases hr : rs[i]? with
    | none => rw [hr] at hy; cases hy
    | some r =>
      rw [hr] at hy
      have : y = .bl (p r) := (Option.some.inj hy).symm
      subst this
      exact he i x r hx hr H2 e Q' q) hQ
end L2
namespace L2
open PySem PySem.Spec PyProof.Rows
section
variable {X : Cx}
end
end L2
namespace L2
open PySem PySem.Spec PyProof.Rows
section
variable {X : Cx} {es es1 : List Expr} {t t1 : TA} {te : TE} {x : Str} {j : Nat} {pos pos2 : Pos}
theorem pa_str {j} (hr : PA X es t) : PA X (.Constant (.str x) j pos :: es) (tCons (tC (.str x)) t) := pa_cons pe_str hr rfl
theorem pa_int {i : Int} {j} (hr : PA X es t) : PA X (.Constant (.int i) j pos :: es) (tCons (tC (.int i)) t) := pa_cons pe_int hr rfl
theorem pa_nm (h : PE X (.Name x pos) te) (hr : PA X es t) : PA X (.Name x pos :: es) (tCons te t) := pa_cons h hr rfl
theorem pa_tp {x1} (h : PA X es1 t1) (hr : PA X es t) : PA X (.Tuple es1 x1 pos :: es) (tCons (tTup t1) t) := pa_cons (pe_tup h) hr rfl
theorem pa_sub {a b : Expr} (h : PE X (.Subscript a b pos) te) (hr : PA X es t) : PA X (.Subscript a b pos :: es) (tCons te t) := pa_cons h hr rfl
theorem pa_call {f : Expr} {as : List Expr} {ks : List Keyword} (h : PE X (.Call f as ks pos) te) (hr : PA X es t) : PA X (.Call f as ks pos :: es) (tCons te t) := pa_cons h hr rfl
theorem pa_bop {a b : Expr} {op : Operator} (h : PE X (.BinOp a op b pos) te) (hr : PA X es t) : PA X (.BinOp a op b pos :: es) (tCons te t) := pa_cons h hr rfl
end
end L2
namespace L2
open PySem PySem.Spec PyProof.Rows
structure QE (X : Cx) (e : Expr) (t : TE) : Prop where
  run : PE X e t
structure QT (X : Cx) (e : Expr) (t : TT) : Prop where
  run : PT X e t
structure QW (X : Cx) (e : Expr) (t : TT) : Prop where
  run : PW X e t
structure QA (X : Cx) (es : List Expr) (t : TA) : Prop where
  run : PA X es t
structure QS (X : Cx) (st : Stmt) (t : TS) : Prop where
  run : PS X st t
structure QB (X : Cx) (st : List Stmt) (t : TS) : Prop where
  run : PSs X st t
structure QI (X : Cx) (tg iter : Expr) (wi : TI) : Prop where
  run : PI X tg iter wi
structure QG (X : Cx) (target : Expr) (t : TG) : Prop where
  run : PG X target t
structure QO (X : Cx) (e : Option Expr) (t : TO) : Prop where
  run : PO X e t
structure QTs (X : Cx) (ifs : List Expr) (t : TT) : Prop where
  run : PTs X ifs t
theorem QW.qt {X : Cx} {e : Expr} {t : TT} (h : QW X e t) : QT X e t := ⟨PW.pt h.run⟩
section
variable {st : Stmt} {id : String} {lo hi : Option Expr}
set_option autoImplicit true
set_option relaxedAutoImplicit true
theorem qb_nil  : QB X [] tNext := ⟨pss_nil ⟩
theorem qb_cons {rest : List Stmt} (h1 : QS X st t) (h2 : QB X rest u) : QB X (st :: rest) (tSeq t u) := ⟨pss_cons h1.run h2.run⟩
theorem qb_one (h1 : QS X st t) : QB X [st] t := ⟨pss_one h1.run⟩
theorem qs_if {c : Expr} {a b : List Stmt} {tc : TT} (hc : QT X c tc) (ha : QB X a t) (hb : QB X b u) : QS X (.If c a b pos) (tIfS tc t u) := ⟨ps_if hc.run ha.run hb.run⟩
theorem qs_set {i : Nat} {x : Str} {e : Expr} {te : TE} {pos' : Pos} (hN : X.N.Nodup) (hi : X.N[i]? = some x) (hx : Loc X.env.scope x) (he : QE X e te) (hs : swapsWith e (some (.Name x pos')) pos.line X.env = pure false := by rfl) (hf : X.fn x = true ∨ X.env.scope.names.lookup x = some .local := by first | exact .inl rfl | exact .inr rfl | assumption) :     QS X (.Assign [.Name x pos'] e pos) (tAsg te (gName i)) := ⟨ps_set hN hi hx he.run hs hf⟩
theorem qs_ret (he : QE X e te) : QS X (.Return (some e) pos) (tRet te) := ⟨ps_ret he.run⟩
theorem qs_expr (he : QE X e te) (hs : swapsWith e none pos.line X.env = pure false := by rfl) : QS X (.Expr e pos) (tDrop te) := ⟨ps_expr he.run hs⟩
theorem qs_for {iter : Expr} {body : List Stmt} {wi : TI} {g : TG} {tb : TS} {pos : Pos} (hp : PassesOwn (model X.prog X.w) X.A X.env X.xe) (hc : X.calm = true) (hi : QI X tg iter wi) (hg : QG X tg g) (hb : QB X body tb) (hs : ∀ x, foldedSetIterable iter X.env x = pure x := by intro _; rfl) : QS X (.For tg iter body [] pos) (tFor wi g tb) := ⟨ps_for hp hc hi.run hg.run hb.run hs⟩
theorem qs_asg {tg e : Expr} {te : TE} {g : TG} (he : QE X e te) (hg : QG X tg g) (hs : swapsWithSole [tg] e pos.line X.env = pure false := by rfl) (hw : swappedStores [tg] e X.env = pure none := by rfl) (h1 : (assignEach [tg] X.env).map (·.2) = [assign tg X.env] := by rfl) : QS X (.Assign [tg] e pos) (tAsg te g) := ⟨ps_asg he.run hg.run hs hw h1⟩
theorem qs_while {c : Expr} {body : List Stmt} {tc : TT} {tb : TS} (hp : PassesOwn (model X.prog X.w) X.A X.env X.xe) (hc : QT X c tc) (hb : QB X body tb) : QS X (.While c body [] pos) (tWhile tc tb) := ⟨ps_while hp hc.run hb.run⟩
theorem qs_break  : QS X (.Break pos) tBreak := ⟨ps_break ⟩
theorem qs_continue  : QS X (.Continue pos) tCont := ⟨ps_continue ⟩
theorem qe_int {i j pos} : QE X (.Constant (.int i) j pos) (tC (.int i)) := ⟨pe_int ⟩
theorem qe_bl {b j pos} : QE X (.Constant (.bool b) j pos) (tC (.bl b)) := ⟨pe_bl ⟩
theorem qe_non {j pos} : QE X (.Constant .none j pos) (tC .non) := ⟨pe_non ⟩
theorem qe_str {x j pos} : QE X (.Constant (.str x) j pos) (tC (.str x)) := ⟨pe_str ⟩
theorem qv (i : Nat) {x : Str} {pos : Pos} (hN : X.N[i]? = some x := by rfl) (hv : Vis X.env.scope x := by first | exact Or.inl rfl | exact Or.inr (Or.inl rfl) | exact Or.inr (Or.inr rfl)) (hd : (x == ("__debug__" : Str)) = false := by decide) (hcd : (x == ("__classdict__" : Str)) = false := by decide) : QE X (.Name x pos) (tVar i) := ⟨pv i hN hv hd hcd⟩
theorem qe_op {op : Operator} {r : R2} (ho : OpR X (binaryOp op) r) (ha : QE X a ta) (hb : QE X b tb) : QE X (.BinOp a op b pos) (tOp r ta tb) := ⟨pe_op ho ha.run hb.run⟩
theorem qe_cmpR {op : CmpOp} {r : R2} (ho : OpR X (compareOp op) r) (ha : QE X a ta) (hb : QE X b tb) (hm : behindInMarks op b = false) : QE X (.Compare a [op] [b] pos) (tOp r ta tb) := ⟨pe_cmpR ho ha.run hb.run hm⟩
theorem qt_cmpR {op : CmpOp} {r : R2} (ho : OpR X (compareOp op) r) (ha : QE X a ta) (hb : QE X b tb) (hm : behindInMarks op b = false) : QT X (.Compare a [op] [b] pos) (tTest (tOp r ta tb)) := ⟨pt_cmpR ho ha.run hb.run hm⟩
theorem qt_val {e : Expr} {t : TE} (h : QE X e t) (he : ∀ whole, isTrue e X.env whole = (do let v ← whole; standAt e.pos; holding [v] (truthy v)) := by intro _; rfl) : QT X e (tB t) := ⟨pt_val h.run he⟩
theorem qt_not (ha : QT X a tA) : QT X (.UnaryOp .Not a pos) (tNot tA) := ⟨pt_not ha.run⟩
theorem qw_and1 (ha : QT X a tA) : QW X (.BoolOp .And [a] pos) tA := ⟨pw_and1 ha.run⟩
theorem qw_or1 (ha : QT X a tA) : QW X (.BoolOp .Or [a] pos) tA := ⟨pw_or1 ha.run⟩
theorem qw_and {rest : List Expr} (ha : QT X a tA) (hb : QW X (.BoolOp .And (b :: rest) pos) tB') : QW X (.BoolOp .And (a :: b :: rest) pos) (tAnd tA tB') := ⟨pw_and ha.run hb.run⟩
theorem qw_or {rest : List Expr} (ha : QT X a tA) (hb : QW X (.BoolOp .Or (b :: rest) pos) tB') : QW X (.BoolOp .Or (a :: b :: rest) pos) (tOr tA tB') := ⟨pw_or ha.run hb.run⟩
theorem qe_one {op} {t : TE} (h : QE X a t) : QE X (.BoolOp op [a] pos) t := ⟨pe_one h.run⟩
theorem qe_and {rest : List Expr} (ha : QE X a ta) (hb : QE X (.BoolOp .And (b :: rest) pos) tb) : QE X (.BoolOp .And (a :: b :: rest) pos) (tAndV ta tb) := ⟨pe_and ha.run hb.run⟩
theorem qe_or {rest : List Expr} (ha : QE X a ta) (hb : QE X (.BoolOp .Or (b :: rest) pos) tb) : QE X (.BoolOp .Or (a :: b :: rest) pos) (tOrV ta tb) := ⟨pe_or ha.run hb.run⟩
theorem qe_ifExp {c : Expr} (hc : QT X c tA) (ha : QE X a ta) (hb : QE X b tb) : QE X (.IfExp c a b pos) (tIf tA ta tb) := ⟨pe_ifExp hc.run ha.run hb.run⟩
theorem qe_ix {r : R2} (hr : IxR X r) (ha : QE X a ta) (hb : QE X b tb) (hs : PlainIx b) : QE X (.Subscript a b pos) (tOp r ta tb) := ⟨pe_ix hr ha.run hb.run hs⟩
theorem qe_slice {r : V → Option Int → Option Int → Hp → VK → Prop} (hr : SlR X r) (he : QE X e te) (hl : QO X lo tl) (hu : QO X hi th) : QE X (.Subscript e (.Slice lo hi none p2) pos) (tSl r te tl th) := ⟨pe_slice hr he.run hl.run hu.run⟩
theorem qo_none  : QO X none tNoPart := ⟨po_none ⟩
theorem qo_some (h : QE X e te) : QO X (some e) (tPart te) := ⟨po_some h.run⟩
theorem qe_tup {x1} (h : QA X es t) : QE X (.Tuple es x1 pos) (tTup t) := ⟨pe_tup h.run⟩
theorem qe_lst (h : QA X es t) : QE X (.List es pos) (tLst t) := ⟨pe_lst h.run⟩
theorem qe_call (F : FnOk X.prog X.w X.K X.mg X.base CX k f fd ps sp) (hr : Room k X.A) (hg : Gl X x) (hm : X.mg x = some (.ref f)) (hk : PySem.W.keepIn X.K (.ref f) = true) (hb : Binds X.K fd ps ds) (hd : Vals dvs ds) (hx : Passes CX X E) (ha : QA X (e :: es) t) (hdb : (x == ("__debug__" : Str)) = false := by decide) (he : starEach (e :: es) X.env = (false, eval e X.env) :: starEach es X.env := by rfl) (hpl : (backTo pos (starEach es X.env)).any (·.1) = false := by rfl) :     QE X (.Call (.Name x p) (e :: es) [] pos) (tCall sp dvs E t) := ⟨pe_call F hr hg hm hk hb hd hx ha.run hdb he hpl⟩
theorem qe_callB (hc : CallR X (.builtin id) r) (hg : Gl X x) (hm : X.mg x = none) (hv : bootBuiltins x = some (.builtin id)) (ha : QA X (e :: es) t) (hn : x ≠ "__name__" := by decide) (hdb : (x == ("__debug__" : Str)) = false := by decide) (he : starEach (e :: es) X.env = (false, eval e X.env) :: starEach es X.env := by rfl) (hpl : (backTo pos (starEach es X.env)).any (·.1) = false := by rfl) : QE X (.Call (.Name x p) (e :: es) [] pos) (tCB r t) := ⟨pe_callB hc hg hm hv ha.run hn hdb he hpl⟩
theorem qe_callTy (hc : CallR X (.type T) r) (hg : Gl X x) (hm : X.mg x = none) (hv : bootBuiltins x = some (.type T)) (ha : QA X (e :: es) t) (hn : x ≠ "__name__" := by decide) (hdb : (x == ("__debug__" : Str)) = false := by decide) (he : starEach (e :: es) X.env = (false, eval e X.env) :: starEach es X.env := by rfl) (hpl : (backTo pos (starEach es X.env)).any (·.1) = false := by rfl) : QE X (.Call (.Name x p) (e :: es) [] pos) (tCB r t) := ⟨pe_callTy hc hg hm hv ha.run hn hdb he hpl⟩
theorem qe_comp0 {X : Cx} {elt iter : Expr} {x : Str} {px pos : Pos} {ifs : List Expr} {sc : Scope} {wi : TI} {tc : TT} {te : TE} (hi : QI X (.Name x px) iter wi) (hif : ∀ s H C ex, QTs (blk X [x] s H sc [] C ex) ifs tc) (he : ∀ s H C ex, QE (blk X [x] s H sc [] C ex) elt te) (hc : X.calm = true := by rfl) (hkind : sc.kind = .function := by rfl) (hx : sc.names.lookup x = some .local := by decide +kernel) (hfree : ∀ y ∈ sc.names, y.2 ≠ .free := by decide +kernel) (hcell : ∀ y ∈ sc.names, y.2 ≠ .cell := by decide +kernel) (hnames : ∀ y ∈ sc.names, y.2 = .local → sc.names.lookup y.1 = some .local := by decide +kernel) (hs : ∀ x, foldedSetIterable iter X.env x = pure x := by intro _; rfl) :     QE X (.ListComp elt [⟨.Name x px, iter, ifs, 0⟩] sc pos) (tComp [] wi tc te) := ⟨pe_comp0 hi.run (fun z0 z1 z2 z3 => (hif z0 z1 z2 z3).run) (fun z0 z1 z2 z3 => (he z0 z1 z2 z3).run) hc hkind hx hfree hcell hnames hs⟩
theorem qi_list {l : Expr} {tl : TE} (hl : QE X l tl) : QI X tg l (iList X.K tl) := ⟨pi_list hl.run⟩
theorem qi_str {l : Expr} {tl : TE} (hl : QE X l tl) : QI X tg l (iStr tl) := ⟨pi_str hl.run⟩
theorem qi_range1 {a : Expr} {ta : TA} {p pos : Pos} (hg : Gl X "range") (hm : X.mg "range" = none) (ha : QA X [a] ta) (hs : starEach [a] X.env = [(false, eval a X.env)] := by rfl) : QI X tg (.Call (.Name "range" p) [a] [] pos) (iRng1 ta) := ⟨pi_range1 hg hm ha.run hs⟩
theorem qg_name {i : Nat} {x : Str} (hN : X.N.Nodup) (hi : X.N[i]? = some x) (hx : Loc X.env.scope x) (hf : X.fn x = true ∨ X.env.scope.names.lookup x = some .local := by first | exact .inl rfl | exact .inr rfl | assumption) : QG X (.Name x pos) (gName i) := ⟨pg_name hN hi hx hf⟩
theorem qa_nil  : QA X [] tNil := ⟨pa_nil ⟩
theorem qa_cons (ha : QE X e te) (hr : QA X es t) (hs : starEach (e :: es) X.env = (false, eval e X.env) :: starEach es X.env := by rfl) : QA X (e :: es) (tCons te t) := ⟨pa_cons ha.run hr.run hs⟩
theorem qa_str {j} (hr : QA X es t) : QA X (.Constant (.str x) j pos :: es) (tCons (tC (.str x)) t) := ⟨pa_str hr.run⟩
theorem qa_int {i : Int} {j} (hr : QA X es t) : QA X (.Constant (.int i) j pos :: es) (tCons (tC (.int i)) t) := ⟨pa_int hr.run⟩
theorem qa_nm (h : QE X (.Name x pos) te) (hr : QA X es t) : QA X (.Name x pos :: es) (tCons te t) := ⟨pa_nm h.run hr.run⟩
theorem qa_tp {x1} (h : QA X es1 t1) (hr : QA X es t) : QA X (.Tuple es1 x1 pos :: es) (tCons (tTup t1) t) := ⟨pa_tp h.run hr.run⟩
theorem qa_sub {a b : Expr} (h : QE X (.Subscript a b pos) te) (hr : QA X es t) : QA X (.Subscript a b pos :: es) (tCons te t) := ⟨pa_sub h.run hr.run⟩
theorem qa_call {f : Expr} {as : List Expr} {ks : List Keyword} (h : QE X (.Call f as ks pos) te) (hr : QA X es t) : QA X (.Call f as ks pos :: es) (tCons te t) := ⟨pa_call h.run hr.run⟩
theorem qa_bop {a b : Expr} {op : Operator} (h : QE X (.BinOp a op b pos) te) (hr : QA X es t) : QA X (.BinOp a op b pos :: es) (tCons te t) := ⟨pa_bop h.run hr.run⟩
theorem qts_nil {X : Cx} : QTs X [] tYes := ⟨pts_nil ⟩
theorem qts_one {X : Cx} {c : Expr} {t : TT} (h : QT X c t) : QTs X [c] t := ⟨pts_one h.run⟩
end
theorem qg_sub {X : Cx} {o i : Expr} {to ti : TE} {t : TSet} {pos : Pos} (ho : QE X o to) (hi : QE X i ti) (hs : PSet X t)
    (ha : ∀ v, assign (.Subscript o i pos) X.env v = (do
      let ov ← holding [v] (eval o X.env)
      let iv ← holding [v, ov] (eval i X.env)
      standAt pos
      holding [v, ov, iv] (setItem ov iv v)
      release [v, ov, iv] []) := by intro _; rfl) : QG X (.Subscript o i pos) (gSub to ti t) := ⟨pg_sub ho.run hi.run hs ha⟩
theorem Fun.okQ {P : Program} {w : World} {K : PySem.W.Frag} {mg : Str → Option Value} {base : Heap} {x qual : Str} {st : Stmt} {f : Addr} {fd : FuncData} {N ps : List Str} {k : Nat} {sp : Sp} (F : Fun K x qual st f fd) (S : FnScope N ps (defScope st)) (len : ∀ vs H Q E, sp vs H Q E → vs.length = ps.length)
    (hbody : ∀ (cdv : Value) (A : Around) (outer : List Env) (s : Shared) (H : Hp) (vs : List V) (Q : VK) (E : XK), Room k (A.deeper (envOfC qual (defScope st) s.heap.objs.size f cdv)) → sp vs H Q E →
      ∃ t, QB (cxOf CX0 P w K mg base N qual (defScope st) f cdv A outer s H E).nox (defBody st) t ∧ t { nx := fun _ H' => Q .non H', rt := Q } (start N vs) H) : FnOk P w K mg base CX0 (k + 1) f fd ps sp :=
  F.ok S len fun cdv A outer s H vs Q E hr h => by
    obtain ⟨t, h1, h2⟩ := hbody cdv A outer s H vs Q E hr h
    exact ⟨t, h1.run, h2⟩
end L2
namespace L2
open PySem PySem.Spec PyProof.Rows
section
variable {X : Cx} {st : Stmt} {t : TS} {e : Expr} {te : TE}
noncomputable def tTruth (K : PySem.W.Frag) (ta : TE) : TT := fun σ H Q => ta σ H fun x H' => ∃ k, TruV K x H' k ∧ Q k H'
theorem qt_truth {K : PySem.W.Frag} (ha : QE X e te) (hK : X.K = K := by rfl) (he : ∀ whole, isTrue e X.env whole = (do let v ← whole; standAt e.pos; holding [v] (truthy v)) := by intro _; rfl) : QT X e (tTruth K te) := by
  subst hK
  exact ⟨pt_truth ha.run he⟩
end
section
variable {id : String}
set_option autoImplicit true
set_option relaxedAutoImplicit true
theorem qe_bmK {K : PySem.W.Frag} (hK : X.K = K) (pa : PlainAttrs T) (slot : Slot T name id) (hty : typeOf (.builtin id) = pure (.type "method_descriptor")) (hm : MtR X id r) (ho : QE X o to) (ha : QA X (e :: es) t) (hbase : attributeBase o name X.env (eval o X.env) = eval o X.env := by rfl) (hfew : ((backTo cpos (starEach (e :: es) X.env)).all (fun x => !x.1) && (backToKw cpos (keywordEach [] X.env)).all (fun x => x.1.isSome)       && decide ((e :: es).length + ([] : List Keyword).length + (if ([] : List Keyword).isEmpty then 0 else 1) < 30)) = true := by rfl) (hline : (apos.endLine == cpos.line) = true := by rfl) (hs : starEach (e :: es) X.env = (false, eval e X.env) :: starEach es X.env := by rfl) (hplain : (backTo cpos (starEach es X.env)).any (·.1) = false := by rfl) : QE X (.Call (.Attribute o name apos) (e :: es) [] cpos) (tBM K T r to t) := by
  subst hK
  exact ⟨pe_bm pa slot hty hm ho.run ha.run hbase hfew hline hs hplain⟩
end
end L2
namespace L2
open PySem PySem.Spec PyProof.Rows
end L2
namespace L2
open PySem PySem.Spec PyProof.Rows
section
variable {X : Cx} {pins : List (Addr × Obj)} {σ : St} {H : Hp} {s : Shared} {h' : Heap}
theorem Inv.turnedL {t' : Nat} {ch : List Addr} (I : Inv X pins σ H s) (k : ∀ b o, b ∉ ch → s.heap.get? b = some o → h'.get? b = some o) (hc : ∀ b ∈ ch, FpOk X pins H b) : Inv X pins σ H { s with heap := h', toks := t' } := by
  have nit : ∀ b u, H b = some u → b ∉ ch := fun b u e z => by rw [(hc b z).1] at e; cases e
  refine I.step (g' := s.gens) (d' := s.drawn) (ch := ch) (fun b hb => ⟨(hc b hb).2.2.2.1, (hc b hb).2.1, (hc b hb).2.2.2.2.1, (hc b hb).2.2.2.2.2⟩) (fun b o _ _ hn e _ => k b o hn e) (fun b o _ _ hn e _ => ⟨o.slots, k b o hn e⟩) (fun _ _ _ _ n => n)
    (fun b o hn e => ⟨o, k b o hn e⟩) (fun _ _ e => e) (fun _ _ _ e => e) (fun b ps e => ⟨#[], by rw [e]; simp⟩) (fun m hm => ?_) (fun b u e => ?_) I.bare
  · obtain ⟨o, es, ep, ho, r⟩ := hm
    exact ⟨o, es, ep, k _ o (fun z => (hc _ z).2.1 rfl) ho, r⟩
  · refine (I.hok b u e).stay (fun c v hcv q => k c v ?_ q) (fun _ q => q) fun _ _ q => q
    rcases hcv with z | z
    · rw [z]; exact nit b u e
    · exact nit c _ z
end
noncomputable def zipFp (n : Addr) : List Addr := [n + 4, n + 2, n + 3, n, n + 1]
theorem zipApart_of {n l1 l2 : Nat} (h1 : l1 ∉ zipFp n) (h2 : l2 ∉ zipFp n) : ZipApart (n + 4) (n + 2) (n + 3) n (n + 1) l1 l2 := by
  unfold zipFp at h1 h2
  simp only [List.mem_cons, List.not_mem_nil, or_false, not_or] at h1 h2
  have nn : ∀ a b : Nat, a ≠ b → n + a ≠ n + b := fun a b h => by lia
  have n0 : ∀ a : Nat, a ≠ 0 → n ≠ n + a := fun a h => by lia
  exact ⟨nn 2 4 (by decide), nn 3 4 (by decide), n0 4 (by decide), nn 1 4 (by decide), nn 2 3 (by decide), (n0 2 (by decide)).symm, nn 2 1 (by decide), (n0 3 (by decide)).symm, nn 3 1 (by decide), n0 1 (by decide), h1.1, h1.2.2.1, h1.2.2.2.1, h1.2.2.2.2, h2.1, h2.2.2.1, h2.2.2.2.1, h2.2.2.2.2⟩
section
variable {X : Cx}
end
end L2
namespace L2
open PySem PySem.Spec PyProof.Rows
section
variable {X : Cx}
theorem ps_setcomp {elt iter : Expr} {x yv : Str} {px pos py pos2 : Pos} {iy : Nat} {ifs : List Expr} {sc : Scope} {cl : List (Str × Addr)} {ix : List Nat} {wi : TI} {tc : TT} {te : TE} (N : List Str) (hNd : X.N.Nodup) (hiy : X.N[iy]? = some yv) (hyv : Loc X.env.scope yv) (hsw : swapsWith (.ListComp elt [⟨.Name x px, iter, ifs, 0⟩] sc pos) (some (.Name yv py)) pos2.line X.env = pure true) (hfy : X.fn yv = true ∨ X.env.scope.names.lookup yv = some .local)
    (hc : X.calm = true) (hi : PI X (.Name x px) iter wi) (hif : ∀ s H C ex, PTs (blk X N s H sc cl C ex) ifs tc) (he : ∀ s H C ex, PE (blk X N s H sc cl C ex) elt te)
    (hkind : sc.kind = .function) (hN : N = x :: ix.map fun j => (X.N[j]?).getD "") (hnd : N.Nodup) (hx : sc.names.lookup x = some .local)
    (hcl : closureFor sc X.env = pure cl) (hcell : ∀ y ∈ sc.names, y.2 ≠ .cell) (hnames : ∀ y ∈ sc.names, y.2 = .local → sc.names.lookup y.1 = some .local)
    (hsub : ∀ y c, cl.lookup y = some c → X.env.cells.lookup y = some c) (hhas : ∀ y, ((relabel sc X.env).names.lookup y = some .cell ∨ (relabel sc X.env).names.lookup y = some .free) → ∃ c, cl.lookup y = some c)
    (hix : ∀ j ∈ ix, ∃ y, X.N[j]? = some y ∧ X.env.kindOf y = some .cell ∧ (relabel sc X.env).names.lookup y = some .cell)
    (hs : ∀ x, foldedSetIterable iter X.env x = pure x := by intro _; rfl) :
    PS X (.Assign [.Name yv py] (.ListComp elt [⟨.Name x px, iter, ifs, 0⟩] sc pos) pos2) (tAsg (tComp ix wi tc te) (gName iy)) := by
  intro pins s σ H D0 I h
  rw [exec_Assign_Name_used _ _ _ _ hsw]
  refine wpAny_bind (wpAny_standAt (wpAny_bind ?_))
  show wpAny _ _ (comprehension _ _ _ _ _ _ _ _ >>= _) _ _ _
  refine wpAny_bind (wpAny_mono (Q := fun _ s' => SP X pins D0 .next s') (wpAny_comprehension_free (use := some (assign (.Name yv py) X.env)) rfl hs hcl hkind hnames ?_) (fun _ s' q => wpAny_pure (wpAny_pure q)) fun _ _ y => y)
  refine thn (hi pins s σ H _ I h) fun v s1 h1 => thn h1 fun itv s2 h2 => ?_
  obtain ⟨it, fp, tn, J, H2, e, I2, T, st2, f2, q2⟩ := h2
  subst e
  have fr2 : H2 s2.heap.objs.size = none := I2.hok.fresh (Nat.le_refl _)
  obtain ⟨W, ⟨m0, w0⟩, turn⟩ := q2 s2.heap.objs.size fr2
  refine wpAny_newObj_type ?_
  have I3 : Inv X pins σ (upd H2 s2.heap.objs.size (.lst [])) { s2 with heap := s2.heap.push { cls := .type "list", dict := none, data := .seq ([] : List Value).toArray } } := by
    exact I2.lnew (its := []) (ys := []) (t' := s2.toks) .nil (Nat.zero_le _)
  have lt2 : ∀ b ∈ fp, b < s2.heap.objs.size := fun b hb => by
    obtain ⟨o, ho, _⟩ := T.obj _ _ st2 b hb
    exact Heap.lt_size ho
  have f3 : ∀ b ∈ fp, FpOk X pins (upd H2 s2.heap.objs.size (.lst [])) b := fun b hb => ⟨by rw [upd_ne (Nat.ne_of_lt (lt2 b hb))]; exact (f2 b hb).1, (f2 b hb).2⟩
  generalize hs3 : ({ s2 with heap := s2.heap.push { cls := .type "list", dict := none, data := .seq ([] : List Value).toArray } } : Shared) = s3 at I3
  have hsz3 : s2.heap.objs.size ≤ s3.heap.objs.size := by rw [← hs3]; show _ ≤ (s2.heap.push _).objs.size; rw [Heap.size_push]; exact Nat.le_succ _
  have tn3 : tn 0 s3.heap := T.keep _ _ _ st2 fun b _ o e => by rw [← hs3]; exact Heap.get?_push_of_some _ e
  have lt3 : ∀ b ∈ fp, b < s3.heap.objs.size := fun b hb => Nat.lt_of_lt_of_le (lt2 b hb) hsz3
  refine wpAny_newFunctionEnv hcell (by intro y hy; simp at hy) (fun h4 hns4 hsb4 => ?_) hkind
  have old : ∀ b o, s3.heap.get? b = some o → h4.get? b = some o := fun b o e => hsb4.extBut b o (Nat.ne_of_lt (Heap.lt_size e)) (Heap.get?_push_of_some _ e)
  have I4 := inv_blk (m := _) (tk := s3.toks + ([] : List (Str × Value)).length) (N := N) I3 hkind hN hsub hhas hix f3 lt3 hns4 old
  have tn4 : tn 0 h4 := T.keep _ _ _ tn3 fun b _ o e => old b o e
  have fpB : ∀ {H' : Hp}, (∀ b ∈ fp, H' b = none) → ∀ b ∈ fp, FpOk (blk X N s3 (upd H2 s2.heap.objs.size (.lst [])) sc cl s3.heap.objs.size fp) [] H' b := fun {H'} hn b hb =>
    ⟨hn b hb, Nat.ne_of_lt (lt3 b hb), I4.ok.exfs b hb, .inl hb, fun y c e => (I4.ok.exf b hb).2 y c e, fun p hp => absurd (show p ∈ ([] : List (Addr × Obj)) from hp) (by simp)⟩
  have loop : codeAny (model X.prog X.w) X.A (.compLoop (.ListComp elt [⟨.Name x px, iter, ifs, 0⟩] sc pos) 0 (.ref it) (.ref s2.heap.objs.size) (compEnvC sc cl s3.heap.objs.size X.env))
      (compPost (model X.prog X.w) X.A X.xe (some (assign (.Name yv py) X.env)) (fun _ s' => SP X pins D0 .next s') (.ref s2.heap.objs.size) s3.heap.objs.size) { s3 with heap := h4, toks := s3.toks + ([] : List (Str × Value)).length } := by
    refine compLoop_go (fun n s' => ∃ i v0 H', Inv (blk X N s3 (upd H2 s2.heap.objs.size (.lst [])) sc cl s3.heap.objs.size fp) [] (v0 :: frees σ ix) H' s' ∧ tn i s'.heap ∧ (∀ b ∈ fp, H' b = none) ∧ W i n H') ?_ m0
      ⟨0, none, _, I4, tn4, fun b hb => (f3 b hb).1, w0⟩
    rintro n s5 ⟨i, v0, H5, I5, st5, fr5, w5⟩
    rcases turn i n H5 w5 with ⟨stop, qn⟩ | ⟨go, step⟩
    · refine thn (T.done (blk X N s3 (upd H2 s2.heap.objs.size (.lst [])) sc cl s3.heap.objs.size fp) rfl rfl rfl hc i [] s5 _ H5 _ I5 (fpB fr5) st5 stop) fun r s6 zq => ?_
      obtain ⟨hr, I6⟩ := zq
      subst hr
      obtain ⟨mm, hm, _⟩ := I6.loc
      have I7 : Inv X pins σ H5 s6 := by
        have hC : H5 s3.heap.objs.size = none := I6.free
        have hc3 : s3.heap.get? s3.heap.objs.size = none := Heap.get?_none_of_le (Nat.le_refl _)
        have up : ∀ b o, b ≠ s3.heap.objs.size → s6.heap.get? b = some o → s6.heap.get? b = some o := fun b o hb e => e
        have neC : ∀ b o, s3.heap.get? b = some o → b ≠ s3.heap.objs.size := fun b o e => Nat.ne_of_lt (Heap.lt_size e)
        have u := I6.base
        refine I3.call' (s' := s6) (ch := fp) I6.os ⟨fun b o e n hb hx => ?_, fun b o e n hb hx => ?_, fun b o e n hx => u.free b o e n hx, fun b o e hx => ?_, u.tups, u.frzs, u.tbls⟩ (fun b o e => ?_) I6.bare fun b hb => ⟨(f3 b hb).2.2.2.1, (f3 b hb).2.1, (f3 b hb).2.2.2.2.1, (f3 b hb).2.2.2.2.2⟩
        · exact up b o (neC b o e) (u.keep b o e n hb hx)
        · obtain ⟨sl, e1⟩ := u.slot b o e n hb hx
          exact ⟨sl, up b _ (neC b o e) e1⟩
        · obtain ⟨o', e1⟩ := u.there b o e hx
          exact ⟨o', up b _ (neC b o e) e1⟩
        · refine (I6.hok b o e).stay (fun c v hc' q => up c v ?_ q) (fun _ q => q) fun _ _ q => q
          rintro rfl
          rcases hc' with z | z
          · rw [← z, hC] at e; cases e
          · rw [hC] at z; cases z
      have hCn : H5 s3.heap.objs.size = none := I6.free
      have hCl : s3.heap.objs.size ≠ X.env.locals := Nat.ne_of_gt I3.lt
      have hCc : ∀ z c, X.env.cells.lookup z = some c → c ≠ s3.heap.objs.size := fun z c e e2 => by
        obtain ⟨v', q⟩ := I3.cell z c e
        exact absurd (e2 ▸ q.lt) (Nat.lt_irrefl _)
      refine wpAny_assign_Name (store_ok2 I7 hNd hiy hyv (show RelV (V.ref s2.heap.objs.size) (Value.ref s2.heap.objs.size) from rfl) (fun s8 I8 hsb => ?_) hfy)
      obtain ⟨a8, sb8, ha8⟩ := hsb
      have hna : s3.heap.objs.size ≠ a8 := by
        rcases ha8 with z | z
        · rw [z]; exact hCl
        · exact Ne.symm (hCc _ _ z)
      obtain ⟨oC, esC, epC, hoC, rC⟩ := hm
      refine ⟨mm, ⟨oC, esC, epC, sb8.extBut _ _ hna hoC, rC⟩, fun h9 sb9 => ?_⟩
      refine ⟨_, H5, I8.turned (t' := s8.toks) (it := s3.heap.objs.size) (fun b o hb e => sb9.extBut b o hb e) hCn hCl (.inr I3.sz) hCc (fun p hp e2 => ?_), qn⟩
      exact absurd (e2 ▸ Heap.lt_size (I3.pin p hp).1) (Nat.lt_irrefl _)
    · refine thn (T.item (blk X N s3 (upd H2 s2.heap.objs.size (.lst [])) sc cl s3.heap.objs.size fp) rfl rfl rfl hc i [] s5 _ H5 _ I5 (fpB fr5) st5 go) fun r s6 zq => ?_
      obtain ⟨u, hr, h6⟩ := zq
      subst hr
      refine thn h6 fun _ s7 zq => ?_
      obtain ⟨y, H7, I7, r7, y7, st7, fr7⟩ := zq
      have I7' := I7.pinned (fpB fr7) (T.obj _ _ st7)
      refine wpAny_assign_Name (store_ok (i := 0) I7' hnd (by show N[0]? = some x; rw [hN]; rfl) (.inl (lookup_relabel_local hx)) r7 (fun s8 I8 => ?_) (.inr (lookup_relabel_local hx)))
      have I8' : Inv (blk X N s3 (upd H2 s2.heap.objs.size (.lst [])) sc cl s3.heap.objs.size fp) ([] ++ pinsAt fp s7.heap) (some y :: frees σ ix) H7 s8 := I8
      refine thn (hif _ _ _ _ _ s8 _ H7 _ I8' (step y H7 y7)) fun ok s9 zq => ?_
      obtain ⟨H9, I9, q9⟩ := zq
      have again : ∀ {H' : Hp} {s' : Shared} {m' : Nat}, Inv (blk X N s3 (upd H2 s2.heap.objs.size (.lst [])) sc cl s3.heap.objs.size fp) ([] ++ pinsAt fp s7.heap) (some y :: frees σ ix) H' s' → m' < n → W (i + 1) m' H' →
          ∃ m, m < n ∧ ∃ i v0 H', Inv (blk X N s3 (upd H2 s2.heap.objs.size (.lst [])) sc cl s3.heap.objs.size fp) [] (v0 :: frees σ ix) H' s' ∧ tn i s'.heap ∧ (∀ b ∈ fp, H' b = none) ∧ W i m H' := fun {H' s' m'} Ia hm wa => by
        refine ⟨m', hm, i + 1, some y, H', Ia.unpinned, T.keep _ _ _ st7 fun b hb o e => (Ia.pin (b, o) (List.mem_append_right _ (List.mem_append_right _ (mem_pinsAt hb e)))).1, fun b hb => ?_, wa⟩
        obtain ⟨o, e, d⟩ := T.obj _ _ st7 b hb
        exact (Ia.pin (b, o) (List.mem_append_right _ (List.mem_append_right _ (mem_pinsAt hb e)))).2.1
      cases ok with
      | false =>
        rw [if_neg Bool.false_ne_true] at q9 ⊢
        obtain ⟨m', hm, wa⟩ := q9
        exact again I9 hm wa
      | true =>
        rw [if_pos rfl] at q9 ⊢
        refine thn (he _ _ _ _ _ s9 _ H9 _ I9 q9) fun v10 s10 zq => ?_
        obtain ⟨z, H10, I10, r10, ys, hD, hl, m', hm, wa⟩ := zq
        exact thn (mt_append _ s10 _ H10 (.ref s2.heap.objs.size) [z] (.ref s2.heap.objs.size) [v10] (fun _ H' => H' = upd H10 s2.heap.objs.size (.lst (ys ++ [z]))) I10 rfl (.cons r10 .nil) ⟨_, ys, z, rfl, rfl, hD, hl, rfl⟩)
          fun _ s11 ⟨_, H11, I11, _, e11⟩ => again I11 hm (by rw [e11]; exact wa)
  subst hs3
  exact codeAny_compStart_list loop (T.self _ 0 _ _ _ tn4 loop)
end
end L2
namespace L2
open PySem PySem.Spec PyProof.Rows
section
variable {prog : Program} {w : World} {A : Around} {E : Value → Shared → Prop} {u : Shared}
theorem drawT {j q : Addr} {k : Nat} {vals : Array Value} {v : Value} {R : Value → Shared → Prop} (a1 : u.heap.IsTupleIter j q k) (a2 : u.heap.IsTuple q vals) (a3 : vals[k]? = some v)
    (hR : ∀ g, g.IsTupleIter j q (k + 1) → Heap.SameBut j u.heap g → R v { u with heap := g }) : wpAny (model prog w) A (Builtin.SmallTypes.nextOf (.ref j)) R E u := by
  obtain ⟨o, b1, b2, b3⟩ := id a1
  obtain ⟨p, c1, c0, m, c2⟩ := a2
  have ty := a1.typeIs
  unfold Builtin.SmallTypes.nextOf
  refine wpAny_bind (wpAny_callSpecial?_slot ty F.slot_tuple_iterator_next (wpAny_call_entry F.slot_tuple_iterator_next ty F.entry_tuple_iterator_next ?_ (F.args_tuple_iterator_next_1 _)))
  show wpAny (model prog w) _ (field (.ref j) 0 >>= _) _ _ u
  refine wpAny_bind (wpAny_field b1 b3 (x := .ref q) rfl ?_)
  have nn : ¬ (Value.ref q == Value.none) = true := Bool.false_ne_true
  show wpAny (model prog w) _ (if (Value.ref q == Value.none) = true then _ else _) _ _ u
  rw [if_neg nn]
  show wpAny (model prog w) _ (field (.ref j) 1 >>= _) _ _ u
  refine wpAny_bind (wpAny_field b1 b3 (x := .int k 0) rfl ?_)
  show wpAny (model prog w) _ (seqItems? (.ref q) >>= _) _ _ u
  refine wpAny_bind (wpAny_seqItems c1 c2 ?_)
  simp only [Int.toNat_natCast, a3]
  have kept : ∀ f : Array Value → Array Value, (u.heap.update j (Obj.mapFields f)).get? j = some (Obj.mapFields f o) := fun f => Heap.get?_update_self _ b1 (Obj.isFreed_of_fields (Obj.data_mapFields b3 _))
  refine wpAny_bind (wpAny_setField b1 b3 (by simp) (wpAny_pure ⟨v, rfl, wpAny_pure (hR _ ⟨_, kept _, ?_, ?_⟩ (Heap.SameBut.update ..))⟩))
  · rw [Obj.cls_mapFields]; exact b2
  · rw [Obj.data_mapFields b3]; simp [rawInt]
theorem drawT_end {j q : Addr} {k : Nat} {vals : Array Value} {R : Value → Shared → Prop} (hh : A.handled = none) (a1 : u.heap.IsTupleIter j q k) (a2 : u.heap.IsTuple q vals) (a3 : vals[k]? = none)
    (hE : ∀ g e, Heap.ExtBut j u.heap g → (∃ o, g.get? e = some o ∧ o.cls = .type "StopIteration") → E (.ref e) { u with heap := g }) : wpAny (model prog w) A (Builtin.SmallTypes.nextOf (.ref j)) R E u := by
  obtain ⟨o, b1, b2, b3⟩ := id a1
  obtain ⟨p, c1, c0, m, c2⟩ := a2
  have ty := a1.typeIs
  unfold Builtin.SmallTypes.nextOf
  refine wpAny_bind (wpAny_callSpecial?_slot ty F.slot_tuple_iterator_next (wpAny_call_entry F.slot_tuple_iterator_next ty F.entry_tuple_iterator_next ?_ (F.args_tuple_iterator_next_1 _)))
  show wpAny (model prog w) _ (field (.ref j) 0 >>= _) _ _ u
  refine wpAny_bind (wpAny_field b1 b3 (x := .ref q) rfl ?_)
  have nn : ¬ (Value.ref q == Value.none) = true := Bool.false_ne_true
  show wpAny (model prog w) _ (if (Value.ref q == Value.none) = true then _ else _) _ _ u
  rw [if_neg nn]
  show wpAny (model prog w) _ (field (.ref j) 1 >>= _) _ _ u
  refine wpAny_bind (wpAny_field b1 b3 (x := .int k 0) rfl ?_)
  show wpAny (model prog w) _ (seqItems? (.ref q) >>= _) _ _ u
  refine wpAny_bind (wpAny_seqItems c1 c2 ?_)
  simp only [Int.toNat_natCast, a3]
  refine wpAny_bind (wpAny_rule (wpAny_bind (wpAny_setField b1 b3 (by simp) ?_)))
  show wpAny (model prog w) _ (newExc (.type "StopIteration") [] >>= _) _ _ _
  refine wpAny_bind ?_
  unfold newExc newTuple
  refine wpAny_bind (wpAny_newObj_type ?_ (by size_fits))
  refine wpAny_bind (m := firstArgMember _ _) (wpAny_of_eq (a := Value.none) (by simp only [firstArgMember]; rfl) (wpAny_newObj_type ?_ (by size_fits)))
  refine wpAny_raiseNew_none ?_ ?_
  · exact hh
  · exact hE _ _ (((Heap.SameBut.update ..).extBut.push _).push _) ⟨_, Heap.get?_push_size _ rfl, rfl⟩
theorem zipT_item {z ti to j1 j2 q1 q2 : Addr} {k1 k2 : Nat} {xs ys : Array Value} {x y a b : Value} {R : Option Value → Shared → Prop} (D : ZipApart z ti to j1 j2 q1 q2) (g1 : IsZip u.heap z ti to .none) (g2 : IsPair u.heap ti (.ref j1) (.ref j2)) (g3 : IsPair u.heap to a b)
    (t1 : u.heap.IsTupleIter j1 q1 k1) (t2 : u.heap.IsTupleIter j2 q2 k2) (v1 : u.heap.IsTuple q1 xs) (v2 : u.heap.IsTuple q2 ys) (hx : xs[k1]? = some x) (hy : ys[k2]? = some y)
    (hR : ∀ g, IsZip g z ti to (rawInt u.heap.objs.size) → IsPair g to x y → g.IsTupleIter j1 q1 (k1 + 1) → g.IsTupleIter j2 q2 (k2 + 1) → IsPair g u.heap.objs.size x y →
      (∀ c o, c ≠ z → c ≠ to → c ≠ j1 → c ≠ j2 → u.heap.get? c = some o → g.get? c = some o) → R (some (.ref u.heap.objs.size)) { u with heap := g }) : wpAny (model prog w) A (pyNext (.ref z)) R E u := by
  have ty : u.TypeIs (.ref z) "zip" := ⟨_, g1, rfl⟩
  unfold pyNext
  refine wpAny_bind (wpAny_attempt (wpAny_callSpecial?_slot ty F.slot_zip_next (wpAny_call_entry F.slot_zip_next ty F.entry_zip_next ?_ (F.args_zip_next_1 _))))
  show wpAny (model prog w) _ (field (.ref z) 2 >>= _) _ _ u
  refine wpAny_bind (wpAny_field g1 rfl (x := .bool false) rfl ?_)
  show wpAny (model prog w) _ (field (.ref z) 3 >>= _) _ _ u
  refine wpAny_bind (wpAny_field g1 rfl (x := .ref ti) rfl (wpAny_bind (wpAny_seqItems g2 rfl ?_)))
  show wpAny (model prog w) _ (Builtin.SmallTypes.ownedTupleIsFree (.ref z) >>= _) _ _ u
  refine wpAny_bind ?_
  unfold Builtin.SmallTypes.ownedTupleIsFree
  refine wpAny_bind (wpAny_field g1 rfl (x := .none) rfl (wpAny_pure ?_))
  simp only [if_true]
  refine wpAny_bind (wpAny_rule (wpAny_bind (wpAny_field g1 rfl (x := .ref to) rfl (wpAny_bind (wpAny_setField_rec g1 (by simp) fun m1 y1 d1 => ?_)))))
  have z1 : IsZip m1 z ti to .ellipsis := y1
  refine wpAny_bind ?_
  simp only [List.zipIdx_cons, List.zipIdx_nil, List.forIn_cons, List.forIn_nil]
  refine wpAny_bind (wpAny_bind (wpAny_onRaise ?_))
  show wpAny (model prog w) _ (Builtin.SmallTypes.nextOf (.ref j1) >>= _) _ _ _
  refine wpAny_bind (drawT (t1.extBut d1.extBut D.i1z) (v1.extBut d1.extBut D.l1z) hx fun m2 y2 d2 => wpAny_pure ?_)
  have o2 : IsPair m2 to a b := d2.extBut _ _ D.TOi1 (d1.extBut _ _ D.TOz g3)
  refine wpAny_bind (wpAny_seqItems o2 rfl (wpAny_bind (wpAny_updateSeq_pair o2 fun m3 y3 d3 => wpAny_bind (wpAny_letGo (wpAny_pure ?_)))))
  have o3 : IsPair m3 to x b := y3
  refine wpAny_bind (wpAny_bind (wpAny_onRaise ?_))
  show wpAny (model prog w) _ (Builtin.SmallTypes.nextOf (.ref j2) >>= _) _ _ _
  have w2 := ((t2.extBut d1.extBut D.i2z).extBut d2.extBut D.i12.symm).extBut d3.extBut D.TOi2.symm
  have x2 := ((v2.extBut d1.extBut D.l2z).extBut d2.extBut D.l2i1).extBut d3.extBut D.l2TO
  refine wpAny_bind (drawT w2 x2 hy fun m4 y4 d4 => wpAny_pure ?_)
  have o4 : IsPair m4 to x b := d4.extBut _ _ D.TOi2 o3
  refine wpAny_bind (wpAny_seqItems o4 rfl (wpAny_bind (wpAny_updateSeq_pair o4 fun m5 y5 d5 => wpAny_bind (wpAny_letGo (wpAny_pure (wpAny_pure ?_))))))
  have o5 : IsPair m5 to x y := y5
  refine wpAny_bind (wpAny_seqItems o5 rfl (wpAny_bind (wpAny_newTuple ?_)))
  have sz : m5.objs.size = u.heap.objs.size := by rw [d5.1, d4.1, d3.1, d2.1, d1.1]
  have z5 : IsZip m5 z ti to .ellipsis := d5.extBut _ _ D.TOz.symm (d4.extBut _ _ D.i2z.symm (d3.extBut _ _ D.TOz.symm (d2.extBut _ _ D.i1z.symm z1)))
  have kp : ∀ c o, c ≠ z → c ≠ to → c ≠ j1 → c ≠ j2 → u.heap.get? c = some o → m5.get? c = some o := fun c o n1 n2 n3 n4 e => d5.extBut _ _ n2 (d4.extBut _ _ n4 (d3.extBut _ _ n2 (d2.extBut _ _ n3 (d1.extBut _ _ n1 e))))
  have p1 : m5.IsTupleIter j1 q1 (k1 + 1) := ((y2.extBut d3.extBut D.TOi1.symm).extBut d4.extBut D.i12).extBut d5.extBut D.TOi1.symm
  have p2 : m5.IsTupleIter j2 q2 (k2 + 1) := y4.extBut d5.extBut D.TOi2.symm
  show wpAny (model prog w) _ (Builtin.SmallTypes.ownedTupleHandOut (.ref z) (.ref m5.objs.size) >>= _) _ _ _
  refine wpAny_bind ?_
  unfold Builtin.SmallTypes.ownedTupleHandOut
  have z6 : IsZip (m5.push { cls := .type "tuple", data := .seq #[x, y] }) z ti to .ellipsis := Heap.get?_push_of_some _ z5
  refine wpAny_bind (wpAny_setField_rec z6 (by simp) fun m7 y7 d7 => ?_)
  have z7 : IsZip m7 z ti to (rawInt m5.objs.size) := y7
  refine wpAny_setField_rec z7 (by simp) fun m8 y8 d8 => ?_
  have z8 : IsZip m8 z ti to (rawInt m5.objs.size) := y8
  have lift : ∀ c o, c ≠ z → m5.get? c = some o → m8.get? c = some o := fun c o n1 e => d8.extBut _ _ n1 (d7.extBut _ _ n1 (Heap.get?_push_of_some _ e))
  have nz : m5.objs.size ≠ z := Nat.ne_of_gt (Heap.lt_size z5)
  have np : IsPair m8 m5.objs.size x y := d8.extBut _ _ nz (d7.extBut _ _ nz (Heap.get?_push_size _ rfl))
  rw [sz] at z8 np
  refine wpAny_pure ⟨_, rfl, wpAny_pure ?_⟩
  show R (some (.ref m5.objs.size)) _
  rw [sz]
  exact hR m8 z8 (lift _ _ D.TOz o5) (p1.at fun o e => lift _ o D.i1z e) (p2.at fun o e => lift _ o D.i2z e) np fun c o n1 n2 n3 n4 e => lift c o n1 (kp c o n1 n2 n3 n4 e)
theorem zipT_end {z ti to j1 j2 q1 q2 : Addr} {k1 : Nat} {xs : Array Value} {R : Option Value → Shared → Prop} (hh : A.handled = none) (D : ZipApart z ti to j1 j2 q1 q2) (g1 : IsZip u.heap z ti to .none) (g2 : IsPair u.heap ti (.ref j1) (.ref j2))
    (t1 : u.heap.IsTupleIter j1 q1 k1) (v1 : u.heap.IsTuple q1 xs) (hx : xs[k1]? = none) (hR : ∀ g, (∀ c o, c ≠ z → c ≠ j1 → u.heap.get? c = some o → g.get? c = some o) → R none { u with heap := g }) : wpAny (model prog w) A (pyNext (.ref z)) R E u := by
  have ty : u.TypeIs (.ref z) "zip" := ⟨_, g1, rfl⟩
  unfold pyNext
  refine wpAny_bind (wpAny_attempt (wpAny_callSpecial?_slot ty F.slot_zip_next (wpAny_call_entry F.slot_zip_next ty F.entry_zip_next ?_ (F.args_zip_next_1 _))))
  show wpAny (model prog w) _ (field (.ref z) 2 >>= _) _ _ u
  refine wpAny_bind (wpAny_field g1 rfl (x := .bool false) rfl ?_)
  show wpAny (model prog w) _ (field (.ref z) 3 >>= _) _ _ u
  refine wpAny_bind (wpAny_field g1 rfl (x := .ref ti) rfl (wpAny_bind (wpAny_seqItems g2 rfl ?_)))
  show wpAny (model prog w) _ (Builtin.SmallTypes.ownedTupleIsFree (.ref z) >>= _) _ _ u
  refine wpAny_bind ?_
  unfold Builtin.SmallTypes.ownedTupleIsFree
  refine wpAny_bind (wpAny_field g1 rfl (x := .none) rfl (wpAny_pure ?_))
  simp only [if_true]
  refine wpAny_bind (wpAny_rule (wpAny_bind (wpAny_field g1 rfl (x := .ref to) rfl (wpAny_bind (wpAny_setField_rec g1 (by simp) fun m1 y1 d1 => ?_)))))
  have z1 : IsZip m1 z ti to .ellipsis := y1
  refine wpAny_bind ?_
  simp only [List.zipIdx_cons, List.zipIdx_nil, List.forIn_cons, List.forIn_nil]
  refine wpAny_bind (wpAny_bind (wpAny_onRaise ?_))
  show wpAny (model prog w) _ (Builtin.SmallTypes.nextOf (.ref j1) >>= _) _ _ _
  refine wpAny_bind (drawT_end hh (t1.extBut d1.extBut D.i1z) (v1.extBut d1.extBut D.l1z) hx fun m2 e d2 he => ?_)
  obtain ⟨oe, e1, e2⟩ := he
  have z2 : IsZip m2 z ti to .ellipsis := d2 _ _ D.i1z.symm z1
  have ne : e ≠ z := fun q => by
    subst q
    rw [z2] at e1
    cases e1
    simp at e2
  refine wpAny_setField_rec z2 (by simp) fun m3 _ d3 => ?_
  refine wpAny_bind (wpAny_isInstance (T := "StopIteration") (b := true) ⟨oe, d3.extBut _ _ ne e1, e2⟩ isSubtype_stop ?_)
  exact wpAny_pure (hR m3 fun c o n1 n3 q => d3.extBut _ _ n1 (d2 _ _ n3 (d1.extBut _ _ n1 q)))
end
noncomputable def Ity (K : PySem.W.Frag) (l1 l2 : Addr) : It where
  go := fun i H => ∃ xs ys x y, SqT K H l1 xs ∧ SqT K H l2 ys ∧ xs[i]? = some x ∧ ys[i]? = some y
  yld := fun i H v H' => ∃ x y p, (∀ xs, SqT K H l1 xs → xs[i]? = some x) ∧ (∀ ys, SqT K H l2 ys → ys[i]? = some y) ∧ H p = none ∧ H' = upd H p (.tup [x, y]) ∧ v = .ref p
  stop := fun i H => ∃ xs ys, SqT K H l1 xs ∧ SqT K H l2 ys ∧ xs.length ≤ i
theorem sq_fp {X : Cx} {pins : List (Addr × Obj)} {σ : St} {H : Hp} {s : Shared} {l : Addr} {xs : List V} (I : Inv X pins σ H s) (h : SqT X.K H l xs) (f : FpOk X pins H l) : False := by
  rcases h with (q | ⟨o, q⟩) | ⟨o, its, n, q, _⟩
  · rw [f.1] at q; cases q
  · rw [f.1] at q; cases q
  · have e := I.ok.mod.kin _ _ q
    rcases f.2.2.2.1 with z | z
    · exact I.ok.noex l o e z
    · exact absurd (Nat.lt_of_lt_of_le (Heap.lt_size e) (Nat.le_trans I.ok.bsz z)) (Nat.lt_irrefl _)
noncomputable def zipTt (n l1 l2 : Addr) (i : Nat) (h : Heap) : Prop := IsZip h (n + 4) (n + 2) (n + 3) .none ∧ IsPair h (n + 2) (.ref n) (.ref (n + 1)) ∧ (∃ a b, IsPair h (n + 3) a b) ∧ h.IsTupleIter n l1 i ∧ h.IsTupleIter (n + 1) l2 i
theorem turn_zipT {P : Program} {w : World} {K : PySem.W.Frag} {elts : List Expr} {x1} {pos : Pos} (n l1 l2 : Addr) : Turn P w K (.Tuple elts x1 pos) (Ity K l1 l2) (zipFp n) (n + 4) (zipTt n l1 l2) where
  mem := by simp [zipFp]
  obj := fun i h st b hb => by
    obtain ⟨hz, hTI, ⟨a, c, hTO⟩, ⟨o1, e1, c1, d1⟩, ⟨o2, e2, c2, d2⟩⟩ := st
    unfold zipFp at hb
    simp only [List.mem_cons, List.not_mem_nil, or_false] at hb
    rcases hb with rfl | rfl | rfl | rfl | rfl
    · exact ⟨_, hz, fun v z => by cases z⟩
    · exact ⟨_, hTI, fun v z => by cases z⟩
    · exact ⟨_, hTO, fun v z => by cases z⟩
    · exact ⟨o1, e1, fun v z => by rw [d1] at z; cases z⟩
    · exact ⟨o2, e2, fun v z => by rw [d2] at z; cases z⟩
  keep := fun i h h' st k => by
    obtain ⟨hz, hTI, ⟨a, c, hTO⟩, h1, h2⟩ := st
    exact ⟨k _ (by simp [zipFp]) _ hz, k _ (by simp [zipFp]) _ hTI, ⟨a, c, k _ (by simp [zipFp]) _ hTO⟩, h1.at fun o e => k _ (by simp [zipFp]) o e, h2.at fun o e => k _ (by simp [zipFp]) o e⟩
  item := by
    intro X hP hw hK hc i pins s σ H E I hf st hg
    subst hP hw hK
    obtain ⟨hz, hTI, ⟨a, c, hTO⟩, h1, h2⟩ := st
    obtain ⟨xs, ys, x, y, q1, q2, hx, hy⟩ := hg
    obtain ⟨its1, r1, L1, _⟩ := I.tuple q1
    obtain ⟨its2, r2, L2, _⟩ := I.tuple q2
    obtain ⟨u, hu, ru⟩ := r1.get hx
    obtain ⟨v, hv, rv⟩ := r2.get hy
    have D : ZipApart (n + 4) (n + 2) (n + 3) n (n + 1) l1 l2 := zipApart_of (fun z => sq_fp I q1 (hf _ z)) (fun z => sq_fp I q2 (hf _ z))
    refine zipT_item D hz hTI hTO h1 h2 (show s.heap.IsTuple l1 its1.toArray from L1) (show s.heap.IsTuple l2 its2.toArray from L2) (x := u) (y := v) (by simpa using hu) (by simpa using hv) fun h' a1 a2 a3 a4 a5 hk => ?_
    have I1 : Inv X pins σ H { s with heap := h' } := I.turnedL (ch := zipFp n) (t' := s.toks) (fun b o hb e => by
      unfold zipFp at hb
      simp only [List.mem_cons, List.not_mem_nil, or_false, not_or] at hb
      exact hk b o hb.1 hb.2.2.1 hb.2.2.2.1 hb.2.2.2.2 e) hf
    refine ⟨.ref s.heap.objs.size, rfl, wpAny_letOwnedTupleGo_zip a1 fun h2' hz' hs' => ?_⟩
    have I2 : Inv X pins σ H { s with heap := h2' } := I1.turnedL (s := { s with heap := h' }) (ch := zipFp n) (t' := s.toks) (fun b o hb e => by
      unfold zipFp at hb
      simp only [List.mem_cons, List.not_mem_nil, or_false, not_or] at hb
      exact hs'.extBut _ _ hb.1 e) hf
    have fresh : H s.heap.objs.size = none := I.hok.fresh (Nat.le_refl _)
    have pz : s.heap.objs.size ≠ n + 4 := Nat.ne_of_gt (Heap.lt_size hz)
    have I3 : Inv X pins σ (upd H s.heap.objs.size (.tup [x, y])) { s with heap := h2' } := by
      refine I2.track fresh ?_ (Nat.ne_of_gt I.lt) (fun z c' e e2' => ?_) (fun p hp e2' => ?_) ?_
      · cases q : X.s₀.heap.get? s.heap.objs.size with
        | none => rfl
        | some o => exact absurd (Nat.lt_of_lt_of_le (Heap.lt_size q) I.sz) (Nat.lt_irrefl _)
      · obtain ⟨v', q⟩ := I.cell z c' e
        exact absurd (e2' ▸ q.lt) (Nat.lt_irrefl _)
      · exact absurd (e2' ▸ Heap.lt_size (I.pin p hp).1) (Nat.lt_irrefl _)
      · exact ⟨by show 2 ≤ sizeLine; decide, [u, v], .cons ru (.cons rv .nil), ⟨_, hs'.extBut _ _ pz a5, rfl, _, rfl⟩⟩
    have hpn : ∀ b ∈ zipFp n, b ≠ s.heap.objs.size := fun b hb e => by
      have q3 : ∃ o, s.heap.get? b = some o := by
        unfold zipFp at hb
        simp only [List.mem_cons, List.not_mem_nil, or_false] at hb
        obtain ⟨o1, g1, _⟩ := h1
        obtain ⟨o2, g2, _⟩ := h2
        rcases hb with rfl | rfl | rfl | rfl | rfl
        · exact ⟨_, hz⟩
        · exact ⟨_, hTI⟩
        · exact ⟨_, hTO⟩
        · exact ⟨_, g1⟩
        · exact ⟨_, g2⟩
      obtain ⟨o, q3⟩ := q3
      exact absurd (e ▸ Heap.lt_size q3) (Nat.lt_irrefl _)
    have hTI' : IsPair h' (n + 2) (.ref n) (.ref (n + 1)) := hk _ _ D.TIz D.TITO D.TIi1 D.TIi2 hTI
    refine ⟨.ref s.heap.objs.size, _, I3, rfl, ⟨x, y, _, fun zs hz2 => by rw [I.tuple_inj hz2 q1]; exact hx, fun zs hz2 => by rw [I.tuple_inj hz2 q2]; exact hy, fresh, rfl, rfl⟩, ⟨hz', hs'.extBut _ _ D.TIz hTI', ⟨_, _, hs'.extBut _ _ D.TOz a2⟩, a3.extBut hs'.extBut D.i1z, a4.extBut hs'.extBut D.i2z⟩, fun b hb => ?_⟩
    rw [upd_ne (hpn b hb)]; exact (hf b hb).1
  done := by
    intro X hP hw hK hc i pins s σ H E I hf st hg
    subst hP hw hK
    obtain ⟨hz, hTI, ⟨a, c, hTO⟩, h1, h2⟩ := st
    obtain ⟨xs, ys, q1, q2, hl⟩ := hg
    obtain ⟨its1, r1, L1, _⟩ := I.tuple q1
    have hlen := r1.length
    have D : ZipApart (n + 4) (n + 2) (n + 3) n (n + 1) l1 l2 := zipApart_of (fun z => sq_fp I q1 (hf _ z)) (fun z => sq_fp I q2 (hf _ z))
    refine zipT_end (I.ok.hd hc) D hz hTI h1 (show s.heap.IsTuple l1 its1.toArray from L1) (by rw [List.getElem?_toArray, List.getElem?_eq_none (by lia)]) fun h' hk => ⟨rfl, I.turnedL (ch := zipFp n) (t' := s.toks) (fun b o hb e => ?_) hf⟩
    unfold zipFp at hb
    simp only [List.mem_cons, List.not_mem_nil, or_false, not_or] at hb
    exact hk b o hb.1 hb.2.2.2.1 e
  self := fun _ _ _ _ _ st h => wpAny_pyIter_zip st.1 h
theorem zipT_made (l1 l2 : Addr) (xs ys : Array Value) : Meets (Builtin.«zip.__new__» ⟨[.type "zip", .ref l1, .ref l2], []⟩) (fun _ R s => s.heap.IsTuple l1 xs ∧ s.heap.IsTuple l2 ys ∧
    R (.ok (.ret (.ref (s.heap.objs.size + 4)))) { s with heap := ((((s.heap.push { cls := .type "tuple_iterator", data := .fields #[.ref l1, .int 0 0] }).push { cls := .type "tuple_iterator", data := .fields #[.ref l2, .int 0 0] }).push { cls := .type "tuple", data := .seq #[.ref s.heap.objs.size, .ref (s.heap.objs.size + 1)] }).push { cls := .type "tuple", data := .seq #[.none, .none] }).push { cls := .type "zip", data := .fields #[.none, .bool false, .bool false, .ref (s.heap.objs.size + 2), .ref (s.heap.objs.size + 3)] } }) :=
  .of_wp fun prog w A R s h => by
    obtain ⟨m, g, d, tk, os⟩ := s
    obtain ⟨a1, a2, h⟩ := h
    have sub := sub_zip
    have b1 : Heap.IsTuple (Shared.heap ⟨m, g, d, tk, os⟩) l1 xs := a1
    have b2 : Heap.IsTuple (Shared.heap ⟨m.push { cls := .type "tuple_iterator", data := .fields #[.ref l1, .int 0 0] }, g, d, tk, os⟩) l2 ys := by
      obtain ⟨o, e, r⟩ := a2
      exact ⟨o, Heap.get?_push_of_some _ e, r⟩
    have z1 : (m.push { cls := .type "tuple_iterator", data := .fields #[.ref l1, .int 0 0] }).objs.size = m.objs.size + 1 := Heap.size_push ..
    wp_walk using wpAny_pyIter_tuple b1, wpAny_pyIter_tuple b2
    refine ⟨_, rfl, ?_⟩
    simp only [Heap.size_push]
    exact h
section
variable {X : Cx}
noncomputable def iZipT (K : PySem.W.Frag) (ta : TA) : TI := fun σ H R => ta σ H fun vs H1 => ∃ l1 l2 xs ys, vs = [.ref l1, .ref l2] ∧ SqT K H1 l1 xs ∧ SqT K H1 l2 ys ∧ R (Ity K l1 l2) H1
theorem pi_zipT {a b : Expr} {ta : TA} {p pos tpos : Pos} {elts : List Expr} {x1} (hg : Gl X "zip") (hm : X.mg "zip" = none) (ha : PA X [a, b] ta) (hs : starEach [a, b] X.env = [(false, eval a X.env), (false, eval b X.env)]) (hs2 : starEach [b] X.env = [(false, eval b X.env)]) :
    PI X (.Tuple elts x1 tpos) (.Call (.Name "zip" p) [a, b] [] pos) (iZipT X.K ta) := by
  intro pins s σ H R I h
  refine Call_ (ld_blt I hg hm boot_zip (PyProof.Rows.callWith_type1 (thn (ha pos pins s σ H _ I h) fun us s1 ⟨vs, H1, I1, r1, q1⟩ => ?_) (by rw [hs, hs2]) (by rw [hs2]; rfl)))
  obtain ⟨l1, l2, xs, ys, e, q1, q2, q⟩ := q1
  subst e
  cases r1 with
  | cons r rr =>
    cases rr with
    | cons r' rr =>
      cases rr
      cases r
      cases r'
      obtain ⟨its1, v1, e1, _⟩ := I1.tuple q1
      obtain ⟨its2, v2, e2, _⟩ := I1.tuple q2
      have T1 : s1.heap.IsTuple l1 its1.toArray := e1
      have T2 : s1.heap.IsTuple l2 its2.toArray := e2
      refine callType_new F.called_zip (by decide) (F.typeCall_zip_2 _ _) (F.newCall_zip_2 _ _) (fun obj => F.args_object_init_3 obj _ _) F.entry_zip_new (zipT_made l1 l2 its1.toArray its2.toArray) ⟨T1, T2, ?_⟩
      have z1 : ∀ (m : Heap) (o : Obj), (m.push o).objs.size = m.objs.size + 1 := fun m o => Heap.size_push ..
      have hk : ∀ b o, s1.heap.get? b = some o → ∀ o1 o2 o3 o4 o5, (((((s1.heap.push o1).push o2).push o3).push o4).push o5).get? b = some o := fun b o e o1 o2 o3 o4 o5 => Heap.get?_push_of_some _ (Heap.get?_push_of_some _ (Heap.get?_push_of_some _ (Heap.get?_push_of_some _ (Heap.get?_push_of_some _ e))))
      have at0 : ∀ o1 o2 o3 o4 o5 : Obj, o1.isFreed = false → (((((s1.heap.push o1).push o2).push o3).push o4).push o5).get? s1.heap.objs.size = some o1 := fun o1 o2 o3 o4 o5 f => Heap.get?_push_of_some _ (Heap.get?_push_of_some _ (Heap.get?_push_of_some _ (Heap.get?_push_of_some _ (Heap.get?_push_size _ f))))
      have at1 : ∀ o1 o2 o3 o4 o5 : Obj, o2.isFreed = false → (((((s1.heap.push o1).push o2).push o3).push o4).push o5).get? (s1.heap.objs.size + 1) = some o2 := fun o1 o2 o3 o4 o5 f => by rw [← z1 s1.heap o1]; exact Heap.get?_push_of_some _ (Heap.get?_push_of_some _ (Heap.get?_push_of_some _ (Heap.get?_push_size _ f)))
      have at2 : ∀ o1 o2 o3 o4 o5 : Obj, o3.isFreed = false → (((((s1.heap.push o1).push o2).push o3).push o4).push o5).get? (s1.heap.objs.size + 2) = some o3 := fun o1 o2 o3 o4 o5 f => by
        have e : s1.heap.objs.size + 2 = ((s1.heap.push o1).push o2).objs.size := by rw [z1, z1]
        rw [e]; exact Heap.get?_push_of_some _ (Heap.get?_push_of_some _ (Heap.get?_push_size _ f))
      have at3 : ∀ o1 o2 o3 o4 o5 : Obj, o4.isFreed = false → (((((s1.heap.push o1).push o2).push o3).push o4).push o5).get? (s1.heap.objs.size + 3) = some o4 := fun o1 o2 o3 o4 o5 f => by
        have e : s1.heap.objs.size + 3 = (((s1.heap.push o1).push o2).push o3).objs.size := by rw [z1, z1, z1]
        rw [e]; exact Heap.get?_push_of_some _ (Heap.get?_push_size _ f)
      have at4 : ∀ o1 o2 o3 o4 o5 : Obj, o5.isFreed = false → (((((s1.heap.push o1).push o2).push o3).push o4).push o5).get? (s1.heap.objs.size + 4) = some o5 := fun o1 o2 o3 o4 o5 f => by
        have e : s1.heap.objs.size + 4 = ((((s1.heap.push o1).push o2).push o3).push o4).objs.size := by rw [z1, z1, z1, z1]
        rw [e]; exact Heap.get?_push_size _ f
      have g1 := at4 { cls := .type "tuple_iterator", data := .fields #[.ref l1, .int 0 0] } { cls := .type "tuple_iterator", data := .fields #[.ref l2, .int 0 0] } { cls := .type "tuple", data := .seq #[.ref s1.heap.objs.size, .ref (s1.heap.objs.size + 1)] } { cls := .type "tuple", data := .seq #[.none, .none] } { cls := .type "zip", data := .fields #[.none, .bool false, .bool false, .ref (s1.heap.objs.size + 2), .ref (s1.heap.objs.size + 3)] } rfl
      refine ⟨⟨_, g1, rfl⟩, ?_⟩
      refine wpAny_pyIter_zip (s := { s1 with heap := _ }) g1 ?_
      refine ⟨s1.heap.objs.size + 4, zipFp s1.heap.objs.size, zipTt s1.heap.objs.size l1 l2, Ity X.K l1 l2, H1, rfl, I1.kept (t' := s1.toks) fun b o e => hk b o e _ _ _ _ _, turn_zipT _ _ _, ⟨g1, at2 _ _ _ _ _ rfl, ⟨_, _, at3 _ _ _ _ _ rfl⟩, ⟨_, at0 _ _ _ _ _ rfl, rfl, rfl⟩, ⟨_, at1 _ _ _ _ _ rfl, rfl, rfl⟩⟩, fun b hb => ?_, q⟩
      have hge : s1.heap.objs.size ≤ b := by
        unfold zipFp at hb
        simp only [List.mem_cons, List.not_mem_nil, or_false] at hb
        rcases hb with rfl | rfl | rfl | rfl | rfl
        · exact Nat.le_add_right _ 4
        · exact Nat.le_add_right _ 2
        · exact Nat.le_add_right _ 3
        · exact Nat.le_refl _
        · exact Nat.le_add_right _ 1
      exact I1.fpOk (H' := H1) hge (I1.hok.fresh hge)
theorem qi_zipT {a b : Expr} {ta : TA} {p pos tpos : Pos} {elts : List Expr} {x1} (hg : Gl X "zip") (hm : X.mg "zip" = none) (ha : QA X [a, b] ta) (hs : starEach [a, b] X.env = [(false, eval a X.env), (false, eval b X.env)] := by rfl) (hs2 : starEach [b] X.env = [(false, eval b X.env)] := by rfl) :
    QI X (.Tuple elts x1 tpos) (.Call (.Name "zip" p) [a, b] [] pos) (iZipT X.K ta) := ⟨pi_zipT hg hm ha.run hs hs2⟩
end
theorem for_zipT {K : PySem.W.Frag} {l1 l2 : Addr} {xs ys : List V} {g : TG} {tb : TS} {D : Ends} {σ : St} {H : Hp} (Pv : Nat → St → Hp → Prop) (h0 : Pv 0 σ H) (hl : ∀ i σ H, Pv i σ H → SqT K H l1 xs ∧ SqT K H l2 ys) (hxy : xs.length = ys.length)
    (hs : ∀ i x y σ H p, xs[i]? = some x → ys[i]? = some y → Pv i σ H → H p = none → g (.ref p) σ (upd H p (.tup [x, y])) fun σ2 H2 => tb { D with nx := Pv (i + 1), ct := Pv (i + 1), bk := D.nx } σ2 H2) (hd : ∀ σ H, Pv xs.length σ H → D.nx σ H) :
    ∃ W : Nat → Nat → St → Hp → Prop, (∃ m, W 0 m σ H) ∧ ∀ i m σ H, W i m σ H →
      ((Ity K l1 l2).stop i H ∧ D.nx σ H) ∨ ((Ity K l1 l2).go i H ∧ ∃ N : St → Hp → Prop, (∀ σ' H', N σ' H' → ∃ m', m' < m ∧ W (i + 1) m' σ' H') ∧ ∀ x H', (Ity K l1 l2).yld i H x H' → g x σ H' fun σ2 H2 => tb { D with nx := N, ct := N, bk := D.nx } σ2 H2) := by
  refine ⟨fun i m σ H => m = xs.length - i ∧ i ≤ xs.length ∧ Pv i σ H, ⟨xs.length, by simp, Nat.zero_le _, h0⟩, ?_⟩
  rintro i m σ H ⟨rfl, hi, p⟩
  obtain ⟨q1, q2⟩ := hl i σ H p
  by_cases hlt : i < xs.length
  · refine .inr ⟨⟨xs, ys, xs[i], ys[i], q1, q2, by simp [hlt], by simp [show i < ys.length by lia]⟩, Pv (i + 1), fun σ' H' p' => ⟨xs.length - (i + 1), by lia, rfl, hlt, p'⟩, fun x H' y => ?_⟩
    obtain ⟨x', y', p', g1, g2, hn, rfl, rfl⟩ := y
    exact hs i x' y' σ H p' (g1 _ q1) (g2 _ q2) p hn
  · have e : i = xs.length := by lia
    subst e
    exact .inl ⟨⟨xs, ys, q1, q2, Nat.le_refl _⟩, hd σ H p⟩
end L2
namespace L2
open PySem PySem.Spec PyProof.Rows
section
variable {κ : Type} [DecidableEq κ]
noncomputable def valV (kvs : List (κ × V)) (k : κ) : Option V := (kvs.find? fun kv => decide (kv.1 = k)).map (·.2)
noncomputable def putK (kvs : List (κ × V)) (k : κ) (v : V) : List (κ × V) :=
  if (kvs.any fun kv => decide (kv.1 = k)) = true then kvs.map (fun kv => if kv.1 = k then (kv.1, v) else kv) else kvs ++ [(k, v)]
noncomputable def dropK (kvs : List (κ × V)) (k : κ) : List (κ × V) := kvs.filter fun kv => decide (kv.1 ≠ k)
theorem valV_pos {p : κ × V} {r : List (κ × V)} {k : κ} (e : p.1 = k) : valV (p :: r) k = some p.2 := by simp [valV, List.find?_cons, e]
theorem valV_neg {p : κ × V} {r : List (κ × V)} {k : κ} (e : ¬ p.1 = k) : valV (p :: r) k = valV r k := by simp [valV, List.find?_cons, e]
theorem valV_any (k : κ) : ∀ kvs : List (κ × V), (kvs.any fun kv => decide (kv.1 = k)) = (valV kvs k).isSome
  | [] => rfl
  | p :: r => by
    rw [List.any_cons]
    by_cases e : p.1 = k
    · simp only [valV_pos e, decide_eq_true e, Bool.true_or, Option.isSome_some]
    · rw [valV_neg e, decide_eq_false e, Bool.false_or]; exact valV_any k r
theorem valV_map (k j : κ) (y : V) : ∀ kvs : List (κ × V), valV (kvs.map fun kv => if kv.1 = k then (kv.1, y) else kv) j = (valV kvs j).map fun x => if j = k then y else x
  | [] => rfl
  | p :: r => by
    have ih := valV_map k j y r
    rw [List.map_cons]
    by_cases h : p.1 = k
    · rw [if_pos h]
      by_cases e : p.1 = j
      · rw [valV_pos (p := (p.1, y)) e, valV_pos e, Option.map_some, if_pos (e.symm.trans h)]
      · rw [valV_neg (p := (p.1, y)) e, valV_neg e, ih]
    · rw [if_neg h]
      by_cases e : p.1 = j
      · rw [valV_pos (p := p) e, valV_pos e, Option.map_some, if_neg (fun z => h (e.trans z))]
      · rw [valV_neg (p := p) e, valV_neg e, ih]
theorem valV_snoc (k j : κ) (y : V) : ∀ kvs : List (κ × V), valV kvs k = none → valV (kvs ++ [(k, y)]) j = if j = k then some y else valV kvs j
  | [], _ => by
    by_cases e : k = j
    · rw [if_pos e.symm]; exact valV_pos (p := (k, y)) e
    · rw [if_neg (fun z => e z.symm)]; exact valV_neg (p := (k, y)) e
  | p :: r, hn => by
    rw [List.cons_append]
    have hk : ¬ p.1 = k := fun z => by rw [valV_pos z] at hn; cases hn
    rw [valV_neg hk] at hn
    have ih := valV_snoc k j y r hn
    by_cases e : p.1 = j
    · rw [valV_pos e, valV_pos e, if_neg (fun z => hk (e.trans z))]
    · rw [valV_neg e, valV_neg e, ih]
theorem valV_put (kvs : List (κ × V)) (k j : κ) (y : V) : valV (putK kvs k y) j = if j = k then some y else valV kvs j := by
  unfold putK
  by_cases a : (kvs.any fun kv => decide (kv.1 = k)) = true
  · rw [if_pos a, valV_map]
    rw [valV_any] at a
    by_cases e : j = k
    · obtain ⟨x, hx⟩ := Option.isSome_iff_exists.mp a
      rw [if_pos e, e, hx, Option.map_some, if_pos rfl]
    · rw [if_neg e]
      cases valV kvs j with
      | none => rfl
      | some x => rw [Option.map_some, if_neg e]
  · rw [if_neg a]
    refine valV_snoc k j y kvs ?_
    rw [valV_any] at a
    cases q : valV kvs k with
    | none => rfl
    | some x => rw [q] at a; exact (a rfl).elim
theorem length_putK (kvs : List (κ × V)) (k : κ) (v : V) : (putK kvs k v).length ≤ kvs.length + 1 := by
  unfold putK
  split
  · rw [List.length_map]; lia
  · rw [List.length_append, List.length_cons, List.length_nil]; lia
theorem putK_new {kvs : List (κ × V)} {k : κ} (v : V) (h : valV kvs k = none) : putK kvs k v = kvs ++ [(k, v)] := by
  unfold putK
  rw [valV_any, h]
  exact if_neg (by decide)
theorem RelO.isSome_eq {o : Option V} {u : Option Value} (r : RelO o u) : o.isSome = u.isSome := by
  cases o with
  | none => cases u with
    | none => rfl
    | some _ => exact (show False from r).elim
  | some _ => cases u with
    | none => exact (show False from r).elim
    | some _ => rfl
theorem RelO.getD {o : Option V} {u : Option Value} {d : V} {d' : Value} (r : RelO o u) (rd : RelV d d') : RelV (o.getD d) (u.getD d') := by
  cases o with
  | none => cases u with
    | none => exact rd
    | some _ => exact (show False from r).elim
  | some _ => cases u with
    | none => exact (show False from r).elim
    | some _ => exact r
theorem KV.val {kvs : List (κ × V)} {vs : List (κ × Value)} (r : KV kvs vs) (k : κ) : RelO (valV kvs k) (valueAt vs k) := by
  unfold KV at r
  induction r with
  | nil => exact True.intro
  | @cons p q ps qs h t ih =>
    obtain ⟨h1, h2⟩ := h
    by_cases e : p.1 = k
    · have e' : q.1 = k := h1.symm.trans e
      have b : valueAt (q :: qs) k = some q.2 := by simp [valueAt, List.find?_cons, e']
      rw [valV_pos e, b]; exact h2
    · have e' : ¬ q.1 = k := fun z => e (h1.trans z)
      have b : valueAt (q :: qs) k = valueAt qs k := by simp [valueAt, List.find?_cons, e']
      rw [valV_neg e, b]; exact ih
theorem KV.any {kvs : List (κ × V)} {vs : List (κ × Value)} (r : KV kvs vs) (k : κ) : (kvs.any fun kv => decide (kv.1 = k)) = vs.any fun kv => decide (kv.1 = k) := by
  unfold KV at r
  induction r with
  | nil => rfl
  | cons h t ih => rw [List.any_cons, List.any_cons, ih, h.1]
theorem KV.repl {kvs : List (κ × V)} {vs : List (κ × Value)} (r : KV kvs vs) (k : κ) {y : V} {u : Value} (ry : RelV y u) :
    KV (kvs.map fun kv => if kv.1 = k then (kv.1, y) else kv) (vs.map fun kv => if kv.1 = k then (kv.1, u) else kv) := by
  unfold KV at r ⊢
  induction r with
  | nil => exact .nil
  | @cons p q ps qs h t ih =>
    rw [List.map_cons, List.map_cons]
    refine .cons ?_ ih
    obtain ⟨h1, h2⟩ := h
    by_cases e : p.1 = k
    · rw [if_pos e, if_pos (h1.symm.trans e)]; exact ⟨h1, ry⟩
    · rw [if_neg e, if_neg (fun z => e (h1.trans z))]; exact ⟨h1, h2⟩
theorem KV.put {kvs : List (κ × V)} {vs : List (κ × Value)} (r : KV kvs vs) (k : κ) {y : V} {u : Value} (ry : RelV y u) : KV (putK kvs k y) (stored vs k u) := by
  unfold putK stored
  rw [r.any k]
  by_cases e : (vs.any fun kv => decide (kv.1 = k)) = true
  · rw [if_pos e, if_pos e]; exact r.repl k ry
  · rw [if_neg e, if_neg e]; exact Paired.snoc r ⟨rfl, ry⟩
theorem KV.drop {kvs : List (κ × V)} {vs : List (κ × Value)} (r : KV kvs vs) (k : κ) : KV (dropK kvs k) (without vs k) := by
  unfold KV at r ⊢
  unfold dropK without
  induction r with
  | nil => exact .nil
  | @cons p q ps qs h t ih =>
    obtain ⟨h1, h2⟩ := h
    rw [List.filter_cons, List.filter_cons]
    by_cases e : p.1 = k
    · have a : ¬ decide (p.1 ≠ k) = true := by simp [e]
      have b : ¬ decide (q.1 ≠ k) = true := by simp [h1.symm.trans e]
      rw [if_neg a, if_neg b]; exact ih
    · have e' : ¬ q.1 = k := fun z => e (h1.trans z)
      have a : decide (p.1 ≠ k) = true := by simp [e]
      have b : decide (q.1 ≠ k) = true := by simp [e']
      rw [if_pos a, if_pos b]; exact .cons ⟨h1, h2⟩ ih
theorem KV.keys {kvs : List (κ × V)} {vs : List (κ × Value)} (r : KV kvs vs) : kvs.map (·.1) = vs.map (·.1) := by
  unfold KV at r
  induction r with
  | nil => rfl
  | cons h t ih => rw [List.map_cons, List.map_cons, ih, h.1]
theorem KV.length {kvs : List (κ × V)} {vs : List (κ × Value)} (r : KV kvs vs) : kvs.length = vs.length := Paired.length r
theorem dropK_le (kvs : List (κ × V)) (k : κ) : (dropK kvs k).length ≤ kvs.length := List.length_filter_le _ _
end
theorem kV_is {P : Program} {w : World} {k : Key} {u : Value} (r : RelV (kV k) u) : (mixKind P w).is k u = true := by
  cases k with
  | inl i => obtain ⟨t, e⟩ := (show ∃ t, u = Value.int i t from r); subst e; exact mixKind_int P w i t
  | inr x => obtain ⟨t, e⟩ := (show ∃ t, u = Value.str x t from r); subst e; exact mixKind_str P w x t
theorem items_are {P : Program} {w : World} : ∀ {ks : List Key} {us : List Value}, Vals (ks.map kV) us → ItemsAre (mixKind P w) ks us
  | [], _, r => by rw [List.map_nil] at r; cases r; exact .nil
  | k :: ks, _, r => by
    rw [List.map_cons] at r
    cases r with
    | cons h t => exact .cons (kV_is h) (items_are t)
abbrev KT (H : Hp) : List (List Key × V) → List (List Key × Addr × Value) → Prop := Paired fun p q => p.1 = q.1 ∧ H q.2.1 = some (.tup (p.1.map kV)) ∧ RelV p.2 q.2.2
theorem KT.val {H : Hp} {kvs : List (List Key × V)} {xs : List (List Key × Addr × Value)} (r : KT H kvs xs) (k : List Key) : RelO (valV kvs k) ((atKey xs k).map (·.2)) := by
  induction r with
  | nil => exact True.intro
  | @cons p q ps qs h t ih =>
    obtain ⟨h1, _, h2⟩ := h
    by_cases e : p.1 = k
    · have e' : q.1 = k := h1.symm.trans e
      have b : atKey (q :: qs) k = some q.2 := by simp [atKey, List.find?_cons, e']
      rw [valV_pos e, b]; exact h2
    · have e' : ¬ q.1 = k := fun z => e (h1.trans z)
      have b : atKey (q :: qs) k = atKey qs k := by simp [atKey, List.find?_cons, e']
      rw [valV_neg e, b]; exact ih
theorem KT.repl {H : Hp} {kvs : List (List Key × V)} {xs : List (List Key × Addr × Value)} (r : KT H kvs xs) (k : List Key) {y : V} {u : Value} (ry : RelV y u) :
    KT H (kvs.map fun kv => if kv.1 = k then (kv.1, y) else kv) (xs.map (putAt k u)) := by
  induction r with
  | nil => exact .nil
  | @cons p q ps qs h t ih =>
    rw [List.map_cons, List.map_cons]
    refine .cons ?_ ih
    obtain ⟨h1, h2, h3⟩ := h
    unfold putAt
    by_cases e : p.1 = k
    · rw [if_pos e, if_pos (h1.symm.trans e)]; exact ⟨h1, h2, ry⟩
    · rw [if_neg e, if_neg (fun z => e (h1.trans z))]; exact ⟨h1, h2, h3⟩
theorem KT.put {H : Hp} {kvs : List (List Key × V)} {xs : List (List Key × Addr × Value)} (r : KT H kvs xs) (k : List Key) {b : Addr} {y : V} {u : Value} (hb : H b = some (.tup (k.map kV))) (ry : RelV y u) :
    KT H (putK kvs k y) (storedH xs k b u) := by
  have e : (kvs.any fun kv => decide (kv.1 = k)) = (atKey xs k).isSome := by
    rw [valV_any, (r.val k).isSome_eq, Option.isSome_map]
  unfold putK storedH
  rw [e]
  by_cases q : (atKey xs k).isSome = true
  · rw [if_pos q, if_pos q]; exact r.repl k ry
  · rw [if_neg q, if_neg q]; exact Paired.snoc r ⟨rfl, hb, ry⟩
theorem KT.keeps {H H' : Hp} {kvs : List (List Key × V)} {xs : List (List Key × Addr × Value)} (r : KT H kvs xs) (ht : ∀ b ys, H b = some (.tup ys) → H' b = some (.tup ys)) : KT H' kvs xs :=
  Paired.mapP r fun _ _ z => ⟨z.1, ht _ _ z.2.1, z.2.2⟩
section
variable {P : Program} {w : World} {H : Hp} {h : Heap} {a : Addr}
theorem rd_of {u : HO} (ok : HOk P w H h) (e : Rd H a u) : ObjOk P w H h a u := e.ok ok
theorem dk_rd {kvs : List (Key × V)} (ok : HOk P w H h) (e : Rd H a (.dK kvs)) : kvs.length ≤ sizeLine ∧ (a == sysModules) = false ∧ ∃ vs, KV kvs vs ∧ h.DictOf (mixKind P w) a vs :=
  show ObjOk P w H h a (.dK kvs) from rd_of ok e
theorem dk_of {kvs : List (Key × V)} (ok : HOk P w H h) (e : H a = some (.dK kvs)) : kvs.length ≤ sizeLine ∧ (a == sysModules) = false ∧ ∃ vs, KV kvs vs ∧ h.DictOf (mixKind P w) a vs := dk_rd ok (.inl e)
theorem key_of {ks : List Key} (ok : HOk P w H h) (e : H a = some (.tup (ks.map kV))) : (tupleKind (mixKind P w)).is h ks a := by
  obtain ⟨_, its, r, o, h1, h2, n, h3⟩ := (show ObjOk P w H h a (.tup (ks.map kV)) from ok a _ e)
  exact ⟨o, its.toArray, n, h1, h2, h3, by simpa using items_are r⟩
theorem dt_rd {kvs : List (List Key × V)} (ok : HOk P w H h) (e : Rd H a (.dT kvs)) : kvs.length ≤ sizeLine ∧ (a == sysModules) = false ∧
    ∃ xs, KT H kvs xs ∧ h.DictOfH (tupleKind (mixKind P w)) a xs := by
  obtain ⟨z, y, xs, r, o, es, ep, h1, h2, h3, h4, h5⟩ := (show ObjOk P w H h a (.dT kvs) from rd_of ok e)
  refine ⟨z, y, xs, r, o, es, ep, h1, h2, h3, h4, fun x hx => ?_, h5⟩
  have all : ∀ {l : List (List Key × V)} {m : List (List Key × Addr × Value)}, KT H l m → ∀ x ∈ m, (tupleKind (mixKind P w)).is h x.1 x.2.1 := by
    intro l m q
    induction q with
    | nil => intro x hx; exact nomatch hx
    | @cons p q ps qs hq t ih =>
      intro x hx
      rcases List.mem_cons.mp hx with e | hx
      · subst e
        exact key_of ok (by rw [← hq.1]; exact hq.2.1)
      · exact ih x hx
  exact all r x hx
theorem dt_of {kvs : List (List Key × V)} (ok : HOk P w H h) (e : H a = some (.dT kvs)) : kvs.length ≤ sizeLine ∧ (a == sysModules) = false ∧
    ∃ xs, KT H kvs xs ∧ h.DictOfH (tupleKind (mixKind P w)) a xs := dt_rd ok (.inl e)
end
noncomputable def DGet (H : Hp) (a : Addr) (y : V) (r : Option V) : Prop :=
  (∃ kvs k, Rd H a (.dK kvs) ∧ y = kV k ∧ r = valV kvs k) ∨ ∃ kvs k b, Rd H a (.dT kvs) ∧ y = .ref b ∧ H b = some (.tup (k.map kV)) ∧ r = valV kvs k
noncomputable def DPut (H : Hp) (a : Addr) (y v : V) (H' : Hp) : Prop :=
  (∃ kvs k, H a = some (.dK kvs) ∧ y = kV k ∧ kvs.length < sizeLine ∧ H' = upd H a (.dK (putK kvs k v))) ∨
  ∃ kvs k b, H a = some (.dT kvs) ∧ y = .ref b ∧ H b = some (.tup (k.map kV)) ∧ kvs.length < sizeLine ∧ H' = upd H a (.dT (putK kvs k v))
theorem DGet.k {H : Hp} {a : Addr} {kvs : List (Key × V)} {k : Key} (e : H a = some (.dK kvs)) : DGet H a (kV k) (valV kvs k) := .inl ⟨kvs, k, .inl e, rfl, rfl⟩
theorem DGet.t {H : Hp} {a b : Addr} {kvs : List (List Key × V)} {k : List Key} (e : H a = some (.dT kvs)) (eb : H b = some (.tup (k.map kV))) : DGet H a (.ref b) (valV kvs k) := .inr ⟨kvs, k, b, .inl e, rfl, eb, rfl⟩
theorem DPut.k {H : Hp} {a : Addr} {kvs : List (Key × V)} {k : Key} {v : V} (e : H a = some (.dK kvs)) (hl : kvs.length < sizeLine) : DPut H a (kV k) v (upd H a (.dK (putK kvs k v))) := .inl ⟨kvs, k, e, rfl, hl, rfl⟩
theorem DPut.t {H : Hp} {a b : Addr} {kvs : List (List Key × V)} {k : List Key} {v : V} (e : H a = some (.dT kvs)) (eb : H b = some (.tup (k.map kV))) (hl : kvs.length < sizeLine) :
    DPut H a (.ref b) v (upd H a (.dT (putK kvs k v))) := .inr ⟨kvs, k, b, e, rfl, eb, hl, rfl⟩
section
variable {X : Cx} {pins : List (Addr × Obj)} {σ : St} {H : Hp} {s : Shared} {a : Addr} {y v : V} {u r : Value} {o : Option V} {A : Around} {E : Value → Shared → Prop}
theorem Inv.big (I : Inv X pins σ H s) : sysModules < s.heap.objs.size := by
  have h : mainGlobals < s.heap.objs.size := (I.mod.glob.keeps I.bk).lt
  exact Nat.lt_trans (by decide) h
theorem d_getItem {Q : Value → Shared → Prop} (hu : A.units + 1 < cLine) (I : Inv X pins σ H s) (g : DGet H a y (some v)) (ry : RelV y u) (h : ∀ w' s', Inv X pins σ H s' → RelV v w' → Q w' s') :
    wpAny (model X.prog X.w) A (getItem (.ref a) u) Q E s := by
  rcases g with ⟨kvs, k, e, ey, l⟩ | ⟨kvs, k, b, e, ey, eb, l⟩
  · subst ey
    obtain ⟨z, hd, vs, rel, dd⟩ := dk_rd I.hok e
    obtain ⟨w', hw, rw'⟩ := RelO.some_of (v := v) (o := valueAt vs k) (by rw [l]; exact rel.val k)
    exact wpAny_getItem_of (kV_is ry) dd.mapOf hw (h w' _ (I.tok _) rw')
  · subst ey
    cases (show u = Value.ref b from ry)
    obtain ⟨z, hd, xs, rel, dd⟩ := dt_rd I.hok e
    obtain ⟨w', hw, rw'⟩ := RelO.some_of (v := v) (o := (atKey xs k).map (·.2)) (by rw [l]; exact rel.val k)
    obtain ⟨p, hp, hp2⟩ := Option.map_eq_some_iff.mp hw
    refine wpAny_getItem_heap (tupleKind_room_in1 hu) (key_of I.hok eb) dd hp ?_
    rw [hp2]
    exact h w' _ (I.tok _) rw'
theorem d_in {Q : Value → Shared → Prop} (hu : A.units + 1 < cLine) (I : Inv X pins σ H s) (g : DGet H a y o) (ry : RelV y u) (h : ∀ s', Inv X pins σ H s' → Q (.bool o.isSome) s') :
    wpAny (model X.prog X.w) A (compareOp .In u (.ref a)) Q E s := by
  rcases g with ⟨kvs, k, e, ey, l⟩ | ⟨kvs, k, b, e, ey, eb, l⟩
  · subst ey
    obtain ⟨z, hd, vs, rel, dd⟩ := dk_rd I.hok e
    refine wpAny_in_of (kV_is ry) hd dd.mapOf ?_
    rw [← (rel.val k).isSome_eq, ← l]
    exact h _ (I.tok _)
  · subst ey
    cases (show u = Value.ref b from ry)
    obtain ⟨z, hd, xs, rel, dd⟩ := dt_rd I.hok e
    refine wpAny_in_heap (tupleKind_room_in1 hu) (key_of I.hok eb) hd dd ?_
    have q := (rel.val k).isSome_eq
    rw [Option.isSome_map] at q
    rw [← q, ← l]
    exact h _ (I.tok _)
theorem d_notIn {Q : Value → Shared → Prop} (hu : A.units + 1 < cLine) (I : Inv X pins σ H s) (g : DGet H a y o) (ry : RelV y u) (h : ∀ s', Inv X pins σ H s' → Q (.bool (!o.isSome)) s') :
    wpAny (model X.prog X.w) A (compareOp .NotIn u (.ref a)) Q E s := by
  rcases g with ⟨kvs, k, e, ey, l⟩ | ⟨kvs, k, b, e, ey, eb, l⟩
  · subst ey
    obtain ⟨z, hd, vs, rel, dd⟩ := dk_rd I.hok e
    refine wpAny_notIn_of (kV_is ry) hd dd.mapOf ?_
    rw [← (rel.val k).isSome_eq, ← l]
    exact h _ (I.tok _)
  · subst ey
    cases (show u = Value.ref b from ry)
    obtain ⟨z, hd, xs, rel, dd⟩ := dt_rd I.hok e
    refine wpAny_notIn_heap (tupleKind_room_in1 hu) (key_of I.hok eb) hd dd ?_
    have q := (rel.val k).isSome_eq
    rw [Option.isSome_map] at q
    rw [← q, ← l]
    exact h _ (I.tok _)
theorem d_write {h' : Heap} {t' : Nat} {ob : HO} (I : Inv X pins σ H s) (mu : Mut (H a)) (hs : Heap.SameBut a s.heap h') (he : ∃ q, h'.get? a = some q) (new : ObjOk X.prog X.w (upd H a ob) h' a ob) :
    Inv X pins σ (upd H a ob) { s with heap := h', toks := t' } :=
  I.write (x := a) (e := a) mu (.inl rfl) (fun b q hb z => (hs.2 b hb).trans z) he new
theorem dk_new {P : Program} {w : World} {H' : Hp} {h' : Heap} {kvs : List (Key × V)} {vs : List (Key × Value)} (z : kvs.length ≤ sizeLine) (hd : (a == sysModules) = false) (rel : KV kvs vs) (dd : h'.DictOf (mixKind P w) a vs) :
    ObjOk P w H' h' a (.dK kvs) := ⟨z, hd, vs, rel, dd⟩
theorem d_setItem {H' : Hp} {Q : Unit → Shared → Prop} (hu : A.units + 1 < cLine) (I : Inv X pins σ H s) (g : DPut H a y v H') (ry : RelV y u) (rv : RelV v r) (h : ∀ s', Inv X pins σ H' s' → Q () s') :
    wpAny (model X.prog X.w) A (setItem (.ref a) u r) Q E s := by
  rcases g with ⟨kvs, k, e, ey, l, eH⟩ | ⟨kvs, k, b, e, ey, eb, l, eH⟩
  · subst ey eH
    obtain ⟨z, hd, vs, rel, dd⟩ := dk_of I.hok e
    have hz : vs.length ≤ sizeLine := by rw [← rel.length]; exact z
    have hl : (putK kvs k v).length ≤ sizeLine := by have := length_putK kvs k v; lia
    refine wpAny_setItem_pairs (hsz := hz) (kV_is ry) dd fun h' dd' hs => h _ ?_
    have he : ∃ q, h'.get? a = some q := let ⟨q, _, _, hq, _⟩ := dd'; ⟨q, hq⟩
    exact d_write I (by rw [e]; exact True.intro) hs he (dk_new hl hd (rel.put k rv) dd')
  · subst ey eH
    cases (show u = Value.ref b from ry)
    obtain ⟨z, hd, xs, rel, dd⟩ := dt_of I.hok e
    have hz : xs.length ≤ sizeLine := by rw [← Paired.length rel]; exact z
    have hl : (putK kvs k v).length ≤ sizeLine := by have := length_putK kvs k v; lia
    refine wpAny_setItem_heap (hsz := hz) (tupleKind_room_in1 hu) (key_of I.hok eb) dd fun h' dd' hs => h _ ?_
    obtain ⟨q, es, ep, hq, h2, h3, h4, _, h5⟩ := dd'
    refine d_write I (by rw [e]; exact True.intro) hs ⟨q, hq⟩ ⟨hl, hd, _, (rel.put k eb rv).keeps fun c ys ec => ?_, q, es, ep, hq, h2, h3, h4, h5⟩
    rw [upd_ne (ne_of ec e (fun z => nomatch z))]
    exact ec
end
section
variable {X : Cx} {pins : List (Addr × Obj)} {σ : St} {H : Hp} {s : Shared} {a : Addr} {kvs : List (Key × V)} {k : Key} {u : Value} {A : Around} {E : Value → Shared → Prop}
theorem d_pop {v : V} {more : List Value} {Q : Value → Shared → Prop} (I : Inv X pins σ H s) (e : H a = some (.dK kvs)) (ry : RelV (kV k) u) (l : valV kvs k = some v) (hm : more = [] ∨ ∃ x, more = [x])
    (h : ∀ w' s', Inv X pins σ (upd H a (.dK (dropK kvs k))) s' → RelV v w' → Q w' s') : wpAny (model X.prog X.w) A (call (.builtin "dict.pop") (.ref a :: u :: more)) Q E s := by
  obtain ⟨z, hd, vs, rel, dd⟩ := dk_of I.hok e
  obtain ⟨w', hw, rw'⟩ := RelO.some_of (v := v) (o := valueAt vs k) (by rw [← l]; exact rel.val k)
  have hp : (keyPart u).isSome = true := by
    cases k with
    | inl i => obtain ⟨t, q⟩ := (show ∃ t, u = Value.int i t from ry); subst q; rfl
    | inr x => obtain ⟨t, q⟩ := (show ∃ t, u = Value.str x t from ry); subst q; rfl
  have ha : argsOk "dict.pop" ⟨.ref a :: u :: more, []⟩ := by
    rcases hm with q | ⟨x, q⟩
    · subst q; exact PySem.F.args_dict_pop_2 _ _
    · subst q; exact PySem.F.args_dict_pop_3 _ _ _
  refine call_meetsIn PySem.F.slot_dict_pop dd.typeIs PySem.F.entry_dict_pop ha (meets_dict_pop_there (mixKind X.prog X.w) a (kV_is ry) more hm hp)
    ⟨vs, w', dd, by rw [← rel.length]; exact z, hw, fun h' dd' hs => h w' _ ?_ rw'⟩
  have he : ∃ q, h'.get? a = some q := let ⟨q, _, _, hq, _⟩ := dd'; ⟨q, hq⟩
  exact d_write I (by rw [e]; exact True.intro) hs he (dk_new (Nat.le_trans (dropK_le kvs k) z) hd (rel.drop k) dd')
theorem d_len {Q : Value → Shared → Prop} (I : Inv X pins σ H s) (e : Rd H a (.dK kvs)) (h : ∀ t s', Inv X pins σ H s' → Q (.int kvs.length t) s') : wpAny (model X.prog X.w) A (call (.builtin "len") [.ref a]) Q E s := by
  obtain ⟨z, hd, vs, rel, dd⟩ := dk_rd I.hok e
  refine call_len_dict hd dd (by rw [← rel.length]; rw [sizeLine_eq] at z; lia) ?_
  rw [← rel.length]
  exact h _ _ (I.tok _)
end
noncomputable def NoSl (i : Expr) : Prop := ∀ ov iv, subscripted i false ov iv = operate [ov, iv] (getItem ov iv)
theorem subD_of {prog : Program} {w : World} {A : Around} {E : Value → Shared → Prop} {s : Shared} {env : Env} {value slice : Expr} {pos : Pos} {T id : String} {Q : Value → Shared → Prop}
    (hl : typeLookup (.type T) "__getitem__" = pure (some (.builtin id))) (hs : NoSl slice)
    (h : wpAny (model prog w) A (eval value env) (fun o s₁ => wpAny (model prog w) A (eval slice env) (fun i s₂ => s₂.TypeIs o T ∧ wpAny (model prog w) A (getItem o i) Q E s₂) E s₁) E s) :
    wpAny (model prog w) A (eval (.Subscript value slice pos) env) Q E s := by
  refine Subscript_ (wpAny_mono h (fun o s₁ h₁ => wpAny_mono h₁ (fun i s₂ h₂ => ?_) fun _ _ x => x) fun _ _ x => x)
  obtain ⟨hT, h₂⟩ := h₂
  unfold subscriptTail
  refine wpAny_bind ?_
  rw [getitemInPython_of_ne hT.not_modules]
  refine wpAny_bind (wpAny_specialOf hT hl ?_)
  have fin : wpAny (model prog w) A (subscripted slice false o i) (fun r s₃ => wpAny (model prog w) A (letTemporaryGo value o r >>= fun _ => pure r) Q E s₃) E s₂ := by
    rw [hs o i]
    exact wpAny_operating (wpAny_mono h₂ (fun r s₃ h₃ => wpAny_bind (wpAny_letTemporaryGo (wpAny_pure h₃))) fun _ _ x => x)
  first
    | exact wpAny_pure (wpAny_bind fin)
    | exact wpAny_bind (wpAny_pure (wpAny_bind fin))
    | exact wpAny_bind fin
theorem dict_typeIs {X : Cx} {pins : List (Addr × Obj)} {σ : St} {H : Hp} {s : Shared} {a : Addr} {y : V} {o : Option V} (I : Inv X pins σ H s) (g : DGet H a y o) : s.TypeIs (.ref a) "dict" := by
  rcases g with ⟨kvs, k, e, _, _⟩ | ⟨kvs, k, b, e, _, _, _⟩
  · obtain ⟨_, _, vs, _, dd⟩ := dk_rd I.hok e
    exact dd.typeIs
  · obtain ⟨_, _, xs, _, dd⟩ := dt_rd I.hok e
    exact dd.typeIs
inductive tDGetS (x y : V) (H2 : Hp) (Q : VK) : Prop
  | mk (a : Addr) (v : V) (h0 : x = .ref a) (h1 : DGet H2 a y (some v)) (h2 : Q v H2) : tDGetS x y H2 Q
noncomputable def tDGet (td ty : TE) : TE := fun σ H Q => td σ H fun x H1 => ty σ H1 fun y H2 => tDGetS x y H2 Q
inductive tDInS (x y : V) (H2 : Hp) (Q : VK) : Prop
  | mk (a : Addr) (o : Option V) (h0 : x = .ref a) (h1 : DGet H2 a y o) (h2 : Q (.bl o.isSome) H2) : tDInS x y H2 Q
noncomputable def tDIn (ty td : TE) : TE := fun σ H Q => ty σ H fun y H1 => td σ H1 fun x H2 => tDInS x y H2 Q
noncomputable def tDNotIn (ty td : TE) : TE := fun σ H Q => ty σ H fun y H1 => td σ H1 fun x H2 => ∃ a o, x = .ref a ∧ DGet H2 a y o ∧ Q (.bl (!o.isSome)) H2
inductive sDPutS (D : Ends) (σ : St) (v x y : V) (H3 : Hp) : Prop
  | mk (a : Addr) (H4 : Hp) (h0 : x = .ref a) (h1 : DPut H3 a y v H4) (h2 : D.nx σ H4) : sDPutS D σ v x y H3
noncomputable def sDPut (td ty tv : TE) : TS := fun D σ H => tv σ H fun v H1 => td σ H1 fun x H2 => ty σ H2 fun y H3 => sDPutS D σ v x y H3
section
variable {X : Cx} {o i e value : Expr} {pos pos' tpos : Pos} {td ty tv : TE}
theorem pe_dget (hu : X.A.units + 1 < cLine) (ho : PE X o td) (hi : PE X i ty) (hs : NoSl i) : PE X (.Subscript o i pos) (tDGet td ty) := by
  intro pins s σ H Q I h
  refine subD_of PySem.F.slot_dict_getitem.lookup hs (thn (ho pins s σ H _ I h) fun u s1 ⟨x, H1, I1, rx, q1⟩ => thn (hi pins s1 σ H1 _ I1 q1) fun iv s2 zq => ?_)
  obtain ⟨y, H2, I2, ry, a, v, ex, g, q2⟩ := zq
  subst ex
  obtain rfl : u = Value.ref a := rx
  exact ⟨dict_typeIs I2 g, d_getItem hu I2 g ry fun w' s3 I3 rw' => ⟨v, H2, I3, rw', q2⟩⟩
theorem pc_din (hu : X.A.units + 1 < cLine) (hi : PE X i ty) (ho : PE X o td) : PC X .In i o (tDIn ty td) := by
  intro pins s σ H Q I h
  refine thn (hi pins s σ H _ I h) fun iv s1 ⟨y, H1, I1, ry, q1⟩ => thn (ho pins s1 σ H1 _ I1 q1) fun u s2 zq => ?_
  obtain ⟨x, H2, I2, rx, a, ov, ex, g, q2⟩ := zq
  subst ex
  obtain rfl : u = Value.ref a := rx
  exact d_in hu I2 g ry fun s3 I3 => ⟨.bl ov.isSome, H2, I3, rfl, q2⟩
theorem pc_dnotin (hu : X.A.units + 1 < cLine) (hi : PE X i ty) (ho : PE X o td) : PC X .NotIn i o (tDNotIn ty td) := by
  intro pins s σ H Q I h
  refine thn (hi pins s σ H _ I h) fun iv s1 ⟨y, H1, I1, ry, q1⟩ => thn (ho pins s1 σ H1 _ I1 q1) fun u s2 zq => ?_
  obtain ⟨x, H2, I2, rx, a, ov, ex, g, q2⟩ := zq
  subst ex
  obtain rfl : u = Value.ref a := rx
  exact d_notIn hu I2 g ry fun s3 I3 => ⟨.bl (!ov.isSome), H2, I3, rfl, q2⟩
theorem ps_dput (hu : X.A.units + 1 < cLine) (ho : PE X o td) (hi : PE X i ty) (hv : PE X value tv) (hs : swapsWith value (some (.Subscript o i pos')) pos.line X.env = pure false) :
    PS X (.Assign [.Subscript o i pos'] value pos) (sDPut td ty tv) := by
  intro pins s σ H D I h
  refine wpAny_Assign_Subscript (thn (hv pins s σ H _ I h) fun r s1 ⟨v, H1, I1, rv, q1⟩ => thn (ho pins s1 σ H1 _ I1 q1) fun u s2 ⟨x, H2, I2, rx, q2⟩ => thn (hi pins s2 σ H2 _ I2 q2) fun iv s3 ⟨y, H3, I3, ry, a, H4, ex, g, q3⟩ => ?_) hs
  subst ex
  obtain rfl : u = Value.ref a := rx
  exact d_setItem hu I3 g ry rv fun s4 I4 => ⟨σ, H4, I4, q3⟩
end
theorem dk_empty {P : Program} {w : World} {H : Hp} (h : Heap) (hb : sysModules < h.objs.size) : ObjOk P w H (h.push { cls := .type "dict", data := .dict #[] }) h.objs.size (.dK []) :=
  ⟨Nat.zero_le _, beq_eq_false_iff_ne.mpr (Ne.symm (Nat.ne_of_lt hb)), [], .nil, Heap.DictOf.new h⟩
theorem dt_empty {P : Program} {w : World} {H : Hp} (h : Heap) (hb : sysModules < h.objs.size) : ObjOk P w H (h.push { cls := .type "dict", data := .dict #[] }) h.objs.size (.dT []) :=
  ⟨Nat.zero_le _, beq_eq_false_iff_ne.mpr (Ne.symm (Nat.ne_of_lt hb)), [], .nil, _, #[], 0, Heap.get?_push_size _ rfl, ⟨rfl, rfl, rfl⟩, rfl, rfl, List.nodup_nil⟩
noncomputable def tDNewK : TE := fun _ H Q => ∀ p, H p = none → Q (.ref p) (upd H p (.dK []))
noncomputable def tDNewT : TE := fun _ H Q => ∀ p, H p = none → Q (.ref p) (upd H p (.dT []))
section
variable {X : Cx} {pos : Pos}
theorem pe_dnewK : PE X (.Dict [] [] pos) tDNewK := fun pins s σ H Q I h =>
  wpAny_Dict_empty ⟨.ref s.heap.objs.size, _, I.laid (a := s.heap.objs.size) (o := .dK []) (t' := s.toks) (fun _ _ q => Heap.get?_push_of_some _ q) (Nat.le_refl _) (dk_empty s.heap I.big), rfl, h _ (I.hok.fresh (Nat.le_refl _))⟩
theorem pe_dnewT : PE X (.Dict [] [] pos) tDNewT := fun pins s σ H Q I h =>
  wpAny_Dict_empty ⟨.ref s.heap.objs.size, _, I.laid (a := s.heap.objs.size) (o := .dT []) (t' := s.toks) (fun _ _ q => Heap.get?_push_of_some _ q) (Nat.le_refl _) (dt_empty s.heap I.big), rfl, h _ (I.hok.fresh (Nat.le_refl _))⟩
end
noncomputable def tPairs : List (TE × TE) → St → Hp → (List (V × V) → Hp → Prop) → Prop
  | [], _, H, Q => Q [] H
  | (tk, tv) :: r, σ, H, Q => tk σ H fun x H1 => tv σ H1 fun y H2 => tPairs r σ H2 fun ps H3 => Q ((x, y) :: ps) H3
abbrev VV : List (V × V) → List (Value × Value) → Prop := Paired fun p q => RelV p.1 q.1 ∧ RelV p.2 q.2
noncomputable def PPs (X : Cx) (pos : Pos) (keys : List (Option Expr)) (values : List Expr) (trs : List (TE × TE)) : Prop :=
  ∀ (pins : List (Addr × Obj)) (s : Shared) (σ : St) (H : Hp) (Q : List (V × V) → Hp → Prop), Inv X pins σ H s → tPairs trs σ H Q →
    wpAny (model X.prog X.w) X.A (evalPairs (pairTrees keys values X.env pos)) (fun vs s' => ∃ ps H', Inv X pins σ H' s' ∧ VV ps vs ∧ Q ps H') X.xe s
theorem pps_nil {X : Cx} {pos : Pos} : PPs X pos [] [] [] := fun pins s σ H Q I h => pairTrees_nil_walk ⟨[], H, I, .nil, h⟩
theorem pps_cons {X : Cx} {pos : Pos} {k v : Expr} {ks : List (Option Expr)} {vs : List Expr} {tk tv : TE} {trs : List (TE × TE)} (hk : PE X k tk) (hv : PE X v tv) (hr : PPs X pos ks vs trs) :
    PPs X pos (some k :: ks) (v :: vs) ((tk, tv) :: trs) := fun pins s σ H Q I h =>
  pairTrees_cons_walk (thn (hk pins s σ H _ I h) fun u s1 ⟨x, H1, I1, rx, q1⟩ => thn (hv pins s1 σ H1 _ I1 q1) fun w2 s2 ⟨y, H2, I2, ry, q2⟩ =>
    thn (hr pins s2 σ H2 _ I2 q2) fun ws s3 ⟨ps, H3, I3, rel, q3⟩ => ⟨(x, y) :: ps, H3, I3, .cons ⟨rx, ry⟩ rel, q3⟩)
noncomputable def mergeK (kvs more : List (Key × V)) : List (Key × V) := more.foldl (fun acc kv => putK acc kv.1 kv.2) kvs
theorem KV.merge : ∀ {more : List (Key × V)} {rs : List (Key × Value)} {kvs : List (Key × V)} {vs : List (Key × Value)}, KV more rs → KV kvs vs → KV (mergeK kvs more) (merged vs rs) := by
  intro more rs kvs vs r
  unfold KV at r
  induction r generalizing kvs vs with
  | nil => intro q; exact q
  | @cons p q ps qs h t ih =>
    intro r0
    have e : KV (putK kvs p.1 p.2) (stored vs q.1 q.2) := by
      have := r0.put p.1 h.2
      rw [← h.1]; exact this
    exact ih e
theorem length_mergeK : ∀ (more kvs : List (Key × V)), (mergeK kvs more).length ≤ kvs.length + more.length
  | [], kvs => by show kvs.length ≤ kvs.length + 0; lia
  | p :: r, kvs => by
    have h1 := length_mergeK r (putK kvs p.1 p.2)
    have h2 := length_putK kvs p.1 p.2
    show (mergeK (putK kvs p.1 p.2) r).length ≤ _
    rw [List.length_cons]; lia
theorem carries_of {P : Program} {w : World} : ∀ {kvs : List (Key × V)} {ws : List (Value × Value)}, VV (kvs.map fun kv => (kV kv.1, kv.2)) ws → ∃ rs, Carries (mixKind P w) ws rs ∧ KV kvs rs
  | [], _, r => by rw [List.map_nil] at r; cases r; exact ⟨[], True.intro, .nil⟩
  | p :: kvs, _, r => by
    rw [List.map_cons] at r
    cases r with
    | @cons a b as bs h t =>
      obtain ⟨rs, c, q⟩ := carries_of (P := P) (w := w) t
      obtain ⟨b1, b2⟩ := b
      exact ⟨(p.1, b2) :: rs, ⟨kV_is h.1, rfl, c⟩, .cons ⟨rfl, h.2⟩ q⟩
noncomputable def tDisp (trs : List (TE × TE)) : TE := fun σ H Q => ∀ p, H p = none → tPairs trs σ (upd H p (.dK [])) fun ps H2 => H2 p = some (.dK []) ∧ ∃ kvs : List (Key × V), ps = kvs.map (fun kv => (kV kv.1, kv.2)) ∧ kvs.length ≤ 15 ∧ Q (.ref p) (upd H2 p (.dK (mergeK [] kvs)))
theorem pe_disp {X : Cx} {pos : Pos} {keys : List (Option Expr)} {values : List Expr} {trs : List (TE × TE)} (h : PPs X pos keys values trs) (hall : keys.all (·.isSome) = true) (hl : keys.length = values.length) (h0 : keys ≠ [])
    (h15 : keys.length ≤ 15) : PE X (.Dict keys values pos) (tDisp trs) := by
  intro pins s σ H Q I q
  have hn := I.hok.fresh (Nat.le_refl s.heap.objs.size)
  have I1 := I.laid (a := s.heap.objs.size) (o := .dK []) (h' := s.heap.push { cls := .type "dict", data := .dict #[] }) (t' := s.toks) (fun _ _ q => Heap.get?_push_of_some _ q) (Nat.le_refl _) (dk_empty s.heap I.big)
  refine wpAny_Dict_walk (knd := mixKind X.prog X.w) hall hl h0 h15 (thn (h pins _ σ _ _ I1 (q _ hn)) fun ws s2 zq => ?_)
  obtain ⟨ps, H2, I2, rel, e, kvs, ep, lk, q2⟩ := zq
  subst ep
  obtain ⟨rs, c, rk⟩ := carries_of (P := X.prog) (w := X.w) rel
  obtain ⟨z, hd, vs0, r0, dd⟩ := dk_of I2.hok e
  cases r0
  refine ⟨rs, c, dd, fun h' dd' hs => ⟨.ref s.heap.objs.size, _, ?_, rfl, q2⟩⟩
  have hz : (mergeK [] kvs).length ≤ sizeLine := by
    have h1 := length_mergeK kvs []
    rw [List.length_nil] at h1
    rw [sizeLine_eq]; lia
  have he : ∃ q, h'.get? s.heap.objs.size = some q := let ⟨q, _, _, hq, _⟩ := dd'; ⟨q, hq⟩
  exact d_write I2 (by rw [e]; exact True.intro) hs he (dk_new hz hd (rk.merge .nil) dd')
structure M1 (X : Cx) (o : Expr) (m : Str) (apos : Pos) (e : Expr) (cpos : Pos) : Prop where
  base : attributeBase o m X.env (eval o X.env) = eval o X.env
  few : ((backTo cpos (starEach [e] X.env)).all (fun x => !x.1) && (backToKw cpos (keywordEach [] X.env)).all (fun x => x.1.isSome)
    && decide (([e] : List Expr).length + ([] : List Keyword).length + (if ([] : List Keyword).isEmpty then 0 else 1) < 30)) = true
  line : (apos.endLine == cpos.line) = true
  trees : backTo cpos (starEach [e] X.env) = [(false, eval e X.env)]
structure M2 (X : Cx) (o : Expr) (m : Str) (apos : Pos) (e f : Expr) (cpos : Pos) : Prop where
  base : attributeBase o m X.env (eval o X.env) = eval o X.env
  few : ((backTo cpos (starEach [e, f] X.env)).all (fun x => !x.1) && (backToKw cpos (keywordEach [] X.env)).all (fun x => x.1.isSome)
    && decide (([e, f] : List Expr).length + ([] : List Keyword).length + (if ([] : List Keyword).isEmpty then 0 else 1) < 30)) = true
  line : (apos.endLine == cpos.line) = true
  trees : backTo cpos (starEach [e, f] X.env) = [(false, eval e X.env), (false, eval f X.env)]
noncomputable def IsD (H : Hp) (a : Addr) : Prop := (∃ kvs, Rd H a (.dK kvs)) ∨ ∃ kvs, Rd H a (.dT kvs)
theorem isD_at {X : Cx} {pins : List (Addr × Obj)} {σ : St} {H : Hp} {s : Shared} {a : Addr} (I : Inv X pins σ H s) (d : IsD H a) :
    s.TypeIs (.ref a) "dict" ∧ (∀ b, Value.ref a = .ref b → ∃ ob, s.heap.get? b = some ob ∧ ob.dict = none) ∧ (a == sysModules) = false := by
  rcases d with ⟨kvs, e⟩ | ⟨kvs, e⟩
  · obtain ⟨_, hd, vs, _, dd⟩ := dk_rd I.hok e
    refine ⟨dd.typeIs, fun b q => ?_, hd⟩
    cases q
    obtain ⟨ob, _, _, h1, h2, _⟩ := dd
    exact ⟨ob, h1, h2.2.1⟩
  · obtain ⟨_, hd, xs, _, dd⟩ := dt_rd I.hok e
    refine ⟨dd.typeIs, fun b q => ?_, hd⟩
    cases q
    obtain ⟨ob, _, _, h1, h2, _⟩ := dd
    exact ⟨ob, h1, h2.2.1⟩
section
variable {X : Cx} {pins : List (Addr × Obj)} {σ : St} {H : Hp} {s : Shared} {a : Addr} {y d : V} {u r : Value} {o : Option V} {A : Around} {E : Value → Shared → Prop}
theorem d_get2 {Q : Value → Shared → Prop} (hu : A.units + 1 < cLine) (I : Inv X pins σ H s) (g : DGet H a y o) (ry : RelV y u) (rd : RelV d r) (h : ∀ w' s', Inv X pins σ H s' → RelV (o.getD d) w' → Q w' s') :
    wpAny (model X.prog X.w) A (call (.builtin "dict.get") [.ref a, u, r]) Q E s := by
  rcases g with ⟨kvs, k, e, ey, l⟩ | ⟨kvs, k, b, e, ey, eb, l⟩
  · subst ey
    obtain ⟨z, hd, vs, rel, dd⟩ := dk_rd I.hok e
    refine call_meetsIn PySem.F.slot_dict_get dd.typeIs PySem.F.entry_dict_get (PySem.F.args_dict_get_3 _ _ _) (meets_dict_get_default (mixKind X.prog X.w) a (kV_is ry) hd r) ⟨_, dd.mapOf, h _ _ (I.tok _) ?_⟩
    rw [l]
    exact (rel.val k).getD rd
  · subst ey
    cases (show u = Value.ref b from ry)
    obtain ⟨z, hd, xs, rel, dd⟩ := dt_rd I.hok e
    refine call_meetsIn PySem.F.slot_dict_get dd.typeIs PySem.F.entry_dict_get (PySem.F.args_dict_get_3 _ _ _) (meetsH_dict_get_default (tupleKind (mixKind X.prog X.w)) a b hd r) ⟨tupleKind_room_in1 hu, k, xs, key_of I.hok eb, dd, h _ _ (I.tok _) ?_⟩
    rw [l]
    exact (rel.val k).getD rd
end
noncomputable def tDGet2 (td ty tx : TE) : TE := fun σ H Q => td σ H fun x H1 => ∃ a, x = .ref a ∧ IsD H1 a ∧ ty σ H1 fun y H2 => tx σ H2 fun z H3 => ∃ o, DGet H3 a y o ∧ Q (o.getD z) H3
noncomputable def tDPop1 (td ty : TE) : TE := fun σ H Q => td σ H fun x H1 => ∃ a, x = .ref a ∧ IsD H1 a ∧ ty σ H1 fun y H2 => ∃ kvs k v, H2 a = some (.dK kvs) ∧ y = kV k ∧ valV kvs k = some v ∧ Q v (upd H2 a (.dK (dropK kvs k)))
section
variable {X : Cx} {o e f : Expr} {apos cpos : Pos} {td ty tx : TE}
theorem pe_dget2 (hu : X.A.units + 1 < cLine) (ho : PE X o td) (he : PE X e ty) (hf : PE X f tx) (m : M2 X o "get" apos e f cpos) : PE X (.Call (.Attribute o "get" apos) [e, f] [] cpos) (tDGet2 td ty tx) := by
  intro pins s σ H Q I h
  refine wpAny_Call_method m.base m.few m.line PySem.F.plainAttrs_dict PySem.F.slot_dict_get PySem.F.type_dict_get (thn (ho pins s σ H _ I h) fun u s1 zq => ?_)
  obtain ⟨x, H1, I1, rx, a, ex, d, q1⟩ := zq
  subst ex
  obtain rfl : u = Value.ref a := rx
  obtain ⟨t1, t2, _⟩ := isD_at I1 d
  refine ⟨t1, t2, ?_⟩
  rw [m.trees]
  refine Calls.callWith_builtin rfl (Calls.evalArgs_plain (Calls.spliced_cons (thn (he pins s1 σ H1 _ I1 q1) fun iv s2 ⟨y, H2, I2, ry, q2⟩ =>
    Calls.spliced_cons (thn (hf pins s2 σ H2 _ I2 q2) fun fv s3 ⟨z, H3, I3, rz, ov, g, q3⟩ => Calls.spliced_nil ?_))))
  exact d_get2 hu I3 g ry rz fun w' s4 I4 rw' => ⟨_, H3, I4, rw', q3⟩
theorem pe_dpop1 (ho : PE X o td) (he : PE X e ty) (m : M1 X o "pop" apos e cpos) : PE X (.Call (.Attribute o "pop" apos) [e] [] cpos) (tDPop1 td ty) := by
  intro pins s σ H Q I h
  refine wpAny_Call_method m.base m.few m.line PySem.F.plainAttrs_dict PySem.F.slot_dict_pop PySem.F.type_dict_pop (thn (ho pins s σ H _ I h) fun u s1 zq => ?_)
  obtain ⟨x, H1, I1, rx, a, ex, d, q1⟩ := zq
  subst ex
  obtain rfl : u = Value.ref a := rx
  obtain ⟨t1, t2, _⟩ := isD_at I1 d
  refine ⟨t1, t2, ?_⟩
  rw [m.trees]
  refine Calls.callWith_builtin rfl (Calls.evalArgs_plain (Calls.spliced_cons (thn (he pins s1 σ H1 _ I1 q1) fun iv s2 ⟨y, H2, I2, ry, kvs, k, v, ea, ey, l, q2⟩ => Calls.spliced_nil ?_)))
  subst ey
  exact d_pop I2 ea ry l (.inl rfl) fun w' s3 I3 rw' => ⟨v, _, I3, rw', q2⟩
end
section
variable {X : Cx} {pins : List (Addr × Obj)} {σ : St} {H : Hp} {s : Shared} {a : Addr} {kvs : List (Key × V)} {A : Around} {E : Value → Shared → Prop}
end
section
variable {X : Cx} {pins : List (Addr × Obj)} {σ : St} {H : Hp} {s : Shared} {a : Addr} {y : V} {u : Value} {A : Around} {E : Value → Shared → Prop}
end
section
variable {X : Cx}
theorem call_lenD : CallR X (.builtin "len") (fun xs H Q => ∃ a kvs, xs = [V.ref a] ∧ H a = some (.dK kvs) ∧ Q (.int kvs.length) H) := by
  intro pins s σ H xs us Q I r h
  obtain ⟨a, kvs, rfl, ha, q⟩ := h
  obtain ⟨u, rfl, ru⟩ := vals1 r
  cases ru
  exact d_len I (.inl ha) fun t s' I' => ⟨.int kvs.length, H, I', ⟨t, rfl⟩, q⟩
end
section
variable {κ : Type} [DecidableEq κ]
theorem valV_in {kvs : List (κ × V)} {k : κ} {v : V} (h : valV kvs k = some v) : k ∈ kvs.map (·.1) := by
  have q : (kvs.any fun kv => decide (kv.1 = k)) = true := by
    rw [valV_any, h]
    all_goals rfl
  obtain ⟨p, hp, e⟩ := List.any_eq_true.mp q
  exact List.mem_map.mpr ⟨p, hp, of_decide_eq_true e⟩
end
end L2
namespace L2
open PySem PySem.Spec PyProof.Rows
section
variable {X : Cx}
theorem qe_dnew {pos : Pos} : QE X (.Dict [] [] pos) tDNewK := ⟨pe_dnewK⟩
theorem qe_disp1 {pos : Pos} {k v : Expr} {tk tv : TE} (hk : QE X k tk) (hv : QE X v tv) : QE X (.Dict [some k] [v] pos) (tDisp [(tk, tv)]) := ⟨pe_disp (pps_cons hk.run hv.run pps_nil) rfl rfl (by simp) (by simp)⟩
theorem qe_disp2 {pos : Pos} {k v k' v' : Expr} {tk tv tk' tv' : TE} (hk : QE X k tk) (hv : QE X v tv) (hk' : QE X k' tk') (hv' : QE X v' tv') : QE X (.Dict [some k, some k'] [v, v'] pos) (tDisp [(tk, tv), (tk', tv')]) := ⟨pe_disp (pps_cons hk.run hv.run (pps_cons hk'.run hv'.run pps_nil)) rfl rfl (by simp) (by simp)⟩
theorem qe_dget {o i : Expr} {pos : Pos} {td ty : TE} (hu : X.A.units + 1 < cLine) (ho : QE X o td) (hi : QE X i ty) (hs : NoSl i) : QE X (.Subscript o i pos) (tDGet td ty) := ⟨pe_dget hu ho.run hi.run hs⟩
theorem qt_din {o i : Expr} {pos : Pos} {td ty : TE} (hu : X.A.units + 1 < cLine) (hi : QE X i ty) (ho : QE X o td) (hm : behindInMarks .In o = false := by with_unfolding_all rfl) : QT X (.Compare i [.In] [o] pos) (tB (tDIn ty td)) := ⟨pt_cmp (pc_din hu hi.run ho.run) hm⟩
theorem qt_dnotin {o i : Expr} {pos : Pos} {td ty : TE} (hu : X.A.units + 1 < cLine) (hi : QE X i ty) (ho : QE X o td) (hm : behindInMarks .NotIn o = false := by with_unfolding_all rfl) : QT X (.Compare i [.NotIn] [o] pos) (tB (tDNotIn ty td)) := ⟨pt_cmp (pc_dnotin hu hi.run ho.run) hm⟩
theorem qe_din {o i : Expr} {pos : Pos} {td ty : TE} (hu : X.A.units + 1 < cLine) (hi : QE X i ty) (ho : QE X o td) (hm : behindInMarks .In o = false := by with_unfolding_all rfl) : QE X (.Compare i [.In] [o] pos) (tDIn ty td) := ⟨pe_cmp (pc_din hu hi.run ho.run) hm⟩
theorem qs_dput {o i value : Expr} {pos pos' : Pos} {td ty tv : TE} (hu : X.A.units + 1 < cLine) (ho : QE X o td) (hi : QE X i ty) (hv : QE X value tv) (hs : swapsWith value (some (.Subscript o i pos')) pos.line X.env = pure false := by rfl) :
    QS X (.Assign [.Subscript o i pos'] value pos) (sDPut td ty tv) := ⟨ps_dput hu ho.run hi.run hv.run hs⟩
theorem qe_dget2 {o e f : Expr} {apos cpos : Pos} {td ty tx : TE} (hu : X.A.units + 1 < cLine) (ho : QE X o td) (he : QE X e ty) (hf : QE X f tx) (m : M2 X o "get" apos e f cpos := by exact ⟨rfl, rfl, rfl, rfl⟩) :
    QE X (.Call (.Attribute o "get" apos) [e, f] [] cpos) (tDGet2 td ty tx) := ⟨pe_dget2 hu ho.run he.run hf.run m⟩
theorem key_rel {P : Program} {w : World} {k : Key} {v : Value} (h : (mixKind P w).is k v = true) : RelV (kV k) v := by
  rcases keyIs_shape h with ⟨i, t, rfl, rfl⟩ | ⟨x, t, rfl, rfl⟩
  · exact ⟨t, rfl⟩
  · exact ⟨t, rfl⟩
theorem vals_nth : ∀ {ks : List V} {vs : List Value}, vs.length = ks.length → (∀ (j : Nat) (v : Value), vs[j]? = some v → ∃ y, ks[j]? = some y ∧ RelV y v) → Vals ks vs
  | [], [], _, _ => .nil
  | k :: ks, v :: vs, hl, h => by
    obtain ⟨y, e, r⟩ := h 0 v rfl
    cases e
    exact .cons r (vals_nth (by simpa using hl) fun j u hu => h (j + 1) u (by simpa using hu))
theorem call_list_dict (hc : X.calm = true) : CallR X (.type "list") (fun xs H Q => ∃ a kvs, xs = [V.ref a] ∧ H a = some (.dK kvs) ∧ ∀ p, H p = none → Q (.ref p) (upd H p (.lst (kvs.map fun kv => kV kv.1)))) := by
  intro pins s σ H xs us Q I r h
  obtain ⟨a, kvs, rfl, ha, q⟩ := h
  obtain ⟨u, rfl, ru⟩ := vals1 r
  cases ru
  obtain ⟨z, hd, vs, rel, dd⟩ := dk_rd I.hok (.inl ha)
  have hl := rel.length
  obtain ⟨ep, da⟩ := dd.dictAt
  refine PySem.W.kdl_call (PySem.W.kdl_dict hd) (I.ok.hd hc) da (by rw [← hl]; exact z) fun h' tk acc c hk hD hacc => ?_
  refine ⟨.ref s.heap.objs.size, _, I.laid (t' := tk) hk (Nat.le_refl _) (show ObjOk X.prog X.w _ h' _ (.lst (kvs.map fun kv => kV kv.1)) from ⟨by rw [List.length_map]; exact z, acc.toList, c, ?_, by simpa using hD⟩), rfl, q _ (I.hok.fresh (Nat.le_refl _))⟩
  refine vals_nth (by rw [Array.length_toList, List.length_map, hl]; exact hacc.1) fun j v hv => ?_
  obtain ⟨k, x, e, ke⟩ := hacc.2 j v (by rw [← Array.getElem?_toList]; exact hv)
  have ek := rel.keys
  have e2 : (vs.map (·.1))[j]? = some k := by rw [List.getElem?_map, e]; rfl
  rw [← ek, List.getElem?_map] at e2
  refine ⟨kV k, ?_, key_rel ke⟩
  rw [List.getElem?_map]
  cases hj : kvs[j]? with
  | none => rw [hj] at e2; cases e2
  | some p => rw [hj] at e2; rw [← Option.some.inj e2]; rfl
end
section
variable {X : Cx}
end
theorem cl_has {L : List (Str × NameKind)} {cl : List (Str × Addr)} {ks : List Str} (hkm : cl.map (·.1) = ks) (hkB : (L.all fun y => (match y.2 with | .cell => false | .free => false | _ => true) || decide (y.1 ∈ ks)) = true) (z : Str) (h : L.lookup z = some .cell ∨ L.lookup z = some .free) : ∃ c, cl.lookup z = some c := by
  have hm : z ∈ cl.map (·.1) := by
    rw [hkm]
    rcases h with h | h
    · have := List.all_eq_true.mp hkB _ (PySem.mem_of_lookup h)
      simpa using this
    · have := List.all_eq_true.mp hkB _ (PySem.mem_of_lookup h)
      simpa using this
  clear hkm hkB
  induction cl with
  | nil => simp at hm
  | cons p r ih =>
    rw [List.lookup_cons]
    cases hb : z == p.1 with
    | true => exact ⟨_, rfl⟩
    | false =>
      rw [List.map_cons, List.mem_cons] at hm
      rcases hm with h1 | h1
      · rw [h1] at hb; simp at hb
      · exact ih h1
end L2
namespace L2
open PySem PySem.Spec PyProof.Rows
section
variable {X : Cx}
theorem call_sum_ints (hc : X.calm = true) : CallR X (.builtin "sum") (fun vs H Q => ∃ (a : Addr) (ns : List Int), vs = [.ref a] ∧ SqL X.K H a (ns.map V.int) ∧ (∀ n ∈ ns, 0 ≤ n ∧ n ≤ 10000) ∧ ns.length ≤ 1000 ∧ Q (.int ns.sum) H) := by
  intro pins s σ H vs us Q I r h
  obtain ⟨a, ns, rfl, hq, hb, hn, q⟩ := h
  obtain ⟨u, rfl, ru⟩ := r.one
  cases ru
  obtain ⟨its, rv, p, _⟩ := I.list hq
  have hs := intsAre_of rv
  have hall := hs.allInts
  have hnum := hs.numsOf
  obtain ⟨xs, hxs⟩ := hall.items
  have hpl : s.heap.IsList a (intItems xs) := by rw [← hxs]; exact p.isList
  have hnn : numsOf (intItems xs).toList = ns := by rw [← hxs]; simpa using hnum
  have hlen : xs.size = ns.length := by
    have := congrArg Array.size hxs
    have h1 : its.length = ns.length := hs.length
    simp [intItems] at this
    lia
  rw [nums_intItems] at hnn
  have bnd : ∀ (l : List Int), (∀ n ∈ l, 0 ≤ n ∧ n ≤ 10000) → 0 ≤ l.sum ∧ l.sum ≤ 10000 * (l.length : Int) := by
    intro l
    induction l with
    | nil => intro _; simp
    | cons x l ih =>
      intro h
      have h1 := ih fun n hn => h n (List.mem_cons_of_mem _ hn)
      have h2 := h x (List.mem_cons_self ..)
      rw [List.sum_cons, List.length_cons]
      constructor
      · lia
      · have : ((l.length + 1 : Nat) : Int) = (l.length : Int) + 1 := by lia
        rw [this]; lia
  have hfit : PySem.SumFits ns := fun j hj => by
    have hm : ns[j] ∈ ns := List.getElem_mem hj
    have h1 := hb _ hm
    have h2 := bnd (ns.take (j + 1)) fun n hn => hb n (List.mem_of_mem_take hn)
    have h3 : ((ns.take (j + 1)).length : Int) ≤ 1000 := by rw [List.length_take]; lia
    have e1 : ns.getD j 0 = ns[j] := by rw [List.getD_eq_getElem?_getD, List.getElem?_eq_getElem hj]; rfl
    unfold InLong
    constructor
    · rw [e1]; lia
    · lia
  refine sum_intList (I.ok.hd hc) hpl (fun j hj => ?_) fun h' tk t' hk => ?_
  · rw [numAt_eq, preSum_eq, hnn]; exact hfit j (by lia)
  · refine ⟨.int ns.sum, H, I.kept (t' := tk) hk, ⟨t', ?_⟩, q⟩
    rw [preSum_eq, hnn, List.take_of_length_le (by lia)]
end
theorem cl_sub {cl cells : List (Str × Addr)} (h : ∀ p ∈ cl, cells.lookup p.1 = some p.2) (y : Str) (c : Addr) (e : cl.lookup y = some c) : cells.lookup y = some c := h (y, c) (PySem.mem_of_lookup e)
theorem qe_compG {X : Cx} {elt iter : Expr} {x : Str} {px pos : Pos} {ifs : List Expr} {sc : Scope} {cl : List (Str × Addr)} {wi : TI} {tc : TT} {te : TE} (N : List Str) (ix : List Nat) (hi : QI X (.Name x px) iter wi)
    (hif : ∀ s H C ex, QTs (blk X N s H sc cl C ex) ifs tc) (he : ∀ s H C ex, QE (blk X N s H sc cl C ex) elt te)
    (hcl : closureFor sc X.env = pure cl := by rfl) (hcs : ∀ p ∈ cl, X.env.cells.lookup p.1 = some p.2 := by intro p hp; simp only [List.mem_cons, List.not_mem_nil, or_false] at hp; first | (subst hp; with_unfolding_all rfl) | (rcases hp with rfl | rfl <;> with_unfolding_all rfl)) (hN : N = x :: ix.map (fun j => (X.N[j]?).getD "") := by rfl) (hnd : N.Nodup := by decide +kernel)
    (hkm : cl.map (·.1) = N.tail := by rfl) (hkB : ((relabel sc X.env).names.all fun y => (match y.2 with | .cell => false | .free => false | _ => true) || decide (y.1 ∈ N.tail)) = true := by with_unfolding_all rfl)
    (hix : ∀ j ∈ ix, ∃ y, X.N[j]? = some y ∧ X.env.kindOf y = some .cell ∧ (relabel sc X.env).names.lookup y = some .cell := by first | (intro j hj; simp only [List.mem_cons, List.not_mem_nil, or_false] at hj; subst hj; exact ⟨_, rfl, rfl, by with_unfolding_all rfl⟩) | (intro j hj; simp only [List.mem_cons, List.not_mem_nil, or_false] at hj; rcases hj with rfl | rfl <;> exact ⟨_, rfl, rfl, by with_unfolding_all rfl⟩))
    (hx : sc.names.lookup x = some .local := by decide +kernel) (hcell : ∀ z ∈ sc.names, z.2 ≠ .cell := by decide +kernel)
    (hnames : ∀ z ∈ sc.names, z.2 = .local → sc.names.lookup z.1 = some .local := by decide +kernel)
    (hc : X.calm = true := by rfl) (hkind : sc.kind = .function := by rfl) (hs : ∀ x, foldedSetIterable iter X.env x = pure x := by intro _; rfl) :
    QE X (.ListComp elt [⟨.Name x px, iter, ifs, 0⟩] sc pos) (tComp ix wi tc te) :=
  ⟨pe_comp N hc hi.run (fun s H C ex => (hif s H C ex).run) (fun s H C ex => (he s H C ex).run) hkind hN hnd hx hcl hcell hnames (cl_sub hcs) (cl_has hkm hkB) hix hs⟩
theorem qs_setCG {X : Cx} {elt iter : Expr} {x yv : Str} {px pos py pos2 : Pos} {i : Nat} {ifs : List Expr} {sc : Scope} {cl : List (Str × Addr)} {wi : TI} {tc : TT} {te : TE} (N : List Str) (ix : List Nat) (hNd : X.N.Nodup) (hiy : X.N[i]? = some yv) (hyv : Loc X.env.scope yv) (hi : QI X (.Name x px) iter wi)
    (hif : ∀ s H C ex, QTs (blk X N s H sc cl C ex) ifs tc) (he : ∀ s H C ex, QE (blk X N s H sc cl C ex) elt te)
    (hsw : swapsWith (.ListComp elt [⟨.Name x px, iter, ifs, 0⟩] sc pos) (some (.Name yv py)) pos2.line X.env = pure true := by rfl) (hfy : X.fn yv = true ∨ X.env.scope.names.lookup yv = some .local := by first | exact .inl rfl | exact .inr rfl | assumption)
    (hcl : closureFor sc X.env = pure cl := by rfl) (hcs : ∀ p ∈ cl, X.env.cells.lookup p.1 = some p.2 := by intro p hp; simp only [List.mem_cons, List.not_mem_nil, or_false] at hp; first | (subst hp; with_unfolding_all rfl) | (rcases hp with rfl | rfl <;> with_unfolding_all rfl)) (hN : N = x :: ix.map (fun j => (X.N[j]?).getD "") := by rfl) (hnd : N.Nodup := by decide +kernel)
    (hkm : cl.map (·.1) = N.tail := by rfl) (hkB : ((relabel sc X.env).names.all fun y => (match y.2 with | .cell => false | .free => false | _ => true) || decide (y.1 ∈ N.tail)) = true := by with_unfolding_all rfl)
    (hix : ∀ j ∈ ix, ∃ y, X.N[j]? = some y ∧ X.env.kindOf y = some .cell ∧ (relabel sc X.env).names.lookup y = some .cell := by first | (intro j hj; simp only [List.mem_cons, List.not_mem_nil, or_false] at hj; subst hj; exact ⟨_, rfl, rfl, by with_unfolding_all rfl⟩) | (intro j hj; simp only [List.mem_cons, List.not_mem_nil, or_false] at hj; rcases hj with rfl | rfl <;> exact ⟨_, rfl, rfl, by with_unfolding_all rfl⟩))
    (hx : sc.names.lookup x = some .local := by decide +kernel) (hcell : ∀ z ∈ sc.names, z.2 ≠ .cell := by decide +kernel)
    (hnames : ∀ z ∈ sc.names, z.2 = .local → sc.names.lookup z.1 = some .local := by decide +kernel)
    (hc : X.calm = true := by rfl) (hkind : sc.kind = .function := by rfl) (hs : ∀ x, foldedSetIterable iter X.env x = pure x := by intro _; rfl) :
    QS X (.Assign [.Name yv py] (.ListComp elt [⟨.Name x px, iter, ifs, 0⟩] sc pos) pos2) (tAsg (tComp ix wi tc te) (gName i)) :=
  ⟨ps_setcomp N hNd hiy hyv hsw hfy hc hi.run (fun s H C ex => (hif s H C ex).run) (fun s H C ex => (he s H C ex).run) hkind hN hnd hx hcl hcell hnames (cl_sub hcs) (cl_has hkm hkB) hix hs⟩
end L2
namespace L2
open PySem PySem.Spec PyProof.Rows
section
variable {X : Cx} {K : PySem.W.Frag} {tg l : Expr} {tl : TE}
theorem ixKk (h : X.K = K) : IxR X (rIxL K) := by subst h; exact ix_list
theorem ixTk (h : X.K = K) : IxR X (rIxT K) := by subst h; exact ix_tup
theorem lenKk (h : X.K = K) : CallR X (.builtin "len") (fun xs H Q => ∃ p ys, xs = [.ref p] ∧ (SqL K H p ys ∨ SqT K H p ys) ∧ Q (.int ys.length) H) := by subst h; exact call_len_seq
theorem lstKk (h : X.K = K) : CallR X (.type "list") (fun xs H Q => ∃ p ys, xs = [.ref p] ∧ (SqL K H p ys ∨ SqT K H p ys) ∧ ∀ l, H l = none → Q (.ref l) (upd H l (.lst ys))) := by subst h; exact call_list_of
theorem slLk (h : X.K = K) : SlR X (rSlL K) := by subst h; exact sl_list
theorem slTk (h : X.K = K) : SlR X (rSlT K) := by subst h; exact sl_tup
theorem neDk (h : X.K = K) (hu : X.A.units + 32 < cLine) : OpR X (compareOp .NotEq) (rNeD K) := by subst h; exact op_neD hu
theorem inSk (h : X.K = K) : OpR X (compareOp .In) (rIn K false) := by subst h; exact op_in_seq
theorem qi_listK (h : X.K = K) (hl : QE X l tl) : QI X tg l (iList K tl) := by subst h; exact qi_list hl
theorem qi_zipTK {a b : Expr} {ta : TA} {p pos tpos : Pos} {elts : List Expr} {x1} (h : X.K = K) (hg : Gl X "zip") (hm : X.mg "zip" = none) (ha : QA X [a, b] ta) (hs : starEach [a, b] X.env = [(false, eval a X.env), (false, eval b X.env)] := by rfl) (hs2 : starEach [b] X.env = [(false, eval b X.env)] := by rfl) :
    QI X (.Tuple elts x1 tpos) (.Call (.Name "zip" p) [a, b] [] pos) (iZipT K ta) := by subst h; exact qi_zipT hg hm ha hs hs2
end
end L2
namespace L2
open PySem PySem.Spec PyProof.Rows
section
variable {X : Cx} {CX : CXT} {k : Nat} {f C : Addr} {fd : FuncData} {ps : List Str} {ds : List Value} {dvs : List V} {sp : Sp} {E : XK} {x m fl : Str} {p pos pos' apos : Pos} {e o value : Expr} {es : List Expr} {ta tv : TE} {t : TA}
theorem qe_fld (he : QE X e ta) (hb : attributeBase e fl X.env (eval e X.env) = eval e X.env := by rfl) : QE X (.Attribute e fl pos) (tFld X.K ta fl) := ⟨pe_fld he.run hb⟩
theorem qs_fld (ha : QE X o ta) (hv : QE X value tv) (hs : swapsWith value (some (.Attribute o fl pos')) pos.line X.env = pure false := by rfl) : QS X (.Assign [.Attribute o fl pos'] value pos) (sFld X.K ta tv fl) := ⟨ps_fld ha.run hv.run hs⟩
theorem qe_meth {pl : Sem Bool} (he : QE X o ta) (c : Cls X.K C) (hm : Meth X.K C m f) (F : FnOk X.prog X.w X.K X.mg X.base CX k f fd ps sp) (hr : Room k X.A) (hb : Binds X.K fd ps ds) (hd : Vals dvs ds) (hx : Passes CX X E) (ha : QA X (e :: es) t)
    (hst : starEach (e :: es) X.env = (false, eval e X.env) :: starEach es X.env := by rfl) (hpl : (backTo pos (starEach es X.env)).any (·.1) = false := by rfl)
    (ht : eval (.Call (.Attribute o m apos) (e :: es) [] pos) X.env = (do
      let ov ← eval o X.env
      standAt apos.atName
      let (f, first) ← holding [ov] (getMethod ov m pl)
      callWith pos f first (backTo pos (starEach (e :: es) X.env)) (backToKw pos (keywordEach [] X.env))) := by rfl) :
    QE X (.Call (.Attribute o m apos) (e :: es) [] pos) (tMeth C m sp dvs E ta t) := ⟨pe_meth he.run c hm F hr hb hd hx ha.run hst hpl ht⟩
theorem qe_meth0 {pl : Sem Bool} (he : QE X o ta) (c : Cls X.K C) (hm : Meth X.K C m f) (F : FnOk X.prog X.w X.K X.mg X.base CX k f fd ps sp) (hr : Room k X.A) (hb : Binds X.K fd ps ds) (hd : Vals dvs ds) (hx : Passes CX X E)
    (ht : eval (.Call (.Attribute o m apos) [] [] pos) X.env = (do
      let ov ← eval o X.env
      standAt apos.atName
      let (f, first) ← holding [ov] (getMethod ov m pl)
      callWith pos f first (backTo pos (starEach [] X.env)) (backToKw pos (keywordEach [] X.env))) := by rfl) :
    QE X (.Call (.Attribute o m apos) [] [] pos) (tMeth C m sp dvs E ta tNil) := ⟨pe_meth0 he.run c hm F hr hb hd hx ht⟩
theorem qe_make (M : Mk X.K C f) (F : FnOk X.prog X.w X.K X.mg X.base CX k f fd ps sp) (hr : Room (k + 1) X.A) (hg : Gl X x) (hm : X.mg x = some (.ref C)) (hb : Binds X.K fd ps ds) (hd : Vals dvs ds) (hx : Passes CX X E)
    (ha : QA X (e :: es) t) (hdb : (x == ("__debug__" : Str)) = false := by decide) (he : starEach (e :: es) X.env = (false, eval e X.env) :: starEach es X.env := by rfl) (hpl : (backTo pos (starEach es X.env)).any (·.1) = false := by rfl) :
    QE X (.Call (.Name x p) (e :: es) [] pos) (tMake C sp dvs E t) := ⟨pe_make M F hr hg hm hb hd hx ha.run hdb he hpl⟩
theorem qe_dnewT : QE X (.Dict [] [] pos) tDNewT := ⟨pe_dnewT⟩
end
section
variable {X : Cx} {pins : List (Addr × Obj)} {σ : St} {H : Hp} {s : Shared} {a : Addr} {y d : V} {u r : Value} {A : Around} {E : Value → Shared → Prop}
theorem d_setdef {kvs : List (Key × V)} {k : Key} {v : V} {Q : Value → Shared → Prop} (I : Inv X pins σ H s) (e : H a = some (.dK kvs)) (ry : RelV (kV k) u) (rv : RelV v r) (hl : kvs.length < sizeLine)
    (h1 : ∀ z w' s', valV kvs k = some z → Inv X pins σ H s' → RelV z w' → Q w' s') (h2 : valV kvs k = none → ∀ s', Inv X pins σ (upd H a (.dK (putK kvs k v))) s' → Q r s') :
    wpAny (model X.prog X.w) A (call (.builtin "dict.setdefault") [.ref a, u, r]) Q E s := by
  obtain ⟨z, hd, vs, rel, dd⟩ := dk_of I.hok e
  refine call_meetsIn PySem.F.slot_dict_setdefault dd.typeIs PySem.F.entry_dict_setdefault (PySem.F.args_dict_setdefault_3 _ _ _) (kt_meets_setdefault (mixKind X.prog X.w) a (kV_is ry) hd r) ⟨vs, dd, by rw [← rel.length]; exact z, fun w' hw => ?_, fun hn h' dd' hs => ?_⟩
  · have rr := rel.val k
    rw [hw] at rr
    cases hz : valV kvs k with
    | none => rw [hz] at rr; exact rr.elim
    | some zz => rw [hz] at rr; exact h1 zz w' _ hz (I.tok _) rr
  · have hnv : valV kvs k = none := by
      have rr := rel.val k
      rw [hn] at rr
      cases hz : valV kvs k with
      | none => rfl
      | some zz => rw [hz] at rr; exact rr.elim
    refine h2 hnv _ ?_
    have he : ∃ q, h'.get? a = some q := let ⟨q, _, _, hq, _⟩ := dd'; ⟨q, hq⟩
    have hl2 : (putK kvs k v).length ≤ sizeLine := by have := length_putK kvs k v; lia
    exact d_write I (by rw [e]; exact True.intro) hs he (dk_new hl2 hd (rel.put k rv) dd')
end
noncomputable def tDSet (td ty tx : TE) : TE := fun σ H Q => td σ H fun x H1 => ∃ a, x = .ref a ∧ IsD H1 a ∧ ty σ H1 fun y H2 => tx σ H2 fun z H3 => ∃ kvs k, H3 a = some (.dK kvs) ∧ y = kV k ∧ kvs.length < sizeLine ∧
  (∀ v, valV kvs k = some v → Q v H3) ∧ (valV kvs k = none → Q z (upd H3 a (.dK (putK kvs k z))))
section
variable {X : Cx} {o e f : Expr} {apos cpos : Pos} {td ty tx : TE}
theorem pe_dset (ho : PE X o td) (he : PE X e ty) (hf : PE X f tx) (m : M2 X o "setdefault" apos e f cpos) : PE X (.Call (.Attribute o "setdefault" apos) [e, f] [] cpos) (tDSet td ty tx) := by
  intro pins s σ H Q I h
  refine wpAny_Call_method m.base m.few m.line PySem.F.plainAttrs_dict PySem.F.slot_dict_setdefault PySem.F.type_dict_setdefault (thn (ho pins s σ H _ I h) fun u s1 zq => ?_)
  obtain ⟨x, H1, I1, rx, a, ex, d, q1⟩ := zq
  subst ex
  obtain rfl : u = Value.ref a := rx
  obtain ⟨t1, t2, _⟩ := isD_at I1 d
  refine ⟨t1, t2, ?_⟩
  rw [m.trees]
  refine Calls.callWith_builtin rfl (Calls.evalArgs_plain (Calls.spliced_cons (thn (he pins s1 σ H1 _ I1 q1) fun iv s2 ⟨y, H2, I2, ry, q2⟩ =>
    Calls.spliced_cons (thn (hf pins s2 σ H2 _ I2 q2) fun fv s3 ⟨z, H3, I3, rz, kvs, k, ea, ey, hl, q3, q4⟩ => Calls.spliced_nil ?_))))
  subst ey
  exact d_setdef I3 ea ry rz hl (fun v w' s4 l I4 rw' => ⟨v, H3, I4, rw', q3 v l⟩) fun l s4 I4 => ⟨z, _, I4, rz, q4 l⟩
theorem qe_dset (ho : QE X o td) (he : QE X e ty) (hf : QE X f tx) (m : M2 X o "setdefault" apos e f cpos := by exact ⟨rfl, rfl, rfl, rfl⟩) : QE X (.Call (.Attribute o "setdefault" apos) [e, f] [] cpos) (tDSet td ty tx) := ⟨pe_dset ho.run he.run hf.run m⟩
end
section
variable {prog : Program} {w : World} {A : Around} {E : Value → Shared → Prop} {s : Shared} {J d : Addr} {n ep : Nat} {es : Array DictEntry} {od : Obj}
theorem ent_look {Q : Option Value → Shared → Prop} (hj : s.heap.IsKeyIter J d n es.size ep) (h1 : s.heap.get? d = some od) (h2 : od.data = .dict es ep) (hh : A.handled = none)
    (q1 : ∀ (hn : n < es.size) h', h'.IsKeyIter J d (n + 1) es.size ep → Heap.SameBut J s.heap h' → Q (some es[n].key) { s with heap := h' }) (q2 : es.size ≤ n → ∀ h', Heap.ExtBut J s.heap h' → Q none { s with heap := h' }) :
    wpAny (model prog w) A (pyNext (.ref J)) Q E s := by
  obtain ⟨oj, g1, g2, g3⟩ := id hj
  have ty := hj.typeIs
  have no : Builtin.Dict_items.ownsTuple "dict_keyiterator" = false := by decide
  have nn : ¬ ((Value.ref d == Value.none) = true) := Bool.false_ne_true
  have pos : ¬ ((n : Int) < 0) := by lia
  unfold pyNext
  refine wpAny_bind (wpAny_attempt (wpAny_callSpecial?_slot (name := Str.ofString "__next__") ty PySem.F.slot_dict_keyiterator_next (wpAny_call_entry PySem.F.slot_dict_keyiterator_next ty PySem.F.entry_dict_keyiterator_next ?_ (PySem.F.args_dict_keyiterator_next_1 _))))
  refine wpAny_bind (wpAny_pure (wpAny_bind (wpAny_bind ?_)))
  first | refine wpAny_bind (wpAny_typeNameOfWhole_keyiter ty (wpAny_pure (wpAny_bind (wpAny_fieldsOf g1 g3 ?_)))) | refine wpAny_bind (wpAny_typeNameOf_keyiter ty (wpAny_pure (wpAny_bind (wpAny_fieldsOf g1 g3 ?_))))
  simp only [no, Bool.false_eq_true, if_false]
  show wpAny _ _ (if (Value.ref d == Value.none) = true then _ else _) _ _ s; rw [if_neg nn]
  refine wpAny_bind (wpAny_pure (wpAny_bind (wpAny_dictEntries h1 h2 ?_))); rw [if_neg (by simp)]
  refine wpAny_bind (wpAny_pure (wpAny_bind (wpAny_dictEpoch h1 h2 ?_))); rw [if_neg (by simp)]; refine wpAny_pure ?_
  by_cases hn : n < es.size
  · simp only [pos, if_false, Int.toNat_natCast, Array.getElem?_eq_getElem hn]
    refine wpAny_bind ?_
    first | refine wpAny_bind (wpAny_typeNameOfWhole_keyiter ty (wpAny_pure (wpAny_bind (wpAny_isOneOf_keyiter ty ?_)))) | refine wpAny_bind (wpAny_typeNameOf_keyiter ty (wpAny_pure (wpAny_bind (wpAny_isOneOf_keyiter ty ?_))))
    show wpAny _ _ (setField (.ref J) 1 (rawInt ((n : Int) + 1)) >>= _) _ _ s; refine wpAny_bind (wpAny_setField g1 g3 (by simp) ?_)
    have hj' : (s.heap.update J (Obj.mapFields (·.setIfInBounds 1 (rawInt ((n : Int) + 1))))).IsKeyIter J d (n + 1) es.size ep := ⟨_, Heap.get?_update_self _ g1 (Obj.isFreed_of_fields (Obj.data_mapFields g3 _)), (Obj.cls_mapFields ..).trans g2, (by rw [Obj.data_mapFields g3]; simp [rawInt])⟩
    refine wpAny_bind (wpAny_holding (wpAny_bind (wpAny_isOneOf_keyiter (s := { s with heap := s.heap.update J (Obj.mapFields (·.setIfInBounds 1 (rawInt ((n : Int) + 1)))) }) hj'.typeIs ?_)))
    exact wpAny_pure (wpAny_pure ⟨_, rfl, wpAny_pure (q1 hn _ hj' (Heap.SameBut.update ..))⟩)
  · simp only [pos, if_false, Int.toNat_natCast, Array.getElem?_eq_none (Nat.le_of_not_lt hn)]
    refine wpAny_bind ?_
    first | refine wpAny_bind (wpAny_typeNameOfWhole_keyiter ty (wpAny_pure ?_)) | refine wpAny_bind (wpAny_typeNameOf_keyiter ty (wpAny_pure ?_))
    show wpAny _ _ (setField (.ref J) 0 .none >>= _) _ _ s; refine wpAny_bind (wpAny_setField g1 g3 (by simp) (wpAny_bind ?_))
    simp only [newExc, newTuple]; refine wpAny_bind (wpAny_newObj_type ?_ (by size_fits))
    refine wpAny_bind (m := firstArgMember _ _) (wpAny_of_eq (a := Value.none) (by first | rfl | (simp only [firstArgMember]; rfl)) (wpAny_newObj_type ?_ (by size_fits)))
    simp only [raiseNew]; refine wpAny_bind (wpAny_handled ?_); rw [show A.in1.handled = none from hh]
    refine wpAny_bind (wpAny_pure (wpAny_throw ?_)); have sub := isSubtype_stop
    refine wpAny_bind (wpAny_isInstance (T := "StopIteration") (b := true) ⟨_, Heap.get?_push_size _ rfl, rfl⟩ sub ?_)
    exact wpAny_pure (q2 (Nat.le_of_not_lt hn) _ (((Heap.SameBut.update ..).extBut.push _).push _))
theorem ent_iter {Q : Value → Shared → Prop} (hd : (d == sysModules) = false) (h1 : s.heap.get? d = some od) (hc : od.ExactDict) (h2 : od.data = .dict es ep)
    (q : Q (.ref s.heap.objs.size) { s with heap := s.heap.push { cls := .type "dict_keyiterator", data := .fields #[.ref d, .int 0 0, .int es.size 0, .int ep 0] } }) : wpAny (model prog w) A (pyIter (.ref d)) Q E s := by
  have ty : s.TypeIs (.ref d) "dict" := ⟨od, h1, hc.1⟩
  refine wpAny_pyIter_slot ty PySem.F.slot_dict_iter (wpAny_call_entry PySem.F.slot_dict_iter ty PySem.F.entry_dict_iter ?_ (PySem.F.args_dict_iter_1 _))
  unfold Builtin.«dict.__iter__»; refine wpAny_bind ?_; unfold Builtin.Dict.dictSlotNone
  refine wpAny_bind (wpAny_notOrdered_dict ty (wpAny_pure ?_))
  show wpAny _ _ (Builtin.Dict.showsAll d >>= _) _ _ s; unfold Builtin.Dict.showsAll
  rw [if_neg (show ¬ (d == sysModules) = true by rw [hd]; exact Bool.false_ne_true)]
  refine wpAny_bind (wpAny_pure (wpAny_bind (wpAny_dictEntries h1 h2 (wpAny_bind (wpAny_dictEpoch h1 h2 ?_)))))
  exact wpAny_bind (wpAny_newObj_type (wpAny_pure ⟨_, rfl, "dict_keyiterator", _, ⟨_, Heap.get?_push_size _ rfl, rfl⟩, PySem.F.slot_dict_keyiterator_next.lookup, q⟩))
end
section
variable {X : Cx}
theorem call_any (hc : X.calm = true) : CallR X (.builtin "any") (fun xs H Q => ∃ (a : Addr) (bs : List Bool), xs = [.ref a] ∧ SqL X.K H a (bs.map V.bl) ∧ Q (.bl (bs.any id)) H) := by
  intro pins s σ H xs us Q I r h
  obtain ⟨a, bs, rfl, hq, q⟩ := h
  obtain ⟨u, rfl, ru⟩ := r.one
  cases ru
  obtain ⟨its, rv, p, hz⟩ := I.list hq
  have hlt : a < s.heap.objs.size := by obtain ⟨o, n, e, _⟩ := p; exact Heap.lt_size e
  refine call_any_walk (wpAny_pyIter_list p.isList ?_)
  have len : bs.length = its.length := by have := rv.length; simpa using this
  refine ⟨s.heap.objs.size, _, _, _, _, _, fun i => (bs[i]?).getD false, rfl, Walks.list (A := X.A.in1) (show X.A.in1.handled = none from I.ok.hd hc) s.heap.objs.size a (Nat.ne_of_lt hlt) its.toArray, ⟨⟨_, Heap.get?_push_size _ rfl, rfl, rfl⟩, p.isList.at fun o e => Heap.get?_push_of_some _ e⟩, ?_, ?_⟩
  · intro i v s' Q' E' hv hQ
    have hv' : its[i]? = some v := by simpa using hv
    cases hb : bs[i]? with
    | none =>
      have h1 := List.getElem?_eq_none_iff.mp hb
      have h2 := (List.getElem?_eq_some_iff.mp hv').1
      lia
    | some b =>
      obtain ⟨u, hu, ru⟩ := rv.get (i := i) (x := V.bl b) (by rw [List.getElem?_map, hb] <;> rfl)
      rw [hv'] at hu
      cases hu
      cases ru
      simp only [hb, Option.getD_some] at hQ
      exact wpAny_truthy_bool hQ
  · intro h' tk hk
    have e : (List.range its.toArray.size).any (fun i => (bs[i]?).getD false) = bs.any id := by
      rw [List.size_toArray, ← len]
      rw [Bool.eq_iff_iff]
      simp only [List.any_eq_true, List.mem_range, id]
      constructor
      · rintro ⟨i, hi, e⟩
        rw [List.getElem?_eq_getElem hi, Option.getD_some] at e
        exact ⟨_, List.getElem_mem hi, e⟩
      · rintro ⟨b, hb, e⟩
        obtain ⟨i, hi, e2⟩ := List.mem_iff_getElem.mp hb
        exact ⟨i, hi, by rw [List.getElem?_eq_getElem hi, Option.getD_some, e2]; exact e⟩
    have fr : FpOk X pins H s.heap.objs.size := I.fpOk (Nat.le_refl _) (I.hok.fresh (Nat.le_refl _))
    refine ⟨.bl (bs.any id), H, ?_, by rw [e]; rfl, q⟩
    have I1 : Inv X pins σ H { s with heap := h', toks := tk } := I.kept (h' := h') (t' := tk) fun b o e => hk b o (fun z => by
      have : b = s.heap.objs.size := by simpa using z
      exact absurd (Heap.lt_size e) (by rw [this]; exact Nat.lt_irrefl _)) (Heap.get?_push_of_some _ e)
    exact I1
end
noncomputable def NF (X : Cx) (a : Addr) : Prop := ∀ o u, X.H₀ a ≠ some (.frz o u)
section
variable {X : Cx} {pins : List (Addr × Obj)} {σ : St} {H : Hp} {s : Shared} {a : Addr} {u : HO} {o : Obj}
theorem Inv.nf (I : Inv X pins σ H s) (e : H a = some u) (hu : ∀ o v, u ≠ .frz o v) : NF X a := fun o v z => by
  have := I.base.frzs a o v z
  rw [e] at this
  exact hu o v (Option.some.inj this)
theorem Inv.thaw (I : Inv X pins σ H s) (e : H a = some (.frz o u)) (nf : NF X a) : Inv X pins σ (upd H a u) s := by
  have k : ∀ b v, H b = some v → (∀ o' u', v ≠ .frz o' u') → (upd H a u) b = some v := fun b v q n => by
    rw [upd_ne fun z => by rw [z, e] at q; exact n o u (Option.some.inj q).symm]; exact q
  have k0 : ∀ b, H b = none → (upd H a u) b = none := fun b q => by
    rw [upd_ne fun z => by rw [z, e] at q; cases q]; exact q
  have hok : HOk X.prog X.w (upd H a u) s.heap := fun b v q => by
    have st : ∀ {c : Addr} {w' : HO}, ObjOk X.prog X.w H s.heap c w' → ObjOk X.prog X.w (upd H a u) s.heap c w' := fun x => x.stay (fun _ _ _ z => z) (fun c z => k c _ z fun _ _ y => by cases y) fun c xs z => k c _ z fun _ _ y => by cases y
    by_cases hb : b = a
    · subst hb
      rw [upd_same] at q
      cases q
      exact st (I.hok b _ e).2
    · rw [upd_ne hb] at q
      exact st (I.hok b v q)
  have bs := I.base
  refine ⟨I.ok, I.os, I.bare, ⟨bs.keep, bs.slot, fun b ob q n hx => k0 b (bs.free b ob q n hx), bs.there, fun b xs q => k b _ (bs.tups b xs q) (fun _ _ y => nomatch y), fun b o' u' q => ?_, fun b ps q => ?_⟩, I.loc, I.cell, k0 _ I.free, fun x c z => k0 _ (I.freeC x c z), fun p hp => ?_, hok, I.len⟩
  · have q2 := bs.frzs b o' u' q
    rw [upd_ne fun z => by rw [z] at q; exact nf o' u' q]; exact q2
  · obtain ⟨m, q2⟩ := bs.tbls b ps q
    exact ⟨m, k b _ q2 fun _ _ y => by cases y⟩
  · obtain ⟨p1, p2, p3⟩ := I.pin p hp
    exact ⟨p1, k0 _ p2, p3⟩
noncomputable def tThaw (X : Cx) (t : TE) : TE := fun σ H Q => t σ H fun v H2 => ∃ a o u, H2 a = some (.frz o u) ∧ NF X a ∧ Q v (upd H2 a u)
theorem qe_thaw {ex : Expr} {t : TE} (h : QE X ex t) : QE X ex (tThaw X t) := ⟨fun pins s σ H Q I q => thn (h.run pins s σ H _ I q) fun w' s1 ⟨v, H1, I1, r, a, o, u, e, nf, q1⟩ => ⟨v, _, I1.thaw e nf, r, q1⟩⟩
end
noncomputable def Itd (a : Addr) (od : Obj) (kvs : List (List Key × V)) (bs : List Addr) : It where
  go := fun i H => H a = some (.frz od (.dT kvs)) ∧ i < bs.length
  yld := fun i H x H' => H' = H ∧ (bs.map V.ref)[i]? = some x
  stop := fun i H => H a = some (.frz od (.dT kvs)) ∧ bs.length ≤ i
noncomputable def DEnt (od : Obj) (bs : List Addr) (es : Array DictEntry) (ep : Nat) : Prop := od.ExactDict ∧ od.data = .dict es ep ∧ es.toList.map (·.key) = bs.map Value.ref
theorem turn_dT {P : Program} {w : World} {K : PySem.W.Frag} {tg : Expr} {a J : Addr} {od : Obj} {kvs : List (List Key × V)} {bs : List Addr} {es : Array DictEntry} {ep : Nat} (hd : DEnt od bs es ep) :
    Turn P w K tg (Itd a od kvs bs) [J] J (fun i h => h.IsKeyIter J a i es.size ep) where
  mem := by simp
  obj := fun i h st b hb => by
    have e : b = J := by simpa using hb
    subst e
    obtain ⟨o, h1, h2, h3⟩ := st
    exact ⟨o, h1, fun v z => by rw [h3] at z; cases z⟩
  keep := fun i h h' st k => by
    obtain ⟨o, h1, h2⟩ := st
    exact ⟨o, k J (by simp) o h1, h2⟩
  item := by
    intro X hP hw hK hc i pins s σ H E I hf st hg
    subst hP hw hK
    obtain ⟨f0, f1, f2, f3, f4, f5⟩ := hf J (by simp)
    obtain ⟨g1, g2⟩ := I.hok a _ hg.1
    have hsz : es.size = bs.length := by
      have := congrArg List.length hd.2.2
      rw [List.length_map, List.length_map, Array.length_toList] at this; exact this
    refine ent_look st g1 hd.2.1 (I.ok.hd hc) (fun hn h' st' sb => ?_) (fun hn => absurd hg.2 (by lia))
    have I1 : Inv X pins σ H { s with heap := h', toks := s.toks } := I.turned (fun b o hb e => (sb.2 b hb).trans e) f0 f1 f3 f4 f5
    have hk : es[i].key = .ref (bs[i]'hg.2) := by
      have e1 := congrArg (·[i]?) hd.2.2
      simp only [List.getElem?_map] at e1
      rw [List.getElem?_eq_getElem (by rw [Array.length_toList]; exact hn), List.getElem?_eq_getElem hg.2] at e1
      have := Option.some.inj e1
      simpa using this
    refine ⟨_, rfl, letGo_keyiter st' ⟨.ref (bs[i]'hg.2), H, I1, hk, ⟨rfl, by rw [List.getElem?_map, List.getElem?_eq_getElem hg.2]; rfl⟩, st', fun b hb => (hf b hb).1⟩⟩
  done := by
    intro X hP hw hK hc i pins s σ H E I hf st hg
    subst hP hw hK
    obtain ⟨f0, f1, f2, f3, f4, f5⟩ := hf J (by simp)
    obtain ⟨g1, g2⟩ := I.hok a _ hg.1
    have hsz : es.size = bs.length := by
      have := congrArg List.length hd.2.2
      rw [List.length_map, List.length_map, Array.length_toList] at this; exact this
    exact ent_look st g1 hd.2.1 (I.ok.hd hc) (fun hn => absurd hg.2 (by lia)) (fun _ h' eb => ⟨rfl, I.turned (t' := s.toks) (fun b o hb e => eb b o hb e) f0 f1 f3 f4 f5⟩)
  self := fun _ _ _ _ _ st h => wpAny_pyIter_keyiter st h
noncomputable def iDictT (X : Cx) (tl : TE) : TI := fun σ H R => tl σ H fun x H1 => ∃ a kvs, x = .ref a ∧ H1 a = some (.dT kvs) ∧ ∀ od bs, NF X a → Paired (fun (p : List Key × V) b => H1 b = some (.tup (p.1.map kV))) kvs bs → R (Itd a od kvs bs) (upd H1 a (.frz od (.dT kvs)))
theorem paired_bs {H : Hp} {kvs : List (List Key × V)} {xs : List (List Key × Addr × Value)} (h : Paired (fun (p : List Key × V) (q : List Key × Addr × Value) => p.1 = q.1 ∧ H q.2.1 = some (.tup (p.1.map kV)) ∧ RelV p.2 q.2.2) kvs xs) : Paired (fun (p : List Key × V) b => H b = some (.tup (p.1.map kV))) kvs (xs.map (·.2.1)) := by
  induction h with
  | nil => exact .nil
  | cons h t ih => exact .cons h.2.1 ih
theorem pi_dictT {X : Cx} {tg l : Expr} {tl : TE} (hl : PE X l tl) : PI X tg l (iDictT X tl) := by
  intro pins s σ H R I h
  refine thn (hl pins s σ H _ I h) fun v s1 zq => ?_
  obtain ⟨x, H1, I1, r1, a, kvs, ex, e, q⟩ := zq
  subst ex
  cases r1
  obtain ⟨z, hd, xs, rel, od, es, ep, h1, hc, h2, h3, h4⟩ := (show ObjOk X.prog X.w H1 s1.heap a (.dT kvs) from I1.hok a _ e)
  have I2 : Inv X pins σ (upd H1 a (.frz od (.dT kvs))) s1 := I1.write (x := a) (e := a) (h' := s1.heap) (t' := s1.toks) (by rw [e]; exact True.intro) (.inl rfl) (fun _ _ _ z => z) ⟨od, h1⟩ ⟨h1, z, hd, xs, Paired.mapP rel fun p q w' => ⟨w'.1, by rw [upd_ne (ne_of w'.2.1 e (fun z => nomatch z))]; exact w'.2.1, w'.2.2⟩, od, es, ep, h1, hc, h2, h3, h4⟩
  have ent : DEnt od (xs.map (·.2.1)) es ep := ⟨hc, h2, by rw [h3, List.map_map, List.map_map]; rfl⟩
  refine ent_iter hd h1 hc h2 ?_
  refine ⟨s1.heap.objs.size, [s1.heap.objs.size], _, _, upd H1 a (.frz od (.dT kvs)), rfl, I2.kept (t' := s1.toks) fun b o e => Heap.get?_push_of_some _ e, turn_dT ent, ⟨_, Heap.get?_push_size _ rfl, rfl, rfl⟩, fun b hb => ?_, q od _ (I1.nf e fun _ _ z => nomatch z) (paired_bs rel)⟩
  have e : b = s1.heap.objs.size := by simpa using hb
  subst e
  exact I2.fpOk (Nat.le_refl _) (I2.hok.fresh (Nat.le_refl _))
theorem qi_dictT {X : Cx} {tg l : Expr} {tl : TE} (hl : QE X l tl) : QI X tg l (iDictT X tl) := ⟨pi_dictT hl.run⟩
theorem jseq_dT {a : Addr} {od : Obj} {kvs : List (List Key × V)} {bs : List Addr} : JSeq (Itd a od kvs bs) (fun H => H a = some (.frz od (.dT kvs))) (bs.map V.ref) where
  go := fun i H h hi => ⟨h, by rw [List.length_map] at hi; exact hi⟩
  stop := fun i H h hi => ⟨h, by rw [List.length_map] at hi; exact hi⟩
  yld := fun i H x H' _ h y => y
  stay := fun H H' h e => e _ _ h
end L2
namespace Mir
open PySem L2
noncomputable def noNames : List Str := ["nil", "any", "is", "not", "cell", "stretch", "tree", "nothing", "then", "with"]
theorem eqV_str (a b : Str) : eqV (.str a) (.str b) = decide (a = b) := by
  show (a == b) = decide (a = b)
  by_cases h : a = b
  · subst h; simp
  · rw [decide_eq_false h]; exact beq_eq_false_iff_ne.mpr h
theorem inV_strs (x : Str) (l : List Str) : inV (.str x) (l.map V.str) = decide (x ∈ l) := by
  unfold inV
  rw [Bool.eq_iff_iff, List.any_eq_true, decide_eq_true_eq]
  constructor
  · rintro ⟨y, hy, e⟩
    obtain ⟨z, hz, rfl⟩ := List.mem_map.mp hy
    rw [eqV_str, decide_eq_true_eq] at e
    exact e ▸ hz
  · intro h
    exact ⟨.str x, List.mem_map.mpr ⟨x, h, rfl⟩, by rw [eqV_str]; simp⟩
theorem flat_strs (l : List Str) : (l.map V.str).all flatV = true := by
  rw [List.all_eq_true]
  intro v hv
  obtain ⟨z, _, rfl⟩ := List.mem_map.mp hv
  rfl
end Mir
namespace K24
open PySem PySem.Spec L2 Mir
noncomputable def top (i : Nat) : Stmt := PySem.Challenge.pw_apart_k24_whole_going_on.main.body.getD i (.Pass ⟨0, 0, 0, 0⟩)
structure Con (K : PySem.W.Frag) (mg : Str → Option Value) (w : World) : Prop where
  noNames : ∃ a, Glob mg "NO_NAMES" (.ref a) ∧ ∀ H, SqT K H a (noNames.map V.str)
  min : mg "min" = none
  len : mg "len" = none
  all : mg "all" = none
  any : mg "any" = none
  isi : mg "isinstance" = none
  list : mg "list" = none
  int : mg "int" = none
  bool : mg "bool" = none
  str : mg "str" = none
  dict : mg "dict" = none
  sorted : mg "sorted" = none
  set : mg "set" = none
  sum : mg "sum" = none
  range : mg "range" = none
  tuple : mg "tuple" = none
  max : mg "max" = none
  zip : mg "zip" = none
theorem iteB {b : Bool} {A B : Prop} (h1 : b = true → A) (h2 : b = false → B) : if b = true then A else B := by
  cases b with
  | true => rw [if_pos rfl]; exact h1 rfl
  | false => rw [if_neg Bool.false_ne_true]; exact h2 rfl
theorem Paired.nth {α β : Type} {F : α → β → Prop} : ∀ {l₁ : List α} {l₂ : List β} {i : Nat} {a : α}, Paired F l₁ l₂ → l₁[i]? = some a → ∃ b, l₂[i]? = some b ∧ F a b
  | _, _, _, _, .nil, e => by simp at e
  | _, _, 0, _, .cons h _, e => by simp at e; subst e; exact ⟨_, rfl, h⟩
  | _, _, i + 1, _, .cons _ t, e => by
    obtain ⟨b, e1, e2⟩ := Paired.nth (i := i) t (by simpa using e)
    exact ⟨b, by simpa using e1, e2⟩
structure Cal (K : PySem.W.Frag) (mg : Str → Option Value) (x : Str) (f : Addr) (fd : FuncData) (ps : List Str) : Prop where
  name : mg x = some (.ref f)
  keep : PySem.W.keepIn K (.ref f) = true
  bind : Binds K fd ps []
theorem ref_at {l : List Addr} {i : Nat} {x : V} (hx : (l.map V.ref)[i]? = some x) : ∃ a, l[i]? = some a ∧ x = .ref a := by
  rw [List.getElem?_map] at hx
  cases h : l[i]? with
  | none => rw [h] at hx; cases hx
  | some a => rw [h] at hx; exact ⟨a, rfl, (Option.some.inj hx).symm⟩
theorem Paired.at2 {α β : Type} {F : α → β → Prop} {l₁ : List α} {l₂ : List β} {i : Nat} {a : α} {b : β} (h : Paired F l₁ l₂) (h1 : l₁[i]? = some a) (h2 : l₂[i]? = some b) : F a b := by
  obtain ⟨b', e1, e2⟩ := Paired.nth h h1
  rw [h2] at e1
  cases e1
  exact e2
theorem Paired.app {α β : Type} {F : α → β → Prop} : ∀ {l₁ : List α} {l₂ : List β} {m₁ : List α} {m₂ : List β}, Paired F l₁ l₂ → Paired F m₁ m₂ → Paired F (l₁ ++ m₁) (l₂ ++ m₂)
  | _, _, _, _, .nil, h => h
  | _, _, _, _, .cons h t, h2 => .cons h (Paired.app t h2)
theorem same_put {H H' : Hp} {l : Addr} (hl : H l = none) (e : Same H H') (o : HO) : Same H (upd H' l o) := fun b u q => by rw [upd_ne (ne_of_none q hl)]; exact e b u q
section
variable {K : PySem.W.Frag}
end
noncomputable def cellAt (ns : List Int) (k : Nat) : Int := (ns[k]?).getD 0
inductive spCellS (K : PySem.W.Frag) (vs : List V) (H : Hp) (Q : VK) : Prop
  | mk (a : Addr) (ns : List Int) (k : Nat) (h0 : vs = [.ref a, .int (k : Int)]) (h1 : SqL K H a (ns.map V.int)) (h2 : Q (.int (cellAt ns k)) H) : spCellS K vs H Q
noncomputable def spCell (K : PySem.W.Frag) : Sp := fun vs H Q _ => spCellS K vs H Q
theorem at_mod {α : Type} {xs : List α} {m : Int} {i : Int} (hl : (xs.length : Int) = m) (hm : 0 < m) : ∃ v, atI xs (i % m) = some v ∧ v ∈ xs := by
  have h0 := Int.emod_nonneg i (Int.ne_of_gt hm)
  have h1 := Int.emod_lt_of_pos i hm
  generalize i % m = j at h0 h1
  obtain ⟨k, rfl⟩ := Int.eq_ofNat_of_zero_le h0
  have hk : k < xs.length := by lia
  exact ⟨xs[k], atI_nat (List.getElem?_eq_getElem hk), List.getElem_mem hk⟩
noncomputable abbrev sCell : Stmt := top 17
section
variable {P : Program} {w : World} {K : PySem.W.Frag} {mg : Str → Option Value} {base : Heap} {f g : Addr} {fd gd : FuncData}
theorem scCell : FnScope ["_law_script", "_law_k"] ["_law_script", "_law_k"] (defScope sCell) := ⟨rfl, rfl, rfl, by decide +kernel, rfl, by decide +kernel, by decide +kernel⟩
theorem ok_cellAt (C : Con K mg w) (F : Fun K "_law_cell_at" "_law_cell_at" sCell f fd) : FnOk P w K mg base CX0 1 f fd ["_law_script", "_law_k"] (spCell K) := by
  refine F.okQ scCell (fun vs H Q E h => ?_) (fun cdv A outer s H vs Q E hr h => ?_)
  · obtain ⟨a, ns, k, rfl, _⟩ := h; rfl
  obtain ⟨a, ns, k, rfl, hS, q⟩ := h
  refine ⟨_, qb_cons (qs_if (qt_cmpR op_lt (qv 1) (qe_callB (lenKk (K := K) rfl) rfl C.len PySem.boot_len (qa_nm (qv 0) qa_nil)) (nomark _)) (qb_one (qs_ret (qe_ix (ixKk (K := K) rfl) (qv 0) (qv 1) (fun _ _ => rfl)))) qb_nil)
    (qb_one (qs_ret qe_int)), ?_⟩
  have hl : (ns.map V.int).length = ns.length := List.length_map _
  refine ⟨_, rfl, _, rfl, a, _, rfl, .inl hS, _, _, rfl, rfl, _, rfl, iteB (fun c => ?_) (fun c => ?_)⟩
  · have c' := of_decide_eq_true c
    rw [hl] at c'
    have hk : k < ns.length := by lia
    have e : cellAt ns k = ns[k] := by unfold cellAt; rw [List.getElem?_eq_getElem hk]; rfl
    rw [e] at q
    exact ⟨_, rfl, _, rfl, a, _, _, _, rfl, rfl, hS, atI_nat (by rw [List.getElem?_map, List.getElem?_eq_getElem hk]; rfl), q⟩
  · have c' := of_decide_eq_false c
    rw [hl] at c'
    have hk : ns.length ≤ k := by lia
    have e : cellAt ns k = 0 := by unfold cellAt; rw [List.getElem?_eq_none hk]; rfl
    rw [e] at q
    exact q
end
noncomputable def spLaw (K : PySem.W.Frag) : Sp := fun vs H Q _ => ∃ (a : Addr) (ns : List Int), vs = [.ref a] ∧ SqL K H a (ns.map V.int) ∧ ∀ H', Q (.bl true) H'
theorem sq_put {K : PySem.W.Frag} {H : Hp} {l b : Addr} {xs ys zs : List V} (hl : H l = some (.lst xs)) (h : SqT K H b zs) : SqT K (upd H l (.lst ys)) b zs := by
  rcases h with (h | ⟨o, h⟩) | h
  · have hne : b ≠ l := fun e => by rw [e, hl] at h; cases h
    exact .inl (.inl (by show upd H l _ b = _; rw [upd_ne hne]; exact h))
  · have hne : b ≠ l := fun e => by rw [e, hl] at h; cases h
    exact .inl (.inr ⟨o, by show upd H l _ b = _; rw [upd_ne hne]; exact h⟩)
  · exact .inr h
theorem qg_tup2 {X : Cx} {i j : Nat} {x y : Str} {px py pos : Pos} {k : Nat} (h1 : QG X (.Name x px) (gName i)) (h2 : QG X (.Name y py) (gName j)) (hc : X.calm = true := by rfl)
    (a1 : (assignEach [.Name x px, .Name y py] X.env).map (·.2) = assign (.Name x px) X.env :: (assignEach [.Name y py] X.env).map (·.2) := by rfl) (a2 : (assignEach [.Name y py] X.env).map (·.2) = assign (.Name y py) X.env :: (assignEach [] X.env).map (·.2) := by rfl)
    (hn : (assignEach [.Name x px, .Name y py] X.env).length = 2 := by rfl) (hst : (assignEach [.Name x px, .Name y py] X.env).findIdx? (·.1) = none := by rfl) : QG X (.Tuple [.Name x px, .Name y py] k pos) (gTup X.K 2 (gCons (gName i) (gCons (gName j) gNil))) :=
  ⟨pg_tup hc (pgs_cons h1.run (pgs_cons h2.run pgs_nil a2) a1) hn hst⟩
theorem qg_tup2K {X : Cx} {K : PySem.W.Frag} {i j : Nat} {x y : Str} {px py pos : Pos} {k : Nat} (hK : X.K = K) (h1 : QG X (.Name x px) (gName i)) (h2 : QG X (.Name y py) (gName j)) (hc : X.calm = true := by rfl)
    (a1 : (assignEach [.Name x px, .Name y py] X.env).map (·.2) = assign (.Name x px) X.env :: (assignEach [.Name y py] X.env).map (·.2) := by rfl) (a2 : (assignEach [.Name y py] X.env).map (·.2) = assign (.Name y py) X.env :: (assignEach [] X.env).map (·.2) := by rfl)
    (hn : (assignEach [.Name x px, .Name y py] X.env).length = 2 := by rfl) (hst : (assignEach [.Name x px, .Name y py] X.env).findIdx? (·.1) = none := by rfl) : QG X (.Tuple [.Name x px, .Name y py] k pos) (gTup K 2 (gCons (gName i) (gCons (gName j) gNil))) := by subst hK; exact qg_tup2 h1 h2 hc a1 a2 hn hst
theorem iteN {b : Bool} {A B : Prop} (h : b = true) (hB : B) : if (!b) = true then A else B := by rw [h]; exact hB
theorem qs_weak {X : Cx} {st : Stmt} {t t' : TS} (h : QS X st t) (w : ∀ D σ H, t' D σ H → t D σ H) : QS X st t' := ⟨fun pins s σ H D I q => h.run pins s σ H D I (w D σ H q)⟩
theorem qe_un {X : Cx} {a : Expr} {ta : TE} {pos : Pos} {op : UnaryOp} {r : V → Hp → VK → Prop} (ho : UnR X (unaryOp op) r) (ha : QE X a ta) : QE X (.UnaryOp op a pos) (tUn r ta) := ⟨pe_un ho ha.run⟩
theorem qg_tup3 {X : Cx} {i j l : Nat} {x y z : Str} {px py pz pos : Pos} {k : Nat} (h1 : QG X (.Name x px) (gName i)) (h2 : QG X (.Name y py) (gName j)) (h3 : QG X (.Name z pz) (gName l)) (hc : X.calm = true := by rfl)
    (a1 : (assignEach [.Name x px, .Name y py, .Name z pz] X.env).map (·.2) = assign (.Name x px) X.env :: (assignEach [.Name y py, .Name z pz] X.env).map (·.2) := by rfl) (a2 : (assignEach [.Name y py, .Name z pz] X.env).map (·.2) = assign (.Name y py) X.env :: (assignEach [.Name z pz] X.env).map (·.2) := by rfl) (a3 : (assignEach [.Name z pz] X.env).map (·.2) = assign (.Name z pz) X.env :: (assignEach [] X.env).map (·.2) := by rfl)
    (hn : (assignEach [.Name x px, .Name y py, .Name z pz] X.env).length = 3 := by rfl) (hst : (assignEach [.Name x px, .Name y py, .Name z pz] X.env).findIdx? (·.1) = none := by rfl) : QG X (.Tuple [.Name x px, .Name y py, .Name z pz] k pos) (gTup X.K 3 (gCons (gName i) (gCons (gName j) (gCons (gName l) gNil)))) :=
  ⟨pg_tup hc (pgs_cons h1.run (pgs_cons h2.run (pgs_cons h3.run pgs_nil a3) a2) a1) hn hst⟩
theorem qg_tup3K {X : Cx} {K : PySem.W.Frag} {i j l : Nat} {x y z : Str} {px py pz pos : Pos} {k : Nat} (hK : X.K = K) (h1 : QG X (.Name x px) (gName i)) (h2 : QG X (.Name y py) (gName j)) (h3 : QG X (.Name z pz) (gName l)) (hc : X.calm = true := by rfl)
    (a1 : (assignEach [.Name x px, .Name y py, .Name z pz] X.env).map (·.2) = assign (.Name x px) X.env :: (assignEach [.Name y py, .Name z pz] X.env).map (·.2) := by rfl) (a2 : (assignEach [.Name y py, .Name z pz] X.env).map (·.2) = assign (.Name y py) X.env :: (assignEach [.Name z pz] X.env).map (·.2) := by rfl) (a3 : (assignEach [.Name z pz] X.env).map (·.2) = assign (.Name z pz) X.env :: (assignEach [] X.env).map (·.2) := by rfl)
    (hn : (assignEach [.Name x px, .Name y py, .Name z pz] X.env).length = 3 := by rfl) (hst : (assignEach [.Name x px, .Name y py, .Name z pz] X.env).findIdx? (·.1) = none := by rfl) : QG X (.Tuple [.Name x px, .Name y py, .Name z pz] k pos) (gTup K 3 (gCons (gName i) (gCons (gName j) (gCons (gName l) gNil)))) := by subst hK; exact qg_tup3 h1 h2 h3 hc a1 a2 a3 hn hst
noncomputable def tFlat (t : TS) : TS := fun D σ H => t { D with nx := fun σ' H' => ∀ τ, τ = σ' → D.nx τ H' } σ H
theorem qs_flat {X : Cx} {st : Stmt} {t : TS} (h : QS X st t) : QS X st (tFlat t) := qs_weak h fun D σ H h => by
  have e : (fun σ' H' => ∀ τ, τ = σ' → D.nx τ H') = D.nx := by
    funext σ' H'
    exact propext ⟨fun h => h _ rfl, fun h τ e => e ▸ h⟩
  unfold tFlat at h
  rw [e] at h
  exact h
noncomputable def Kp (S : Addr → Prop) (H H' : Hp) : Prop := ∀ b o, H b = some o → ¬ S b → H' b = some o
noncomputable abbrev sNamesOf : Stmt := top 10
noncomputable def Short (x : Str) : Prop := x.length ≤ 1000
theorem cut_row {r : List Str} {k : Nat} : cutV (r.map V.str) (some (k : Int)) none = (r.drop k).map V.str := by
  unfold cutV
  rw [HT.sIx_nat, HT.sIx_none, List.length_map]
  rw [List.map_drop.symm]
  by_cases h : k ≤ r.length
  · rw [Nat.min_eq_left h, List.take_of_length_le (by simp)]
  · rw [Nat.min_eq_right (by lia), Nat.sub_self, List.take_zero, List.drop_eq_nil_of_le (by lia)]; rfl
noncomputable def ShortRows (rs : List (List Str)) : Prop := rs.length ≤ 200 ∧ ∀ r ∈ rs, r.length ≤ 5 ∧ ∀ x ∈ r, Short x
noncomputable def rowWords (r : List Str) : List Str := (r.drop 1).filter fun x => !decide (x ∈ Mir.noNames)
noncomputable def words (rs : List (List Str)) : List Str := (rs.map rowWords).flatten
theorem words_app (a b : List (List Str)) : words (a ++ b) = words a ++ words b := by unfold words; rw [List.map_append, List.flatten_append]
theorem words_snoc (a : List (List Str)) (r : List Str) : words (a ++ [r]) = words a ++ rowWords r := by rw [words_app]; unfold words; simp
theorem words_len : ∀ {rs : List (List Str)} {m : Nat}, (∀ r ∈ rs, r.length ≤ m) → (words rs).length ≤ rs.length * m
  | [], m, _ => by simp [words]
  | r :: rs, m, h => by
    have h1 := words_len (rs := rs) (m := m) (fun x hx => h x (List.mem_cons_of_mem _ hx))
    have h2 : (rowWords r).length ≤ m := by
      unfold rowWords
      have := List.length_filter_le (fun x => !decide (x ∈ Mir.noNames)) (r.drop 1)
      have := h r (List.mem_cons_self ..)
      have e := List.length_drop (i := 1) (l := r)
      lia
    have e : words (r :: rs) = rowWords r ++ words rs := by simp [words]
    rw [e, List.length_append, List.length_cons, Nat.succ_mul]
    lia
inductive spNmOfS (K : PySem.W.Frag) (vs : List V) (H : Hp) (Q : VK) : Prop
  | mk (a fs ps) (h0 : vs = [.ref a]) (h1 : TellAt K H a [fs, ps]) (h2 : ShortRows fs) (h3 : ShortRows ps) (h4 : (∀ r ∈ fs ++ ps, r ≠ [])) (h5 : (∀ ss : List Str, ss.Nodup → (∀ y ∈ ss, y ∈ words (fs ++ ps)) → ss.length < 64)) (h6 : ∀ (p : Addr) (zs : List Str) (H' : Hp), H p = none → Same H H' → H' p = some (.lst (zs.map V.str)) → zs.Nodup → (∀ y, y ∈ zs ↔ y ∈ words (fs ++ ps)) → PyProof.Rows.sortedS zs = true → Q (.ref p) H') : spNmOfS K vs H Q
noncomputable def spNmOf (K : PySem.W.Frag) : Sp := fun vs H Q _ => spNmOfS K vs H Q
section
variable {P : Program} {w : World} {K : PySem.W.Frag} {mg : Str → Option Value} {base : Heap} {f g : Addr} {fd gd : FuncData}
theorem scNamesOf : FnScope ["telling", "names", "row"] ["telling"] (defScope sNamesOf) := ⟨rfl, rfl, rfl, by decide +kernel, rfl, by decide +kernel, by decide +kernel⟩
theorem ok_namesOf (C : Con K mg w) (F : Fun K "names_of" "names_of" sNamesOf f fd) : FnOk P w K mg base CX0 1 f fd ["telling"] (spNmOf K) := by
  refine F.ok scNamesOf (fun vs H Q E h => ?_) (fun cdv A outer s H vs Q E hr h => ?_)
  · obtain ⟨a, fs, ps, rfl, _⟩ := h; rfl
  obtain ⟨a, fs, ps, rfl, ht, hf, hp, hne, h64, q⟩ := h
  obtain ⟨aN, gN, tN⟩ := C.noNames
  obtain ⟨as, t1, t2⟩ := ht
  cases t2 with
  | @cons fa _ _ _ t3 t4 =>
  cases t4 with
  | @cons pa _ _ _ t5 t6 =>
  cases t6
  obtain ⟨fas, f1, f2⟩ := t3
  obtain ⟨pas, p1, p2⟩ := t5
  refine ⟨_, pss_cons (ps_set scNamesOf.nd (i := 1) rfl (Or.inl rfl) (pe_lst pa_nil))
    (pss_cons (ps_for PassesOwn.never rfl (pi_list (pe_op op_cat (pe_ix ix_tup (pv 0) pe_int (fun _ _ => rfl)) (pe_ix ix_tup (pv 0) pe_int (fun _ _ => rfl)))) (pg_name (i := 2) scNamesOf.nd rfl (Or.inl rfl))
      (pss_one (ps_expr (pe_bm PySem.F.plainAttrs_list PySem.F.slot_list_extend PySem.F.type_list_extend mt_extend (pv 1)
        (pa_cons (pe_comp0 (pi_tup (pe_slice sl_tup (pv 2) (po_some pe_int) po_none)) (fun _ _ _ _ => pts_one (pt_cmpR (show OpR _ _ (rIn K true) from op_notIn_seq) (pv 0) (pe_g gN) (by with_unfolding_all rfl))) (fun _ _ _ _ => pv 0)) pa_nil)))))
      (pss_one (ps_ret (pe_callB (call_sorted_set rfl) rfl C.sorted PyProof.Rows.boot_sorted (pa_cons (pe_callTy (call_set rfl) rfl C.set PyProof.Rows.boot_set (pa_cons (pv 1) pa_nil)) pa_nil))))), ?_⟩
  refine ⟨Nat.zero_le _, fun n hn => ?_⟩
  have s1 : Same H (upd H n (.lst [])) := same_new hn _
  have fl : fas.length = fs.length := Paired.length f2
  have pl : pas.length = ps.length := Paired.length p2
  have b1 := hf.1
  have b2 := hp.1
  refine ⟨_, rfl, a, _, 0, .ref fa, rfl, rfl, s1.seqT t1, rfl, _, rfl, a, _, 1, .ref pa, rfl, rfl, s1.seqT t1, rfl, ?_⟩
  refine ⟨fa, pa, _, _, rfl, rfl, s1 _ _ f1, s1 _ _ p1, ?_, fun c hc => ?_⟩
  · rw [List.length_map, List.length_map]; exact Nat.le_of_lt (small1000 (by lia))
  have hcn : c ≠ n := fun e => by rw [e, upd_same] at hc; cases hc
  rw [← List.map_append]
  have s2 := same_new hc (.lst ((fas ++ pas).map V.ref))
  refine ⟨c, rfl, ⟨_, SqL.of upd_same⟩, ?_⟩
  have pr : Paired (fun b r => RowAt K H b r) (fas ++ pas) (fs ++ ps) := Paired.app f2 p2
  have pl2 : (fas ++ pas).length = (fs ++ ps).length := Paired.length pr
  have hall : ∀ r ∈ fs ++ ps, r.length ≤ 5 := fun r hr => by
    rcases List.mem_append.mp hr with h | h
    · exact (hf.2 r h).1
    · exact (hp.2 r h).1
  refine for_list (xs := (fas ++ pas).map V.ref) (fun i σ H' => Same H H' ∧ H' c = some (.lst ((fas ++ pas).map V.ref)) ∧ H' n = some (.lst ((words ((fs ++ ps).take i)).map V.str)) ∧ ∃ z, σ = [some (.ref a), some (.ref n), z]) ⟨s1.trans s2, upd_same, ?_, _, rfl⟩ (fun i σ H' _ p => SqL.of p.2.1) ?_ ?_
  · rw [upd_ne (Ne.symm hcn), upd_same]; rfl
  · rintro i v σ H' hi ⟨e, hc', hn', z, rfl⟩
    rw [List.getElem?_map] at hi
    cases hb : (fas ++ pas)[i]? with
    | none => rw [hb] at hi; cases hi
    | some b =>
      rw [hb] at hi
      have hv : v = .ref b := (Option.some.inj hi).symm
      subst hv
      obtain ⟨r, hr1, hr2⟩ := Paired.nth pr hb
      have hrm : r ∈ fs ++ ps := List.mem_of_getElem? hr1
      have hrow : RowAt K H' b r := hr2.same e
      have hr5 := hall r hrm
      have hr0 : r.length ≠ 0 := fun h => hne r hrm (List.length_eq_zero_iff.mp h)
      refine ⟨_, rfl, .inl ⟨rfl, _, SqL.of hn'⟩, _, rfl, _, rfl, b, _, rfl, hrow, ?_, fun t hT => ?_⟩
      · rw [List.length_map, show (some (1 : Int)) = some ((1 : Nat) : Int) from rfl, HT.sIx_nat]; lia
      have e1 : cutV (r.map V.str) (some 1) none = (r.drop 1).map V.str := cut_row (k := 1)
      rw [e1]
      have s3 : Same H' (upd H' t (.tup ((r.drop 1).map V.str))) := same_new hT _
      refine ⟨t, rfl, ⟨_, SqT.of upd_same⟩, ?_⟩
      refine comp_map ((r.drop 1).map V.str) (fun v => !inV v (Mir.noNames.map V.str)) id jseq_tup (SqT.of upd_same) ?_ ?_ ?_ ?_
      · rw [List.length_map, List.length_drop]; exact Nat.le_of_lt (small1000 (by lia))
      · intro v hv H2 e2 Q' q'
        obtain ⟨y, hy, rfl⟩ := List.mem_map.mp hv
        exact ⟨_, rfl, aN, _, rfl, .inr (tN _), rfl, flat_strs _, _, rfl, q' H2 (Same.refl _)⟩
      · intro v hv hpv H2 e2 Q' q'
        obtain ⟨y, hy, rfl⟩ := List.mem_map.mp hv
        exact ⟨_, rfl, q' H2 (Same.refl _)⟩
      · intro D H2 hD e' hd
        have hw : (((r.drop 1).map V.str).filter (fun v => !inV v (Mir.noNames.map V.str))).map id = (rowWords r).map V.str := by
          rw [List.map_id, List.filter_map]
          unfold rowWords
          congr 1
          apply List.filter_congr
          intro x _
          show (!inV (.str x) (Mir.noNames.map V.str)) = _
          rw [inV_strs]
        rw [hw] at hd
        have s4 : Same H H2 := (e.trans s3).trans e'
        have ht1 : (fs ++ ps).take (i + 1) = (fs ++ ps).take i ++ [r] := by rw [List.take_add_one, hr1]; rfl
        have wl := words_len hall
        have wl2 : (words ((fs ++ ps).take i)).length ≤ 200 * 5 + 200 * 5 := by
          have h1 := words_len (rs := (fs ++ ps).take i) (m := 5) (fun r hr => hall r (List.mem_of_mem_take hr))
          have h2 := List.length_take_le' i (fs ++ ps)
          rw [List.length_append] at h2
          lia
        have wl3 : (rowWords r).length ≤ 5 := by
          unfold rowWords
          have h1 := List.length_filter_le (fun x => !decide (x ∈ Mir.noNames)) (r.drop 1)
          have h2 := List.length_drop (i := 1) (l := r)
          lia
        refine ⟨n, D, _, _, rfl, rfl, e' _ _ (s3 _ _ hn'), hd, ?_, ?_⟩
        · rw [List.length_map, List.length_map]
          exact Nat.le_trans (by lia) (show (2005 : Nat) ≤ sizeLine by decide)
        refine ⟨fun b' u q' => ?_, ?_, ?_, _, rfl⟩
        · rw [upd_ne (ne_of_none q' hn)]; exact s4 _ _ q'
        · rw [upd_ne hcn]; exact e' _ _ (s3 _ _ hc')
        · rw [upd_same, ht1, words_snoc, List.map_append]
  · rintro σ H' ⟨e, hc', hn', z, rfl⟩
    rw [List.length_map, pl2, List.take_length] at hn'
    refine ⟨_, rfl, n, _, rfl, SqL.of hn', ?_, fun S ss hS hd => ?_⟩
    · have wl := words_len hall
      rw [List.length_append] at wl
      show _ < 4096
      lia
    have s5 := same_new hS (SetO P w S ss)
    refine ⟨S, ss, rfl, upd_same, h64 ss hd.nodup (fun y hy => (hd.mem y).mp hy), fun p zs hp' hzs hso => ?_⟩
    have s6 := same_new hp' (.lst (zs.map V.str))
    refine q p zs _ ?_ (e.trans (s5.trans s6)) upd_same (hzs.nodup_iff.mpr hd.nodup) (fun y => (hzs.mem_iff).trans (hd.mem y)) hso
    cases hH : H p with
    | none => rfl
    | some u => exact nomatch (s5 _ _ (e _ _ hH)).symm.trans hp'
end
theorem mem_words {rs : List (List Str)} {y : Str} : y ∈ words rs ↔ ∃ r ∈ rs, y ∈ r.drop 1 ∧ ¬ y ∈ Mir.noNames := by
  unfold words rowWords
  simp only [List.mem_flatten, List.mem_map]
  constructor
  · rintro ⟨l, ⟨r, hr, rfl⟩, hy⟩
    rw [List.mem_filter] at hy
    exact ⟨r, hr, hy.1, by simpa using hy.2⟩
  · rintro ⟨r, hr, hy, hn⟩
    exact ⟨_, ⟨r, hr, rfl⟩, List.mem_filter.mpr ⟨hy, by simpa using hn⟩⟩
end K24
namespace L2
open PySem PySem.Spec
noncomputable def dS (m : List (Str × Str)) : List (Key × V) := m.map fun p => (Sum.inr p.1, V.str p.2)
noncomputable def lkS (m : List (Str × Str)) (x : Str) : Option Str := (m.find? fun p => decide (p.1 = x)).map (·.2)
theorem valV_ds : ∀ (m : List (Str × Str)) (x : Str), valV (dS m) (Sum.inr x) = (lkS m x).map V.str
  | [], x => rfl
  | p :: m, x => by
    have ih := valV_ds m x
    by_cases h : p.1 = x
    · have e1 : valV (dS (p :: m)) (Sum.inr x) = some (.str p.2) := valV_pos (p := ((Sum.inr p.1, V.str p.2) : Key × V)) (show (Sum.inr p.1 : Key) = Sum.inr x by rw [h])
      have e2 : lkS (p :: m) x = some p.2 := by unfold lkS; simp [List.find?_cons, h]
      rw [e1, e2]; rfl
    · have e1 : valV (dS (p :: m)) (Sum.inr x) = valV (dS m) (Sum.inr x) := valV_neg (p := ((Sum.inr p.1, V.str p.2) : Key × V)) (show ¬ (Sum.inr p.1 : Key) = Sum.inr x from fun z => h (Sum.inr.inj z))
      have e2 : lkS (p :: m) x = lkS m x := by unfold lkS; simp [List.find?_cons, h]
      rw [e1, e2, ih]
noncomputable def putS (m : List (Str × Str)) (x : Str) (z : Str) : List (Str × Str) := if (m.any fun p => decide (p.1 = x)) = true then m.map (fun p => if p.1 = x then (p.1, z) else p) else m ++ [(x, z)]
theorem putK_ds (m : List (Str × Str)) (x : Str) (z : Str) : putK (dS m) (Sum.inr x) (.str z) = dS (putS m x z) := by
  unfold putK putS dS
  have ed : ∀ a b : Str, decide ((Sum.inr a : Key) = Sum.inr b) = decide (a = b) := fun a b => by
    by_cases h : a = b
    · subst h; simp
    · rw [decide_eq_false h, decide_eq_false (fun z => h (Sum.inr.inj z))]
  have e : (m.map (fun p => ((Sum.inr p.1, V.str p.2) : Key × V))).any (fun kv => decide (kv.1 = (Sum.inr x : Key))) = m.any fun p => decide (p.1 = x) := by
    rw [List.any_map]
    congr 1
    funext p
    exact ed p.1 x
  rw [e]
  split
  · rw [List.map_map, List.map_map]
    apply List.map_congr_left
    intro p _
    show (if (Sum.inr p.1 : Key) = Sum.inr x then _ else _) = _
    by_cases h : p.1 = x
    · rw [if_pos (by rw [h])]
      show _ = ((Sum.inr (if p.1 = x then (p.1, z) else p).1, V.str (if p.1 = x then (p.1, z) else p).2) : Key × V)
      rw [if_pos h]
    · rw [if_neg (fun z => h (Sum.inr.inj z))]
      show _ = ((Sum.inr (if p.1 = x then (p.1, z) else p).1, V.str (if p.1 = x then (p.1, z) else p).2) : Key × V)
      rw [if_neg h]
  · rw [List.map_append]; rfl
theorem lkS_map {x : Str} {z : Str} : ∀ (m : List (Str × Str)) (y : Str), lkS (m.map fun p => if p.1 = x then (p.1, z) else p) y = if y = x then (lkS m x).map (fun _ => z) else lkS m y
  | [], y => by unfold lkS; simp
  | p :: m, y => by
    have ih := lkS_map (x := x) (z := z) m y
    have c : ∀ (q : Str × Str) (l : List (Str × Str)) (w : Str), lkS (q :: l) w = if q.1 = w then some q.2 else lkS l w := fun q l w => by
      unfold lkS
      rw [List.find?_cons]
      by_cases h : q.1 = w
      · simp [h]
      · simp [h]
    rw [List.map_cons, c, c, c, ih]
    by_cases h1 : p.1 = x
    · by_cases h2 : y = x
      · subst h2; simp [h1]
      · have h3 : ¬ x = y := fun z => h2 z.symm
        simp [h1, h2, h3]
    · by_cases h2 : y = x
      · subst h2; simp [h1]
      · simp [h1, h2]
theorem lkS_put (m : List (Str × Str)) (x : Str) (z : Str) (y : Str) : lkS (putS m x z) y = if y = x then some z else lkS m y := by
  unfold putS
  split
  · rename_i h
    rw [lkS_map]
    by_cases h2 : y = x
    · rw [if_pos h2, if_pos h2]
      have : (lkS m x).isSome = true := by
        unfold lkS
        rw [Option.isSome_map]
        rw [List.find?_isSome]
        rw [List.any_eq_true] at h
        exact h
      cases hl : lkS m x with
      | none => rw [hl] at this; cases this
      | some v => rfl
    · rw [if_neg h2, if_neg h2]
  · rename_i h
    have hn : ∀ p ∈ m, ¬ p.1 = x := fun p hp z => h (List.any_eq_true.mpr ⟨p, hp, by simp [z]⟩)
    unfold lkS
    rw [List.find?_append]
    by_cases h2 : y = x
    · subst h2
      rw [if_pos rfl, List.find?_eq_none.mpr (fun p hp => by simp [hn p hp])]
      simp
    · have h3 : ¬ x = y := fun z => h2 z.symm
      rw [if_neg h2]
      simp [h3]
theorem putS_len (m : List (Str × Str)) (x : Str) (z : Str) : (putS m x z).length ≤ m.length + 1 := by
  unfold putS
  split
  · rw [List.length_map]; lia
  · rw [List.length_append, List.length_singleton]; lia
theorem keys_put (m : List (Str × Str)) (x z y : Str) : (lkS (putS m x z) y).isSome = true ↔ y = x ∨ (lkS m y).isSome = true := by
  rw [lkS_put]
  by_cases h : y = x
  · rw [if_pos h]; simp [h]
  · rw [if_neg h]; simp [h]
theorem lkS_mem {m : List (Str × Str)} {x : Str} : (lkS m x).isSome = true ↔ x ∈ m.map (·.1) := by
  unfold lkS
  rw [Option.isSome_map, List.find?_isSome]
  constructor
  · rintro ⟨p, hp, e⟩
    exact List.mem_map.mpr ⟨p, hp, of_decide_eq_true e⟩
  · intro h
    obtain ⟨p, hp, rfl⟩ := List.mem_map.mp h
    exact ⟨p, hp, by simp⟩
end L2
namespace Kn
open PySem PySem.Spec L2
inductive Conn (F : List (List Str)) : Str → Str → Prop
  | refl (x : Str) : Conn F x x
  | fact {u v : Str} (h : [("is" : Str), u, v] ∈ F) : Conn F u v
  | symm {x y : Str} (h : Conn F x y) : Conn F y x
  | trans {x y z : Str} (h1 : Conn F x y) (h2 : Conn F y z) : Conn F x z
theorem Conn.mono {F G : List (List Str)} (h : ∀ r ∈ F, r ∈ G) {x y : Str} (c : Conn F x y) : Conn G x y := by
  induction c with
  | refl x => exact .refl x
  | fact h1 => exact .fact (h _ h1)
  | symm _ ih => exact ih.symm
  | trans _ _ i1 i2 => exact i1.trans i2
noncomputable def stepH (h : Str → Str) (r : List Str) : Str → Str := if r.getD 0 "" = "is" then fun x => if h x = h (r.getD 2 "") then h (r.getD 1 "") else h x else h
noncomputable def headF (F : List (List Str)) : Str → Str := F.foldl stepH id
theorem headF_snoc (F : List (List Str)) (r : List Str) : headF (F ++ [r]) = stepH (headF F) r := by unfold headF; rw [List.foldl_append]; rfl
noncomputable def FactRow (r : List Str) : Prop := ∃ k u v : Str, r = [k, u, v] ∧ (k = "is" ∨ k = "not")
theorem headF_iff : ∀ (n : Nat) (F : List (List Str)), F.length = n → (∀ r ∈ F, FactRow r) → ∀ x y, headF F x = headF F y ↔ Conn F x y := by
  intro n
  induction n with
  | zero =>
    intro F hl hF x y
    have : F = [] := List.eq_nil_of_length_eq_zero hl
    subst this
    constructor
    · intro h
      have h' : x = y := h
      subst h'
      exact .refl x
    · intro c
      show x = y
      induction c with
      | refl x => rfl
      | fact h => cases h
      | symm _ ih => exact ih.symm
      | trans _ _ i1 i2 => exact i1.trans i2
  | succ n ih =>
    intro F hl hF
    have hne : F ≠ [] := fun z => by rw [z] at hl; cases hl
    obtain ⟨G, r, rfl⟩ : ∃ G r, F = G ++ [r] := ⟨F.dropLast, F.getLast hne, (List.dropLast_concat_getLast hne).symm⟩
    have hGl : G.length = n := by rw [List.length_append] at hl; simpa using hl
    have hG : ∀ r' ∈ G, FactRow r' := fun r' h => hF r' (List.mem_append.mpr (.inl h))
    have I := ih G hGl hG
    have mono : ∀ {x y}, Conn G x y → Conn (G ++ [r]) x y := fun c => c.mono fun r' h => List.mem_append.mpr (.inl h)
    obtain ⟨k, u, v, rfl, hk⟩ := hF r (List.mem_append.mpr (.inr (List.mem_singleton.mpr rfl)))
    intro x y
    rw [headF_snoc]
    unfold stepH
    rcases hk with rfl | rfl
    · rw [if_pos (show ([("is" : Str), u, v].getD 0 "") = "is" from rfl)]
      show (if headF G x = headF G v then headF G u else headF G x) = (if headF G y = headF G v then headF G u else headF G y) ↔ _
      have huv : Conn (G ++ [[("is" : Str), u, v]]) u v := .fact (List.mem_append.mpr (.inr (List.mem_singleton.mpr rfl)))
      constructor
      · intro h
        by_cases hx : headF G x = headF G v
        · by_cases hy : headF G y = headF G v
          · exact mono ((I x y).mp (hx.trans hy.symm))
          · rw [if_pos hx, if_neg hy] at h
            exact (mono ((I x v).mp hx)).trans (huv.symm.trans (mono ((I u y).mp h)))
        · by_cases hy : headF G y = headF G v
          · rw [if_neg hx, if_pos hy] at h
            exact (mono ((I x u).mp h)).trans (huv.trans (mono ((I y v).mp hy)).symm)
          · rw [if_neg hx, if_neg hy] at h
            exact mono ((I x y).mp h)
      · intro c
        induction c with
        | refl x => rfl
        | @fact a b h =>
          rcases List.mem_append.mp h with h | h
          · have := (I a b).mpr (.fact h)
            rw [this]
          · have h' := List.mem_singleton.mp h
            simp only [List.cons.injEq, and_true, true_and] at h'
            obtain ⟨rfl, rfl⟩ := h'
            rw [if_pos rfl]
            by_cases hx : headF G a = headF G b
            · rw [if_pos hx]
            · rw [if_neg hx]
        | symm _ ih => exact ih.symm
        | trans _ _ i1 i2 => exact i1.trans i2
    · have hni : ¬ ("not" : Str) = "is" := by decide +kernel
      rw [if_neg (show ¬ ([("not" : Str), u, v].getD 0 "") = "is" from hni)]
      rw [I x y]
      constructor
      · exact mono
      · intro c
        induction c with
        | refl x => exact .refl x
        | @fact a b h =>
          rcases List.mem_append.mp h with h | h
          · exact .fact h
          · have h' := List.mem_singleton.mp h
            simp only [List.cons.injEq] at h'
            exact absurd h'.1.symm hni
        | symm _ ih => exact ih.symm
        | trans _ _ i1 i2 => exact i1.trans i2
theorem headF_conn {F : List (List Str)} (hF : ∀ r ∈ F, FactRow r) (x y : Str) : headF F x = headF F y ↔ Conn F x y := headF_iff F.length F rfl hF x y
noncomputable def hdS (m : List (Str × Str)) (x : Str) : Str := (lkS m x).getD x
structure HeadsOk (m : List (Str × Str)) (h : Str → Str) : Prop where
  hd : ∀ x, hdS m x = h x
  key : ∀ x v, lkS m x = some v → (lkS m v).isSome = true
theorem HeadsOk.start : HeadsOk [] id := ⟨fun _ => rfl, fun x v h => by cases h⟩
theorem HeadsOk.dflt {m : List (Str × Str)} {h : Str → Str} (H : HeadsOk m h) {u : Str} (hu : lkS m u = none) : HeadsOk (putS m u u) h ∧ h u = u := by
  have e : h u = u := by rw [← H.hd]; unfold hdS; rw [hu]; rfl
  refine ⟨⟨fun x => ?_, fun x v hv => ?_⟩, e⟩
  · unfold hdS
    rw [lkS_put]
    by_cases hx : x = u
    · rw [if_pos hx, hx, e]; rfl
    · rw [if_neg hx]; exact H.hd x
  · rw [keys_put]
    rw [lkS_put] at hv
    by_cases hx : x = u
    · rw [if_pos hx] at hv; exact .inl (Option.some.inj hv).symm
    · rw [if_neg hx] at hv; exact .inr (H.key x v hv)
end Kn
namespace Kn
open PySem PySem.Spec L2
noncomputable def mv (g k z : Str) : Str := if z = g then k else z
theorem mv_mv (g k z : Str) : mv g k (mv g k z) = mv g k z := by
  unfold mv
  by_cases h : z = g
  · rw [if_pos h]; split <;> rfl
  · rw [if_neg h, if_neg h]
theorem HeadsOk.step {m m' : List (Str × Str)} {h : Str → Str} (H : HeadsOk m h) {u v : Str} (hu : (lkS m u).isSome = true) (hv : (lkS m v).isSome = true) (hm : ∀ x, lkS m' x = (lkS m x).map (mv (h v) (h u))) : HeadsOk m' (stepH h [("is" : Str), u, v]) := by
  have val : ∀ {y : Str}, (lkS m y).isSome = true → lkS m y = some (h y) := fun {y} hy => by
    obtain ⟨z, hz⟩ := Option.isSome_iff_exists.mp hy
    rw [hz, ← H.hd]
    unfold hdS
    rw [hz]; rfl
  have e : ∀ x, stepH h [("is" : Str), u, v] x = mv (h v) (h u) (h x) := fun x => by
    unfold stepH
    rw [if_pos (show ([("is" : Str), u, v].getD 0 "") = "is" from rfl)]
    rfl
  refine ⟨fun x => ?_, fun x z hz => ?_⟩
  · rw [e]
    unfold hdS
    rw [hm]
    cases hx : lkS m x with
    | some z =>
      have := val (y := x) (by rw [hx]; rfl)
      rw [hx] at this
      rw [Option.some.inj this]; rfl
    | none =>
      have hxx : h x = x := by rw [← H.hd]; unfold hdS; rw [hx]; rfl
      show x = mv (h v) (h u) (h x)
      unfold mv
      rw [hxx, if_neg]
      intro z
      have := H.key v (h v) (val hv)
      rw [← z, hx] at this
      cases this
  · rw [hm] at hz
    cases hx : lkS m x with
    | none => rw [hx] at hz; cases hz
    | some y =>
      rw [hx] at hz
      have hz' : mv (h v) (h u) y = z := Option.some.inj hz
      have k : (lkS m z).isSome = true := by
        rw [← hz']
        unfold mv
        split
        · exact H.key u (h u) (val hu)
        · exact H.key x y hx
      rw [hm, Option.isSome_map]; exact k
end Kn
namespace K24
open PySem PySem.Spec L2 Mir Kn
noncomputable abbrev sHeadsOf : Stmt := top 2
theorem qe_fldK {X : Cx} {K : PySem.W.Frag} {e : Expr} {fl : Str} {pos : Pos} {ta : TE} (h : X.K = K) (he : QE X e ta) (hb : attributeBase e fl X.env (eval e X.env) = eval e X.env := by rfl) : QE X (.Attribute e fl pos) (tFld K ta fl) := by subst h; exact qe_fld he hb
theorem qs_fldK {X : Cx} {K : PySem.W.Frag} {o value : Expr} {fl : Str} {pos pos' : Pos} {ta tv : TE} (h : X.K = K) (ha : QE X o ta) (hv : QE X value tv) (hs : swapsWith value (some (.Attribute o fl pos')) pos.line X.env = pure false := by rfl) : QS X (.Assign [.Attribute o fl pos'] value pos) (sFld K ta tv fl) := by subst h; exact qs_fld ha hv hs
inductive spHeadsOfS (K : PySem.W.Frag) (vs : List V) (H : Hp) (Q : VK) : Prop
  | mk (fl : Addr) (F : List (List Str)) (h0 : vs = [.ref fl]) (h1 : RowsAt K H fl F) (h2 : F.length ≤ 100) (h3 : (∀ r ∈ F, FactRow r)) (h4 : ∀ hd hm H', Same H H' → H hd = none → H' hd = some (.dK (dS hm)) → hm.length ≤ 2 * F.length → HeadsOk hm (headF F) → Q (.ref hd) H') : spHeadsOfS K vs H Q
noncomputable def spHeadsOf (K : PySem.W.Frag) : Sp := fun vs H Q _ => spHeadsOfS K vs H Q
noncomputable def tDef (K : PySem.W.Frag) (i j : Nat) : TS := fun D σ H => ∃ (hd b : Addr) (r : List Str) (u : Str) (hm : List (Str × Str)) (h : Str → Str), σ[1]? = some (some (.ref hd)) ∧ σ[2]? = some (some (.ref b)) ∧ RowAt K H b r ∧ r[j]? = some u ∧ H hd = some (.dK (dS hm)) ∧ hm.length ≤ 1000 ∧ HeadsOk hm h ∧
  ∀ hm' H', Kp (· = hd) H H' → H' hd = some (.dK (dS hm')) → hm'.length ≤ hm.length + 1 → HeadsOk hm' h → (lkS hm' u).isSome = true → (∀ x, (lkS hm x).isSome = true → (lkS hm' x).isSome = true) → D.nx (σ.set i (some (.str (h u)))) H'
theorem def_weak {K : PySem.W.Frag} (i j : Nat) (D : Ends) (σ : St) (H : Hp) (hh : tDef K i j D σ H) :
    tAsg (tDSet (tVar 1) (tOp (rIxT K) (tVar 2) (tC (.int (j : Int)))) (tOp (rIxT K) (tVar 2) (tC (.int (j : Int))))) (gName i) D σ H := by
  obtain ⟨hd, b, r, u, hm, h, h1, h2, hR, hu, hD, hl, hok, go⟩ := hh
  have hat : atI (r.map V.str) (j : Int) = some (.str u) := atI_nat (by rw [List.getElem?_map, hu]; rfl)
  refine ⟨_, h1, hd, rfl, .inl ⟨_, .inl hD⟩, _, h2, b, _, _, .str u, rfl, rfl, hR, hat, _, h2, b, _, _, .str u, rfl, rfl, hR, hat, dS hm, Sum.inr u, hD, rfl, ?_, fun v hv => ?_, fun hn => ?_⟩
  · unfold dS; rw [List.length_map]; exact Nat.lt_of_le_of_lt hl (by decide)
  · rw [valV_ds] at hv
    cases hz : lkS hm u with
    | none => rw [hz] at hv; cases hv
    | some z =>
      rw [hz] at hv
      have e : v = .str z := (Option.some.inj hv).symm
      have e2 : h u = z := by rw [← hok.hd]; unfold hdS; rw [hz]; rfl
      have := go hm H (fun _ _ z _ => z) hD (by lia) hok (by rw [hz]; rfl) (fun _ z => z)
      rw [e2] at this
      rw [e]
      exact this
  · rw [valV_ds] at hn
    have hz : lkS hm u = none := by
      cases hz : lkS hm u with
      | none => rfl
      | some z => rw [hz] at hn; cases hn
    obtain ⟨h1, h2⟩ := hok.dflt hz
    rw [putK_ds]
    have := go (putS hm u u) _ (fun b o q n => by rw [upd_ne n]; exact q) upd_same (putS_len _ _ _) h1 (by rw [keys_put]; exact .inl rfl) (fun x hx => by rw [keys_put]; exact .inr hx)
    rw [h2] at this
    exact this
section
variable {P : Program} {w : World} {K : PySem.W.Frag} {mg : Str → Option Value} {base : Heap} {f : Addr} {fd : FuncData}
theorem scHeadsOf : FnScope ["facts", "heads", "fact", "kept", "gone", "name"] ["facts"] (defScope sHeadsOf) := ⟨rfl, rfl, rfl, by decide +kernel, rfl, by decide +kernel, by decide +kernel⟩
theorem ok_headsOf (C : Con K mg w) (F : Fun K "heads_of" "heads_of" sHeadsOf f fd) : FnOk P w K mg base CX0 1 f fd ["facts"] (spHeadsOf K) := by
  refine F.okQ scHeadsOf (fun vs H Q E h => ?_) (fun cdv A outer s0 H vs Q E hr h => ?_)
  · obtain ⟨fl, F, rfl, _⟩ := h; rfl
  obtain ⟨fl, Fs, rfl, hF, hl, hrow, q⟩ := h
  have nd := scHeadsOf.nd
  have hu1 := hu_of hr
  refine ⟨_, qb_cons (qs_set (i := 1) nd rfl (Or.inl rfl) qe_dnew)
    (qb_cons (qs_for PassesOwn.never rfl (qi_listK (K := K) rfl (qv 0)) (qg_name (i := 2) nd rfl (Or.inl rfl)) (qb_one (qs_if (qt_cmpR op_eq (qe_ix (ixTk (K := K) rfl) (qv 2) qe_int (fun _ _ => rfl)) qe_str (nomark _)) (qb_cons (qs_weak (t' := tDef K 3 1) (qs_set (i := 3) nd rfl (Or.inl rfl) (qe_dset (qv 1) (qe_ix (ixTk (K := K) rfl) (qv 2) qe_int (fun _ _ => rfl)) (qe_ix (ixTk (K := K) rfl) (qv 2) qe_int (fun _ _ => rfl)))) (def_weak 3 1))
    (qb_cons (qs_weak (t' := tDef K 4 2) (qs_set (i := 4) nd rfl (Or.inl rfl) (qe_dset (qv 1) (qe_ix (ixTk (K := K) rfl) (qv 2) qe_int (fun _ _ => rfl)) (qe_ix (ixTk (K := K) rfl) (qv 2) qe_int (fun _ _ => rfl)))) (def_weak 4 2))
    (qb_one (qs_for PassesOwn.never rfl (qi_listK (K := K) rfl (qe_callTy (call_list_dict rfl) rfl C.list PyProof.Rows.boot_list (qa_nm (qv 1) qa_nil))) (qg_name (i := 5) nd rfl (Or.inl rfl)) (qb_one (qs_if (qt_cmpR op_eq (qe_dget hu1 (qv 1) (qv 5) (fun _ _ => rfl)) (qv 4) (nomark _)) (qb_one (qs_dput hu1 (qv 1) (qv 5) (qv 3))) qb_nil)))))) qb_nil)))
    (qb_one (qs_ret (qv 1)))), ?_⟩
  intro hd hhd
  have s1 := same_new hhd (.dK (dS []))
  obtain ⟨fas, hfl, hfp⟩ := hF
  have hfal := Paired.length hfp
  refine ⟨_, rfl, fl, rfl, ⟨_, SqL.of (s1 _ _ hfl)⟩, ?_⟩
  refine for_list (xs := fas.map V.ref) (fun i σ H' => Same H H' ∧ Ex5 fun (hm : List (Str × Str)) (z2 z3 z4 z5 : Option V) => And4 (H' hd = some (.dK (dS hm))) (hm.length ≤ 2 * i) (HeadsOk hm (headF (Fs.take i))) (σ = [some (.ref fl), some (.ref hd), z2, z3, z4, z5]))
    ⟨s1, [], none, none, none, none, upd_same, Nat.zero_le _, HeadsOk.start, rfl⟩ (fun i σ H' _ p => SqL.of (p.1 _ _ hfl)) ?_ ?_
  · rintro i x σ H' hi ⟨e, hm, z2, z3, z4, z5, hD, hml, hok, rfl⟩
    obtain ⟨b, hb, rfl⟩ := ref_at hi
    obtain ⟨r, hr1, hr2⟩ := Paired.nth hfp hb
    have hil : i < Fs.length := (List.getElem?_eq_some_iff.mp hr1).1
    obtain ⟨k, u, v, rfl, hk⟩ := hrow r (List.mem_of_getElem? hr1)
    have hR := hr2.same e
    have htk : Fs.take (i + 1) = Fs.take i ++ [[k, u, v]] := by rw [List.take_add_one, hr1]; rfl
    refine ⟨_, rfl, b, _, 0, .str k, rfl, rfl, hR, rfl, rfl, _, rfl, iteB (fun c => ?_) (fun c => ?_)⟩
    · have hk' : k = "is" := by simpa using c
      subst hk'
      have kr : ∀ {H2 : Hp}, Kp (· = hd) H' H2 → ∀ {b' : Addr} {r : List Str}, RowAt K H' b' r → RowAt K H2 b' r := fun {H2} kp {b' r} hb' => by
        rcases hb' with (z | ⟨o, z⟩) | z
        · exact .inl (.inl (kp _ _ z fun y => by have y' : b' = hd := y; rw [y', hD] at z; cases z))
        · exact .inl (.inr ⟨o, kp _ _ z fun y => by have y' : b' = hd := y; rw [y', hD] at z; cases z⟩)
        · exact .inr z
      refine ⟨hd, b, _, u, hm, _, rfl, rfl, hR, rfl, hD, by lia, hok, fun hm1 H1 k1 hD1 hl1 ok1 hu1' hsub1 => ?_⟩
      refine ⟨hd, b, _, v, hm1, _, rfl, rfl, kr k1 hR, rfl, hD1, by lia, ok1, fun hm2 H2 k2 hD2 hl2 ok2 hv2 hsub2 => ?_⟩
      have k02 : Kp (· = hd) H' H2 := fun b o q n => k2 b o (k1 b o q n) n
      have hR2 := kr k02 hR
      refine ⟨_, rfl, hd, _, rfl, hD2, fun lk hlk => ?_⟩
      have ek : ((dS hm2).map fun kv => kV kv.1) = (hm2.map (·.1)).map V.str := by unfold dS; rw [List.map_map, List.map_map]; rfl
      rw [ek]
      have s3 := same_new hlk (.lst ((hm2.map (·.1)).map V.str))
      have hlkd : lk ≠ hd := Ne.symm (ne_of_none hD2 hlk)
      have hl2' : hm2.length ≤ 2 * (i + 1) := by lia
      have lk0 : H lk = none := by
        cases q : H lk with
        | none => rfl
        | some o =>
          have := k02 lk o (e _ _ q) (fun z => hlkd z)
          rw [hlk] at this; cases this
      have val : ∀ {y : Str}, (lkS hm2 y).isSome = true → lkS hm2 y = some (headF (Fs.take i) y) := fun {y} hy => by
        obtain ⟨z, hz⟩ := Option.isSome_iff_exists.mp hy
        rw [hz, ← ok2.hd]
        unfold hdS
        rw [hz]; rfl
      generalize hg : headF (Fs.take i) v = gone at *
      generalize hkp : headF (Fs.take i) u = kept at *
      refine ⟨lk, rfl, ⟨_, SqL.of upd_same⟩, ?_⟩
      have hkeep : ∀ {Hx : Hp}, Kp (· = hd) (upd H2 lk (.lst ((hm2.map (·.1)).map V.str))) Hx → Same H Hx := fun {Hx} kp b' o' q => kp b' o' (s3 _ _ (k02 _ _ (e _ _ q) fun z => by have z' : b' = hd := z; rw [z', hhd] at q; cases q)) fun z => by have z' : b' = hd := z; rw [z', hhd] at q; cases q
      refine for_list (xs := (hm2.map (·.1)).map V.str) (fun j σ H3 => Kp (· = hd) (upd H2 lk (.lst ((hm2.map (·.1)).map V.str))) H3 ∧ Ex2 fun (hm3 : List (Str × Str)) (z5 : Option V) => And4 (H3 hd = some (.dK (dS hm3))) (hm3.length ≤ hm2.length) ((∀ x, lkS hm3 x = if x ∈ (hm2.map (·.1)).take j then (lkS hm2 x).map (mv gone kept) else lkS hm2 x)) (σ = [some (.ref fl), some (.ref hd), some (.ref b), some (.str kept), some (.str gone), z5]))
        ⟨fun _ _ q _ => q, hm2, z5, by rw [upd_ne (Ne.symm hlkd)]; exact hD2, Nat.le_refl _, fun x => by simp, rfl⟩ (fun j σ H3 _ p => SqL.of (p.1 _ _ upd_same fun z => hlkd z)) ?_ ?_
      · rintro j x σ H3 hj ⟨k3, hm3, z5', hD3, hl3, hlk3, rfl⟩
        obtain ⟨nm, hnm, rfl⟩ : ∃ nm, (hm2.map (·.1))[j]? = some nm ∧ x = .str nm := by
          rw [List.getElem?_map] at hj
          cases hz : (hm2.map (·.1))[j]? with
          | none => rw [hz] at hj; cases hj
          | some nm => rw [hz] at hj; exact ⟨nm, rfl, (Option.some.inj hj).symm⟩
        have hin : (lkS hm2 nm).isSome = true := lkS_mem.mpr (List.mem_of_getElem? hnm)
        obtain ⟨z0, hz0⟩ := Option.isSome_iff_exists.mp hin
        obtain ⟨wv, hwv, hwm⟩ : ∃ wv, lkS hm3 nm = some wv ∧ mv gone kept wv = mv gone kept z0 := by
          have := hlk3 nm
          rw [hz0] at this
          by_cases hm : nm ∈ (hm2.map (·.1)).take j
          · rw [if_pos hm] at this
            exact ⟨_, this, mv_mv _ _ _⟩
          · rw [if_neg hm] at this
            exact ⟨_, this, rfl⟩
        have htk2 : ∀ x, x ∈ (hm2.map (·.1)).take (j + 1) ↔ x ∈ (hm2.map (·.1)).take j ∨ x = nm := fun x => by
          rw [List.take_add_one, hnm, List.mem_append]; simp
        have gv : DGet H3 hd (.str nm) (some (.str wv)) := by
          have g := DGet.k (k := Sum.inr nm) hD3
          rw [valV_ds, hwv] at g
          exact g
        refine ⟨_, rfl, _, rfl, hd, .str wv, rfl, gv, _, rfl, rfl, _, rfl, iteB (fun c => ?_) (fun c => ?_)⟩
        · have hc : wv = gone := by simpa using c
          refine ⟨_, rfl, _, rfl, _, rfl, hd, _, rfl, DPut.k (k := Sum.inr nm) hD3 ?_, ?_⟩
          · unfold dS; rw [List.length_map]; exact Nat.lt_of_le_of_lt (show hm3.length ≤ 1000 by lia) (by decide)
          rw [putK_ds]
          have hpl : (putS hm3 nm kept).length ≤ hm3.length := by
            unfold putS
            rw [if_pos, List.length_map]
            · exact Nat.le_refl _
            · have := lkS_mem.mp (show (lkS hm3 nm).isSome = true by rw [hwv]; rfl)
              obtain ⟨p, hp, e⟩ := List.mem_map.mp this
              exact List.any_eq_true.mpr ⟨p, hp, by simpa using e⟩
          refine ⟨fun b' o' q n => by rw [upd_ne n]; exact k3 b' o' q n, putS hm3 nm kept, _, upd_same, by lia, fun x => ?_, rfl⟩
          rw [lkS_put]
          by_cases hx : x = nm
          · rw [if_pos hx, if_pos ((htk2 x).mpr (.inr hx)), hx, hz0]
            show some kept = some (mv gone kept z0)
            rw [← hwm, hc]
            unfold mv
            rw [if_pos rfl]
          · rw [if_neg hx, hlk3 x]
            by_cases hm : x ∈ (hm2.map (·.1)).take j
            · rw [if_pos hm, if_pos ((htk2 x).mpr (.inl hm))]
            · rw [if_neg hm, if_neg fun z => ((htk2 x).mp z).elim hm hx]
        · have hc : ¬ wv = gone := by simpa using c
          refine ⟨k3, hm3, _, hD3, hl3, fun x => ?_, rfl⟩
          by_cases hx : x = nm
          · rw [if_pos ((htk2 x).mpr (.inr hx)), hx, hwv, hz0]
            show some wv = some (mv gone kept z0)
            rw [← hwm]
            unfold mv
            rw [if_neg hc]
          · rw [hlk3 x]
            by_cases hm : x ∈ (hm2.map (·.1)).take j
            · rw [if_pos hm, if_pos ((htk2 x).mpr (.inl hm))]
            · rw [if_neg hm, if_neg fun z => ((htk2 x).mp z).elim hm hx]
      rintro σ H3 ⟨k3, hm3, z5', hD3, hl3, hlk3, rfl⟩
      rw [List.length_map, List.take_length] at hlk3
      have hall : ∀ x, lkS hm3 x = (lkS hm2 x).map (mv gone kept) := fun x => by
        rw [hlk3 x]
        by_cases hm : x ∈ hm2.map (·.1)
        · rw [if_pos hm]
        · rw [if_neg hm]
          cases hz : lkS hm2 x with
          | none => rfl
          | some z => exact absurd (lkS_mem.mp (show (lkS hm2 x).isSome = true by rw [hz]; rfl)) hm
      refine ⟨hkeep k3, hm3, _, _, _, _, hD3, by lia, ?_, rfl⟩
      rw [htk, headF_snoc]
      exact ok2.step (hsub2 u hu1') hv2 (by rw [hg, hkp]; exact hall)
    · have hne : ¬ k = "is" := by simpa using c
      refine ⟨e, hm, _, _, _, _, hD, by lia, ?_, rfl⟩
      rw [htk, headF_snoc]
      unfold stepH
      rw [if_neg (show ¬ ([k, u, v].getD 0 "") = "is" from hne)]
      exact hok
  rintro σ H' ⟨e, hm, z2, z3, z4, z5, hD, hml, hok, rfl⟩
  rw [List.length_map, hfal] at hml hok
  rw [List.take_length] at hok
  exact ⟨_, rfl, q hd hm H' e hhd hD hml hok⟩
end
end K24
namespace K24
open PySem PySem.Spec L2 Mir Kn
noncomputable abbrev sInit : Stmt := inClass (top 4) 0
noncomputable abbrev sHead : Stmt := inClass (top 4) 1
noncomputable abbrev sAlike : Stmt := inClass (top 4) 2
noncomputable abbrev sUnlike : Stmt := inClass (top 4) 3
noncomputable abbrev sTellU : Stmt := inClass (top 4) 4
noncomputable abbrev sIsEmpty : Stmt := inClass (top 4) 5
noncomputable abbrev sMustFull : Stmt := inClass (top 4) 6
noncomputable abbrev sFindF : Stmt := inClass (top 4) 7
noncomputable abbrev sTellF : Stmt := inClass (top 4) 8
noncomputable abbrev sClash : Stmt := inClass (top 4) 9
noncomputable def methNames : List Str := ["__init__", "head", "alike", "unlike", "tell_unlike", "is_empty", "must_be_full", "find_fulls", "tell_full", "clashing", "shares_place", "open_ends", "number_at"]
structure Txt (K : PySem.W.Frag) (mg : Str → Option Value) (C fI : Addr) : Prop where
  cl : Cls K C
  nP : NoAttr K C "parts"
  nH : NoAttr K C "heads"
  nU : NoAttr K C "unlikes"
  nF : NoAttr K C "fulls"
  nE : NoAttr K C "not_empty"
  mgC : mg "Knowledge" = some (.ref C)
  mkC : Mk K C fI
structure MCal (K : PySem.W.Frag) (C : Addr) (m : Str) (f : Addr) (fd : FuncData) (ps : List Str) : Prop where
  meth : Meth K C m f
  bind : Binds K fd ps []
structure KFs (fs : List (Str × V)) (pl hd un fu : Addr) : Prop where
  parts : fs.lookup ("parts" : Str) = some (.ref pl)
  heads : fs.lookup ("heads" : Str) = some (.ref hd)
  unlikes : fs.lookup ("unlikes" : Str) = some (.ref un)
  fulls : fs.lookup ("fulls" : Str) = some (.ref fu)
  len : fs.length < 100
  meth : ∀ m ∈ methNames, fs.lookup m = none
structure KnAt (C : Addr) (H : Hp) (p pl hd un fu : Addr) (hm : List (Str × Str)) (uk : List (List Key × V)) : Prop where
  ob : ∃ dx fs, H p = some (.ins C dx fs) ∧ KFs fs pl hd un fu
  hds : H hd = some (.dK (dS hm))
  uns : H un = some (.dT uk)
theorem KnAt.same {C : Addr} {H H' : Hp} {p pl hd un fu : Addr} {hm : List (Str × Str)} {uk : List (List Key × V)} (h : KnAt C H p pl hd un fu hm uk) (e : Same H H') : KnAt C H' p pl hd un fu hm uk := by
  obtain ⟨⟨dx, fs, h1, h2⟩, h3, h4⟩ := h
  exact ⟨⟨dx, fs, e _ _ h1, h2⟩, e _ _ h3, e _ _ h4⟩
noncomputable def put2 (uk : List (List Key × V)) (a b : Str) : List (List Key × V) := putK (putK uk [Sum.inr a, Sum.inr b] (.bl true)) [Sum.inr b, Sum.inr a] (.bl true)
theorem KnAt.tell {C : Addr} {H H' : Hp} {p pl hd un fu : Addr} {hm : List (Str × Str)} {uk uk' : List (List Key × V)} (h : KnAt C H p pl hd un fu hm uk) (e : Kp (· = un) H H') (hu : H' un = some (.dT uk')) : KnAt C H' p pl hd un fu hm uk' := by
  obtain ⟨⟨dx, fs, h1, h2⟩, h3, h4⟩ := h
  have n1 : p ≠ un := ne_of h1 h4 (fun z => nomatch z)
  have n2 : hd ≠ un := ne_of h3 h4 (fun z => nomatch z)
  exact ⟨⟨dx, fs, e _ _ h1 n1, h2⟩, e _ _ h3 n2, hu⟩
inductive spHeadS (C : Addr) (vs : List V) (H : Hp) (Q : VK) : Prop
  | mk (p pl hd un fu : Addr) (hm : List (Str × Str)) (uk : List (List Key × V)) (x : Str) (h0 : vs = [.ref p, .str x]) (h1 : KnAt C H p pl hd un fu hm uk) (h2 : Q (.str (hdS hm x)) H) : spHeadS C vs H Q
noncomputable def spHead (C : Addr) : Sp := fun vs H Q _ => spHeadS C vs H Q
inductive spAlikeS (C : Addr) (vs : List V) (H : Hp) (Q : VK) : Prop
  | mk (p pl hd un fu : Addr) (hm : List (Str × Str)) (uk : List (List Key × V)) (x y : Str) (h0 : vs = [.ref p, .str x, .str y]) (h1 : KnAt C H p pl hd un fu hm uk) (h2 : Q (.bl (decide (hdS hm x = hdS hm y))) H) : spAlikeS C vs H Q
noncomputable def spAlike (C : Addr) : Sp := fun vs H Q _ => spAlikeS C vs H Q
inductive spUnlikeS (C : Addr) (vs : List V) (H : Hp) (Q : VK) : Prop
  | mk (p pl hd un fu : Addr) (hm : List (Str × Str)) (uk : List (List Key × V)) (x y : Str) (h0 : vs = [.ref p, .str x, .str y]) (h1 : KnAt C H p pl hd un fu hm uk) (h2 : ∀ H', Same H H' → Q (.bl (valV uk [Sum.inr (hdS hm x), Sum.inr (hdS hm y)]).isSome) H') : spUnlikeS C vs H Q
noncomputable def spUnlike (C : Addr) : Sp := fun vs H Q _ => spUnlikeS C vs H Q
inductive spTellUS (C : Addr) (vs : List V) (H : Hp) (Q : VK) : Prop
  | mk (p pl hd un fu : Addr) (hm : List (Str × Str)) (uk : List (List Key × V)) (x y : Str) (h0 : vs = [.ref p, .str x, .str y]) (h1 : KnAt C H p pl hd un fu hm uk) (h2 : uk.length ≤ 900) (h3 : ∀ H', Kp (· = un) H H' → H' un = some (.dT (put2 uk (hdS hm x) (hdS hm y))) → Q .non H') : spTellUS C vs H Q
noncomputable def spTellU (C : Addr) : Sp := fun vs H Q _ => spTellUS C vs H Q
noncomputable def pairK (p : List Key × V) : Prop := ∃ a b : Str, p.1 = [Sum.inr a, Sum.inr b]
noncomputable def sameK (p : List Key × V) : Bool := decide (p.1.getD 0 (Sum.inl 0) = p.1.getD 1 (Sum.inl 1))
inductive spClashS (C : Addr) (vs : List V) (H : Hp) (Q : VK) : Prop
  | mk (p pl hd un fu : Addr) (hm : List (Str × Str)) (uk : List (List Key × V)) (h0 : vs = [.ref p]) (h1 : KnAt C H p pl hd un fu hm uk) (h2 : (∀ q ∈ uk, pairK q)) (h3 : uk.length ≤ 900) (h4 : ∀ H', Same H H' → Q (.bl (uk.any sameK)) H') : spClashS C vs H Q
noncomputable def spClash (C : Addr) : Sp := fun vs H Q _ => spClashS C vs H Q
section
variable {P : Program} {w : World} {K : PySem.W.Frag} {mg : Str → Option Value} {base : Heap} {f C fI gH : Addr} {fd dH : FuncData}
theorem scHead : FnScope ["self", "word"] ["self", "word"] (defScope sHead) := ⟨rfl, rfl, rfl, by decide +kernel, rfl, by decide +kernel, by decide +kernel⟩
theorem ok_head (T : Txt K mg C fI) (F : Fun K "head" "Knowledge.head" sHead f fd) : FnOk P w K mg base CX0 1 f fd ["self", "word"] (spHead C) := by
  refine F.okQ scHead (fun vs H Q E h => ?_) (fun cdv A outer s0 H vs Q E hr h => ?_)
  · obtain ⟨p, pl, hd, un, fu, hm, uk, x, rfl, _⟩ := h; rfl
  obtain ⟨p, pl, hd, un, fu, hm, uk, x, rfl, hK, q⟩ := h
  have hu1 := hu_of hr
  obtain ⟨⟨dx, fs, h1, h2⟩, h3, h4⟩ := hK
  refine ⟨_, (qb_one (qs_ret (qe_dget2 hu1 (qe_fldK (K := K) rfl (qv 0)) (qv 1) (qv 1)))), ?_⟩
  have g := DGet.k (k := Sum.inr x) h3
  rw [valV_ds] at g
  refine ⟨_, rfl, p, C, dx, fs, .ref hd, rfl, h1, T.cl, T.nH, h2.heads, hd, rfl, .inl ⟨_, .inl h3⟩, _, rfl, _, rfl, _, g, ?_⟩
  have e : (((lkS hm x).map V.str).getD (.str x)) = .str (hdS hm x) := by
    unfold hdS
    cases lkS hm x <;> rfl
  rw [e]
  exact q
theorem scAlike : FnScope ["self", "one", "other"] ["self", "one", "other"] (defScope sAlike) := ⟨rfl, rfl, rfl, by decide +kernel, rfl, by decide +kernel, by decide +kernel⟩
theorem ok_alike (T : Txt K mg C fI) (F : Fun K "alike" "Knowledge.alike" sAlike f fd) (GH : FnOk P w K mg base CX0 1 gH dH ["self", "word"] (spHead C)) (cH : MCal K C "head" gH dH ["self", "word"]) : FnOk P w K mg base CX0 2 f fd ["self", "one", "other"] (spAlike C) := by
  refine F.okQ scAlike (fun vs H Q E h => ?_) (fun cdv A outer s0 H vs Q E hr h => ?_)
  · obtain ⟨p, pl, hd, un, fu, hm, uk, x, y, rfl, _⟩ := h; rfl
  obtain ⟨p, pl, hd, un, fu, hm, uk, x, y, rfl, hK, q⟩ := h
  obtain ⟨dx, fs, h1, h2⟩ := hK.ob
  have nh := h2.meth "head" (by decide +kernel)
  refine ⟨_, (qb_one (qs_ret (qe_cmpR op_eq (qe_meth (qv 0) T.cl cH.meth GH hr cH.bind .nil pass0 (qa_nm (qv 1) qa_nil)) (qe_meth (qv 0) T.cl cH.meth GH hr cH.bind .nil pass0 (qa_nm (qv 2) qa_nil)) (nomark _)))), ?_⟩
  refine ⟨_, rfl, p, dx, fs, rfl, h1, nh, _, rfl, p, pl, hd, un, fu, hm, uk, x, rfl, hK, _, rfl, p, dx, fs, rfl, h1, nh, _, rfl, p, pl, hd, un, fu, hm, uk, y, rfl, hK, rfl, ?_⟩
  have e : decide (V.str (hdS hm x) = V.str (hdS hm y)) = decide (hdS hm x = hdS hm y) := by simp
  rw [e]
  exact q
theorem scUnlike : FnScope ["self", "one", "other"] ["self", "one", "other"] (defScope sUnlike) := ⟨rfl, rfl, rfl, by decide +kernel, rfl, by decide +kernel, by decide +kernel⟩
theorem ok_unlike (T : Txt K mg C fI) (F : Fun K "unlike" "Knowledge.unlike" sUnlike f fd) (GH : FnOk P w K mg base CX0 1 gH dH ["self", "word"] (spHead C)) (cH : MCal K C "head" gH dH ["self", "word"]) : FnOk P w K mg base CX0 2 f fd ["self", "one", "other"] (spUnlike C) := by
  refine F.okQ scUnlike (fun vs H Q E h => ?_) (fun cdv A outer s0 H vs Q E hr h => ?_)
  · obtain ⟨p, pl, hd, un, fu, hm, uk, x, y, rfl, _⟩ := h; rfl
  obtain ⟨p, pl, hd, un, fu, hm, uk, x, y, rfl, hK, q⟩ := h
  have hu1 := hu_of hr
  obtain ⟨dx, fs, h1, h2⟩ := hK.ob
  have nh := h2.meth "head" (by decide +kernel)
  refine ⟨_, (qb_one (qs_ret (qe_din hu1 (qe_tup (qa_call (qe_meth (qv 0) T.cl cH.meth GH hr cH.bind .nil pass0 (qa_nm (qv 1) qa_nil)) (qa_call (qe_meth (qv 0) T.cl cH.meth GH hr cH.bind .nil pass0 (qa_nm (qv 2) qa_nil)) qa_nil))) (qe_fldK (K := K) rfl (qv 0))))), ?_⟩
  refine ⟨_, rfl, p, dx, fs, rfl, h1, nh, _, rfl, p, pl, hd, un, fu, hm, uk, x, rfl, hK, _, rfl, p, dx, fs, rfl, h1, nh, _, rfl, p, pl, hd, un, fu, hm, uk, y, rfl, hK, (show 2 ≤ sizeLine by decide), fun t ht => ?_⟩
  have s1 := same_new ht (.tup [.str (hdS hm x), .str (hdS hm y)])
  refine ⟨_, rfl, p, C, dx, fs, .ref un, rfl, s1 _ _ h1, T.cl, T.nU, h2.unlikes, un, _, rfl, DGet.t (k := [Sum.inr (hdS hm x), Sum.inr (hdS hm y)]) (s1 _ _ hK.uns) upd_same, ?_⟩
  exact q _ s1
theorem scTellU : FnScope ["self", "one", "other"] ["self", "one", "other"] (defScope sTellU) := ⟨rfl, rfl, rfl, by decide +kernel, rfl, by decide +kernel, by decide +kernel⟩
theorem ok_tellU (T : Txt K mg C fI) (F : Fun K "tell_unlike" "Knowledge.tell_unlike" sTellU f fd) (GH : FnOk P w K mg base CX0 1 gH dH ["self", "word"] (spHead C)) (cH : MCal K C "head" gH dH ["self", "word"]) : FnOk P w K mg base CX0 2 f fd ["self", "one", "other"] (spTellU C) := by
  refine F.okQ scTellU (fun vs H Q E h => ?_) (fun cdv A outer s0 H vs Q E hr h => ?_)
  · obtain ⟨p, pl, hd, un, fu, hm, uk, x, y, rfl, _⟩ := h; rfl
  obtain ⟨p, pl, hd, un, fu, hm, uk, x, y, rfl, hK, hl, q⟩ := h
  have hu1 := hu_of hr
  obtain ⟨dx, fs, h1, h2⟩ := hK.ob
  have nh := h2.meth "head" (by decide +kernel)
  refine ⟨_, qb_cons (qs_dput hu1 (qe_fldK (K := K) rfl (qv 0)) (qe_tup (qa_call (qe_meth (qv 0) T.cl cH.meth GH hr cH.bind .nil pass0 (qa_nm (qv 1) qa_nil)) (qa_call (qe_meth (qv 0) T.cl cH.meth GH hr cH.bind .nil pass0 (qa_nm (qv 2) qa_nil)) qa_nil))) qe_bl)
    (qb_one (qs_dput hu1 (qe_fldK (K := K) rfl (qv 0)) (qe_tup (qa_call (qe_meth (qv 0) T.cl cH.meth GH hr cH.bind .nil pass0 (qa_nm (qv 2) qa_nil)) (qa_call (qe_meth (qv 0) T.cl cH.meth GH hr cH.bind .nil pass0 (qa_nm (qv 1) qa_nil)) qa_nil))) qe_bl)), ?_⟩
  have hlen : ∀ {n : Nat}, n ≤ 1000 → n < sizeLine := fun h => Nat.lt_of_le_of_lt h (by decide)
  have np : p ≠ un := ne_of h1 hK.uns (fun z => nomatch z)
  refine ⟨_, rfl, p, C, dx, fs, .ref un, rfl, h1, T.cl, T.nU, h2.unlikes, _, rfl, p, dx, fs, rfl, h1, nh, _, rfl, p, pl, hd, un, fu, hm, uk, x, rfl, hK, _, rfl, p, dx, fs, rfl, h1, nh, _, rfl, p, pl, hd, un, fu, hm, uk, y, rfl, hK, (show 2 ≤ sizeLine by decide), fun t ht => ?_⟩
  have s1 := same_new ht (.tup [.str (hdS hm x), .str (hdS hm y)])
  have htu : t ≠ un := Ne.symm (ne_of_none hK.uns ht)
  refine ⟨un, _, rfl, DPut.t (k := [Sum.inr (hdS hm x), Sum.inr (hdS hm y)]) (s1 _ _ hK.uns) upd_same (hlen (by lia)), ?_⟩
  have k1 : Kp (· = un) H (upd (upd H t (.tup [.str (hdS hm x), .str (hdS hm y)])) un (.dT (putK uk [Sum.inr (hdS hm x), Sum.inr (hdS hm y)] (.bl true)))) := fun b o hb n => by rw [upd_ne n]; exact s1 _ _ hb
  have hK1 := hK.tell k1 upd_same
  have hl1 : (putK uk [Sum.inr (hdS hm x), Sum.inr (hdS hm y)] (V.bl true)).length ≤ uk.length + 1 := length_putK _ _ _
  generalize upd (upd H t (.tup [.str (hdS hm x), .str (hdS hm y)])) un (.dT (putK uk [Sum.inr (hdS hm x), Sum.inr (hdS hm y)] (.bl true))) = H1 at k1 hK1 ⊢
  obtain ⟨dx', fs', h1', h2'⟩ := hK1.ob
  have nh' := h2'.meth "head" (by decide +kernel)
  refine ⟨_, rfl, p, C, dx', fs', .ref un, rfl, h1', T.cl, T.nU, h2'.unlikes, _, rfl, p, dx', fs', rfl, h1', nh', _, rfl, p, pl, hd, un, fu, hm, _, y, rfl, hK1, _, rfl, p, dx', fs', rfl, h1', nh', _, rfl, p, pl, hd, un, fu, hm, _, x, rfl, hK1, (show 2 ≤ sizeLine by decide), fun t2 ht2 => ?_⟩
  have s2 := same_new ht2 (.tup [.str (hdS hm y), .str (hdS hm x)])
  refine ⟨un, _, rfl, DPut.t (k := [Sum.inr (hdS hm y), Sum.inr (hdS hm x)]) (s2 _ _ hK1.uns) upd_same (hlen (by lia)), ?_⟩
  exact q _ (fun b o hb n => by rw [upd_ne n]; exact s2 _ _ (k1 b o hb n)) upd_same
end
end K24
namespace K24
open PySem PySem.Spec L2 Mir Kn
theorem ixTK {X : Cx} {K : PySem.W.Frag} (h : X.K = K) : IxR X (rIxT K) := by subst h; exact ix_tup
section
variable {P : Program} {w : World} {K : PySem.W.Frag} {mg : Str → Option Value} {base : Heap} {f C fI gH : Addr} {fd dH : FuncData}
theorem scClash : FnScope ["self"] ["self"] (defScope sClash) := ⟨rfl, rfl, rfl, by decide +kernel, rfl, by decide +kernel, by decide +kernel⟩
theorem ok_clash (Cn : Con K mg w) (T : Txt K mg C fI) (F : Fun K "clashing" "Knowledge.clashing" sClash f fd) : FnOk P w K mg base CX0 1 f fd ["self"] (spClash C) := by
  refine F.okQ scClash (fun vs H Q E h => ?_) (fun cdv A outer s0 H vs Q E hr h => ?_)
  · obtain ⟨p, pl, hd, un, fu, hm, uk, rfl, _⟩ := h; rfl
  obtain ⟨p, pl, hd, un, fu, hm, uk, rfl, hK, hpr, hl, q⟩ := h
  obtain ⟨dx, fs, h1, h2⟩ := hK.ob
  refine ⟨_, qb_one (qs_ret (qe_callB (call_any rfl) rfl Cn.any PyProof.Rows.boot_any (qa_cons (qe_thaw (qe_comp0 (qi_dictT (qe_fldK (K := K) rfl (qv 0))) (fun _ _ _ _ => qts_nil) (fun _ _ _ _ => qe_cmpR op_eq (qe_ix (ixTK (K := K) rfl) (qv 0) qe_int (fun _ _ => rfl)) (qe_ix (ixTK (K := K) rfl) (qv 0) qe_int (fun _ _ => rfl)) (nomark _)))) qa_nil))), ?_⟩
  refine ⟨_, rfl, p, C, dx, fs, .ref un, rfl, h1, T.cl, T.nU, h2.unlikes, un, uk, rfl, hK.uns, fun od bs nf hbs => ?_⟩
  have hbl := Paired.length hbs
  refine comp_all (bs.map V.ref) uk sameK jseq_dT upd_same (by rw [List.length_map]; lia) (by rw [List.length_map]; lia) (fun i x r hx hr' H2 e2 Q' q' => ?_) fun D H1 hD e1 hd1 => ?_
  · obtain ⟨b, hb, rfl⟩ := ref_at hx
    have hbt := Paired.at2 hbs hr' hb
    obtain ⟨a', b', hab⟩ := hpr r (List.mem_of_getElem? hr')
    have hne : b ≠ un := ne_of hbt hK.uns (fun z => nomatch z)
    have hb2 : SqT K H2 b [.str a', .str b'] := SqT.of (by
      have := e2 b _ (by rw [upd_ne hne]; exact hbt)
      rw [this, hab]; rfl)
    refine ⟨_, rfl, b, _, 0, .str a', rfl, rfl, hb2, rfl, _, rfl, b, _, 1, .str b', rfl, rfl, hb2, rfl, rfl, ?_⟩
    have := q' H2 (Same.refl _)
    have e : sameK r = decide (V.str a' = V.str b') := by
      unfold sameK
      rw [hab]
      show decide ((Sum.inr a' : Key) = Sum.inr b') = _
      simp
    rw [e] at this
    exact this
  have hun : H1 un = some (.frz od (.dT uk)) := e1 _ _ upd_same
  refine ⟨un, od, .dT uk, hun, nf, D, uk.map sameK, rfl, SqL.of ?_, ?_⟩
  · rw [upd_ne (fun z => by rw [z] at hD; rw [upd_same] at hD; cases hD)]
    exact hd1
  · have eH : Same H (upd H1 un (.dT uk)) := fun b o hb => by
      by_cases hbu : b = un
      · rw [hbu, upd_same]; rw [hbu, hK.uns] at hb; exact hb
      · rw [upd_ne hbu]; exact e1 _ _ (by rw [upd_ne hbu]; exact hb)
    have := q _ eH
    rw [List.any_map]
    exact this
end
end K24
namespace Kn
open PySem PySem.Spec L2
noncomputable def place (p : List Str) : Str := p.getD 1 ""
noncomputable def end2 (p : List Str) : Str := if p.getD 0 "" = "stretch" then p.getD 2 "" else "nil"
noncomputable def FullR (R : Str → Str → Prop) (p : List Str) : Prop := p.getD 0 "" = "cell" ∨ R (place p) (end2 p)
theorem FullR.mono {R S : Str → Str → Prop} (h : ∀ a b, R a b → S a b) {p : List Str} (f : FullR R p) : FullR S p := f.imp id (h _ _)
structure Clo (F P : List (List Str)) (R : Str → Str → Prop) : Prop where
  fact : ∀ u v, [("not" : Str), u, v] ∈ F → R u v
  symm : ∀ a b, R a b → R b a
  conn : ∀ a b c, Conn F a b → R b c → R a c
  nil : ∀ p ∈ P, FullR R p → R (place p) "nil"
  two : ∀ (i j : Nat) p q, P[i]? = some p → P[j]? = some q → i ≠ j → FullR R p → FullR R q → R (place p) (place q)
noncomputable def Un (F P : List (List Str)) (a b : Str) : Prop := ∀ R, Clo F P R → R a b
theorem un_clo (F P : List (List Str)) : Clo F P (Un F P) where
  fact := fun u v h R c => c.fact u v h
  symm := fun a b h R c => c.symm a b (h R c)
  conn := fun a b d h1 h2 R c => c.conn a b d h1 (h2 R c)
  nil := fun p hp hf R c => c.nil p hp (hf.mono fun a b h => h R c)
  two := fun i j p q h1 h2 hn f1 f2 R c => c.two i j p q h1 h2 hn (f1.mono fun a b h => h R c) (f2.mono fun a b h => h R c)
theorem Un.conn2 {F P : List (List Str)} {a b c d : Str} (h : Un F P b d) (h1 : Conn F a b) (h2 : Conn F c d) : Un F P a c :=
  (un_clo F P).conn _ _ _ h1 ((un_clo F P).symm _ _ ((un_clo F P).conn _ _ _ h2 ((un_clo F P).symm _ _ h)))
noncomputable def Told (h : Str → Str) (L : List (Str × Str)) (a b : Str) : Prop := ∃ q ∈ L, (h a = h q.1 ∧ h b = h q.2) ∨ (h a = h q.2 ∧ h b = h q.1)
theorem told_un {F P : List (List Str)} (hF : ∀ r ∈ F, FactRow r) {L : List (Str × Str)} (hL : ∀ q ∈ L, Un F P q.1 q.2) {a b : Str} (t : Told (headF F) L a b) : Un F P a b := by
  obtain ⟨q, hq, h⟩ := t
  rcases h with ⟨h1, h2⟩ | ⟨h1, h2⟩
  · exact (hL q hq).conn2 ((headF_conn hF _ _).mp h1) ((headF_conn hF _ _).mp h2)
  · exact ((un_clo F P).symm _ _ (hL q hq)).conn2 ((headF_conn hF _ _).mp h1) ((headF_conn hF _ _).mp h2)
structure AllTold (F P : List (List Str)) (L : List (Str × Str)) (Fl : List Nat) : Prop where
  fact : ∀ u v, [("not" : Str), u, v] ∈ F → (u, v) ∈ L
  full : ∀ (i : Nat) p, P[i]? = some p → FullR (Told (headF F) L) p → i ∈ Fl
  nil : ∀ i ∈ Fl, ∀ p, P[i]? = some p → (place p, ("nil" : Str)) ∈ L
  two : ∀ i ∈ Fl, ∀ j ∈ Fl, i ≠ j → ∀ p q, P[i]? = some p → P[j]? = some q → (place p, place q) ∈ L ∨ (place q, place p) ∈ L
theorem un_told {F P : List (List Str)} (hF : ∀ r ∈ F, FactRow r) {L : List (Str × Str)} {Fl : List Nat} (A : AllTold F P L Fl) {a b : Str} (u : Un F P a b) : Told (headF F) L a b := by
  refine u _ ⟨fun u v h => ⟨_, A.fact u v h, .inl ⟨rfl, rfl⟩⟩, ?_, ?_, ?_, ?_⟩
  · rintro a b ⟨q, hq, h⟩
    exact ⟨q, hq, h.elim (fun z => .inr ⟨z.2, z.1⟩) (fun z => .inl ⟨z.2, z.1⟩)⟩
  · rintro a b c hc ⟨q, hq, h⟩
    have e := (headF_conn hF a b).mpr hc
    exact ⟨q, hq, by rw [e]; exact h⟩
  · intro p hp hf
    obtain ⟨i, hi⟩ := List.getElem?_of_mem hp
    exact ⟨_, A.nil i (A.full i p hi hf) p hi, .inl ⟨rfl, rfl⟩⟩
  · intro i j p q h1 h2 hn f1 f2
    rcases A.two i (A.full i p h1 f1) j (A.full j q h2 f2) hn p q h1 h2 with z | z
    · exact ⟨_, z, .inl ⟨rfl, rfl⟩⟩
    · exact ⟨_, z, .inr ⟨rfl, rfl⟩⟩
theorem un_iff {F P : List (List Str)} (hF : ∀ r ∈ F, FactRow r) {L : List (Str × Str)} {Fl : List Nat} (A : AllTold F P L Fl) (hL : ∀ q ∈ L, Un F P q.1 q.2) {a b : Str} : Told (headF F) L a b ↔ Un F P a b := ⟨told_un hF hL, un_told hF A⟩
structure Going (F P : List (List Str)) (L : List (Str × Str)) (Fl : List Nat) : Prop where
  fact : ∀ u v, [("not" : Str), u, v] ∈ F → (u, v) ∈ L
  sound : ∀ q ∈ L, Un F P q.1 q.2
  nd : Fl.Nodup
  isf : ∀ i ∈ Fl, ∃ p, P[i]? = some p ∧ FullR (Un F P) p
  nil : ∀ i ∈ Fl, ∀ p, P[i]? = some p → (place p, ("nil" : Str)) ∈ L
  two : ∀ i ∈ Fl, ∀ j ∈ Fl, i ≠ j → ∀ p q, P[i]? = some p → P[j]? = some q → (place p, place q) ∈ L ∨ (place q, place p) ∈ L
noncomputable def tellF (P : List (List Str)) (Fl : List Nat) (p : List Str) : List (Str × Str) := (place p, ("nil" : Str)) :: Fl.map fun j => (place p, place (P.getD j []))
theorem Going.step {F P : List (List Str)} {L : List (Str × Str)} {Fl : List Nat} (G : Going F P L Fl) {i : Nat} {p : List Str} (hi : P[i]? = some p) (hf : FullR (Un F P) p) (hn : ¬ i ∈ Fl) : Going F P (L ++ tellF P Fl p) (Fl ++ [i]) := by
  have pn : (place p, ("nil" : Str)) ∈ L ++ tellF P Fl p := List.mem_append.mpr (.inr (List.mem_cons_self ..))
  have pj : ∀ j ∈ Fl, ∀ q, P[j]? = some q → (place p, place q) ∈ L ++ tellF P Fl p := fun j hj q hq => by
    refine List.mem_append.mpr (.inr (List.mem_cons_of_mem _ (List.mem_map.mpr ⟨j, hj, ?_⟩)))
    rw [List.getD_eq_getElem?_getD, hq]; rfl
  refine ⟨fun u v h => List.mem_append.mpr (.inl (G.fact u v h)), ?_, ?_, ?_, ?_, ?_⟩
  · intro q hq
    rcases List.mem_append.mp hq with z | z
    · exact G.sound q z
    · rcases List.mem_cons.mp z with rfl | z
      · exact (un_clo F P).nil p (List.mem_of_getElem? hi) hf
      · obtain ⟨j, hj, rfl⟩ := List.mem_map.mp z
        obtain ⟨q, hq, hfq⟩ := G.isf j hj
        have e : P.getD j [] = q := by rw [List.getD_eq_getElem?_getD, hq]; rfl
        show Un F P (place p) (place (P.getD j []))
        rw [e]
        exact (un_clo F P).two i j p q hi hq (fun z => hn (z ▸ hj)) hf hfq
  · refine List.nodup_append.mpr ⟨G.nd, List.nodup_cons.mpr ⟨List.not_mem_nil, .nil⟩, fun a ha b hb e => ?_⟩
    rw [List.mem_singleton.mp hb] at e
    exact hn (e ▸ ha)
  · intro j hj
    rcases List.mem_append.mp hj with z | z
    · exact G.isf j z
    · rw [List.mem_singleton.mp z]; exact ⟨p, hi, hf⟩
  · intro j hj q hq
    rcases List.mem_append.mp hj with z | z
    · exact List.mem_append.mpr (.inl (G.nil j z q hq))
    · rw [List.mem_singleton.mp z, hi] at hq
      cases hq
      exact pn
  · intro j hj k hk hne q r hq hr
    rcases List.mem_append.mp hj with z | z
    · rcases List.mem_append.mp hk with y | y
      · exact (G.two j z k y hne q r hq hr).imp (fun w => List.mem_append.mpr (.inl w)) (fun w => List.mem_append.mpr (.inl w))
      · rw [List.mem_singleton.mp y, hi] at hr
        cases hr
        exact .inr (pj j z q hq)
    · rw [List.mem_singleton.mp z, hi] at hq
      cases hq
      rcases List.mem_append.mp hk with y | y
      · exact .inl (pj k y r hr)
      · exact absurd ((List.mem_singleton.mp z).trans (List.mem_singleton.mp y).symm) hne
theorem Going.done {F P : List (List Str)} {L : List (Str × Str)} {Fl : List Nat} (G : Going F P L Fl) (h : ∀ (i : Nat) p, P[i]? = some p → FullR (Told (headF F) L) p → i ∈ Fl) : AllTold F P L Fl := ⟨G.fact, h, G.nil, G.two⟩
theorem nd_lenN : ∀ {l m : List Nat}, l.Nodup → (∀ x ∈ l, x ∈ m) → l.length ≤ m.length
  | [], _, _, _ => Nat.zero_le _
  | x :: l, m, hn, hm => by
    have hx := hm x (List.mem_cons_self ..)
    obtain ⟨h1, h2⟩ := List.nodup_cons.mp hn
    have := nd_lenN (l := l) (m := m.erase x) h2 fun y hy => (List.mem_erase_of_ne (a := y) (b := x) (fun e => h1 (by rw [← e]; exact hy))).mpr (hm y (List.mem_cons_of_mem _ hy))
    rw [List.length_erase_of_mem hx] at this
    have hp : 0 < m.length := List.length_pos_of_mem hx
    rw [List.length_cons]
    lia
theorem Going.len {F P : List (List Str)} {L : List (Str × Str)} {Fl : List Nat} (G : Going F P L Fl) : Fl.length ≤ P.length := by
  have := nd_lenN (m := List.range P.length) G.nd fun i hi => by
    obtain ⟨p, hp, _⟩ := G.isf i hi
    exact List.mem_range.mpr (List.getElem?_eq_some_iff.mp hp).1
  rw [List.length_range] at this
  exact this
end Kn
namespace L2
open PySem PySem.Spec PyProof.Rows
noncomputable def Itk (a : Addr) (od : Obj) (kvs : List (Key × V)) : It where
  go := fun i H => H a = some (.frz od (.dK kvs)) ∧ i < kvs.length
  yld := fun i H x H' => H' = H ∧ (kvs.map fun kv => kV kv.1)[i]? = some x
  stop := fun i H => H a = some (.frz od (.dK kvs)) ∧ kvs.length ≤ i
noncomputable def DEntK (od : Obj) (kvs : List (Key × V)) (es : Array DictEntry) (ep : Nat) : Prop := od.ExactDict ∧ od.data = .dict es ep ∧ Paired (fun (p : Key × V) (e : DictEntry) => RelV (kV p.1) e.key) kvs es.toList
theorem dent_k {P : Program} {w : World} {od : Obj} {es : Array DictEntry} {ep : Nat} : ∀ {kvs : List (Key × V)} {vs : List (Key × Value)} {l : List DictEntry}, KV kvs vs → PySem.Pairs (mixKind P w) l vs → Paired (fun (p : Key × V) (e : DictEntry) => RelV (kV p.1) e.key) kvs l
  | _, _, _, .nil, .nil => .nil
  | _, _, _, .cons h t, .cons h1 h2 t2 => .cons (by rw [h.1]; exact key_rel h1) (dent_k (od := od) (es := es) (ep := ep) t t2)
theorem Paired.nthK {α β : Type} {F : α → β → Prop} : ∀ {l₁ : List α} {l₂ : List β} {i : Nat} {a : α} {b : β}, Paired F l₁ l₂ → l₁[i]? = some a → l₂[i]? = some b → F a b
  | _, _, 0, _, _, .cons h t, h1, h2 => by cases h1; cases h2; exact h
  | _, _, i + 1, _, _, .cons h t, h1, h2 => Paired.nthK (i := i) t (by simpa using h1) (by simpa using h2)
theorem turn_dK {P : Program} {w : World} {K : PySem.W.Frag} {tg : Expr} {a J : Addr} {od : Obj} {kvs : List (Key × V)} {es : Array DictEntry} {ep : Nat} (hd : DEntK od kvs es ep) :
    Turn P w K tg (Itk a od kvs) [J] J (fun i h => h.IsKeyIter J a i es.size ep) where
  mem := by simp
  obj := fun i h st b hb => by
    have e : b = J := by simpa using hb
    subst e
    obtain ⟨o, h1, h2, h3⟩ := st
    exact ⟨o, h1, fun v z => by rw [h3] at z; cases z⟩
  keep := fun i h h' st k => by
    obtain ⟨o, h1, h2⟩ := st
    exact ⟨o, k J (by simp) o h1, h2⟩
  item := by
    intro X hP hw hK hc i pins s σ H E I hf st hg
    subst hP hw hK
    obtain ⟨f0, f1, f2, f3, f4, f5⟩ := hf J (by simp)
    obtain ⟨g1, g2⟩ := I.hok a _ hg.1
    have hsz : es.size = kvs.length := by
      have := hd.2.2.length
      rw [Array.length_toList] at this; exact this.symm
    refine ent_look st g1 hd.2.1 (I.ok.hd hc) (fun hn h' st' sb => ?_) (fun hn => absurd hg.2 (by lia))
    have I1 : Inv X pins σ H { s with heap := h', toks := s.toks } := I.turned (fun b o hb e => (sb.2 b hb).trans e) f0 f1 f3 f4 f5
    have hk : RelV (kV (kvs[i]'hg.2).1) es[i].key := Paired.nthK (F := fun (p : Key × V) (e : DictEntry) => RelV (kV p.1) e.key) hd.2.2 (i := i) (a := kvs[i]'hg.2) (b := es[i]) (List.getElem?_eq_getElem hg.2) (by rw [Array.getElem?_toList]; exact Array.getElem?_eq_getElem hn)
    refine ⟨_, rfl, letGo_keyiter st' ⟨kV (kvs[i]'hg.2).1, H, I1, hk, ⟨rfl, by rw [List.getElem?_map, List.getElem?_eq_getElem hg.2]; rfl⟩, st', fun b hb => (hf b hb).1⟩⟩
  done := by
    intro X hP hw hK hc i pins s σ H E I hf st hg
    subst hP hw hK
    obtain ⟨f0, f1, f2, f3, f4, f5⟩ := hf J (by simp)
    obtain ⟨g1, g2⟩ := I.hok a _ hg.1
    have hsz : es.size = kvs.length := by
      have := hd.2.2.length
      rw [Array.length_toList] at this; exact this.symm
    exact ent_look st g1 hd.2.1 (I.ok.hd hc) (fun hn => absurd hg.2 (by lia)) (fun _ h' eb => ⟨rfl, I.turned (t' := s.toks) (fun b o hb e => eb b o hb e) f0 f1 f3 f4 f5⟩)
  self := fun _ _ _ _ _ st h => wpAny_pyIter_keyiter st h
noncomputable def iDictK (X : Cx) (tl : TE) : TI := fun σ H R => tl σ H fun x H1 => ∃ a kvs, x = .ref a ∧ H1 a = some (.dK kvs) ∧ ∀ od, NF X a → R (Itk a od kvs) (upd H1 a (.frz od (.dK kvs)))
theorem pi_dictK {X : Cx} {tg l : Expr} {tl : TE} (hl : PE X l tl) : PI X tg l (iDictK X tl) := by
  intro pins s σ H R I h
  refine thn (hl pins s σ H _ I h) fun v s1 zq => ?_
  obtain ⟨x, H1, I1, r1, a, kvs, ex, e, q⟩ := zq
  subst ex
  cases r1
  obtain ⟨z, hd, vs, rel, od, es, ep, h1, hc, h2, h3, h4, h5⟩ := (show ObjOk X.prog X.w H1 s1.heap a (.dK kvs) from I1.hok a _ e)
  have I2 : Inv X pins σ (upd H1 a (.frz od (.dK kvs))) s1 := I1.write (x := a) (e := a) (h' := s1.heap) (t' := s1.toks) (by rw [e]; exact True.intro) (.inl rfl) (fun _ _ _ z => z) ⟨od, h1⟩ ⟨h1, z, hd, vs, rel, od, es, ep, h1, hc, h2, h3, h4, h5⟩
  have ent : DEntK od kvs es ep := ⟨hc, h2, dent_k (od := od) (es := es) (ep := ep) rel h4⟩
  refine ent_iter hd h1 hc h2 ?_
  refine ⟨s1.heap.objs.size, [s1.heap.objs.size], _, _, upd H1 a (.frz od (.dK kvs)), rfl, I2.kept (t' := s1.toks) fun b o e => Heap.get?_push_of_some _ e, turn_dK ent, ⟨_, Heap.get?_push_size _ rfl, rfl, rfl⟩, fun b hb => ?_, q od (I1.nf e fun _ _ z => nomatch z)⟩
  have e : b = s1.heap.objs.size := by simpa using hb
  subst e
  exact I2.fpOk (Nat.le_refl _) (I2.hok.fresh (Nat.le_refl _))
theorem qi_dictK {X : Cx} {tg l : Expr} {tl : TE} (hl : QE X l tl) : QI X tg l (iDictK X tl) := ⟨pi_dictK hl.run⟩
noncomputable def tThawS (X : Cx) (t : TS) : TS := fun D σ H => t { D with nx := fun σ' H' => ∃ a o u, H' a = some (.frz o u) ∧ NF X a ∧ D.nx σ' (upd H' a u) } σ H
theorem qs_thaw {X : Cx} {st : Stmt} {t : TS} (h : QS X st t) : QS X st (tThawS X t) := ⟨fun pins s σ H D I q => thn (h.run pins s σ H _ I q) fun f s1 p => by
  cases f with
  | next => obtain ⟨σ', H', I', a, o, u, e, nf, q'⟩ := p; exact ⟨σ', _, I'.thaw e nf, q'⟩
  | brk => exact p
  | cont => exact p
  | ret u => exact p⟩
theorem for_dictK {a : Addr} {od : Obj} {kvs : List (Key × V)} {g : TG} {tb : TS} {D : Ends} {σ : St} {H : Hp} (Pv : Nat → St → Hp → Prop) (h0 : Pv 0 σ H) (hl : ∀ i σ H, i ≤ kvs.length → Pv i σ H → H a = some (.frz od (.dK kvs)))
    (hs : ∀ i x σ H, (kvs.map fun kv => kV kv.1)[i]? = some x → Pv i σ H → g x σ H fun σ2 H2 => tb { D with nx := Pv (i + 1), ct := Pv (i + 1), bk := D.nx } σ2 H2) (hd : ∀ σ H, Pv kvs.length σ H → D.nx σ H) :
    ∃ W : Nat → Nat → St → Hp → Prop, (∃ m, W 0 m σ H) ∧ ∀ i m σ H, W i m σ H →
      ((Itk a od kvs).stop i H ∧ D.nx σ H) ∨ ((Itk a od kvs).go i H ∧ ∃ N : St → Hp → Prop, (∀ σ' H', N σ' H' → ∃ m', m' < m ∧ W (i + 1) m' σ' H') ∧ ∀ x H', (Itk a od kvs).yld i H x H' → g x σ H' fun σ2 H2 => tb { D with nx := N, ct := N, bk := D.nx } σ2 H2) := by
  refine ⟨fun i m σ H => m = kvs.length - i ∧ i ≤ kvs.length ∧ Pv i σ H, ⟨kvs.length, by simp, Nat.zero_le _, h0⟩, ?_⟩
  rintro i m σ H ⟨rfl, hi, p⟩
  have q := hl i σ H hi p
  by_cases hlt : i < kvs.length
  · refine .inr ⟨⟨q, hlt⟩, Pv (i + 1), fun σ' H' p' => ⟨kvs.length - (i + 1), by lia, rfl, hlt, p'⟩, fun x H' y => ?_⟩
    obtain ⟨e, y⟩ := y
    subst e
    exact hs i x σ _ y p
  · have e : i = kvs.length := by lia
    subst e
    exact .inl ⟨⟨q, Nat.le_refl _⟩, hd σ H p⟩
end L2
namespace L2
open PySem PySem.Spec PyProof.Rows PySem.SeqAt
open AutoSeq1 (wpAny_loadPart')
open MeetsSeq MeetsSeq2 MeetsSeq3
section
variable {prog : Program} {w : World}
end
section
variable {X : Cx}
end
end L2
namespace L2
open PySem PySem.Spec PyProof.Rows
section
variable {X : Cx}
noncomputable def CDivB (_ j : Int) : Prop := 0 < j ∧ j ≤ 10 ^ 60
theorem op_fdivB : OpR X (binaryOp .FloorDiv) (rI CDivB fun i j => .int (i / j)) := opI fun i j _ _ _ _ _ hc q => by
  have h1 : (0 : Int) < j := hc.1
  have h2 : j ≤ 10 ^ 60 := hc.2
  refine floordiv_int (by lia) (by rw [Int.fdiv_eq_ediv_of_nonneg i (by lia)]; exact q) (.inl (PyProof.noPylong_of_log2 ?_))
  have h3 : j.natAbs < 2 ^ 200 := by
    have : (10 : Int) ^ 60 < 2 ^ 200 := by decide +kernel
    lia
  have h4 : j.natAbs.log2 < 200 := (Nat.log2_lt (by lia)).mpr h3
  lia
set_option autoImplicit true
set_option relaxedAutoImplicit true
theorem qe_dpop1 (ho : QE X o td) (he : QE X e ty) (m : M1 X o "pop" apos e cpos := by exact ⟨rfl, rfl, rfl, rfl⟩) : QE X (.Call (.Attribute o "pop" apos) [e] [] cpos) (tDPop1 td ty) := ⟨pe_dpop1 ho.run he.run m⟩
end
end L2
namespace K24
open PySem PySem.Spec L2 Mir Kn
noncomputable abbrev sEndsOf : Stmt := top 3
noncomputable def PartRow (r : List Str) : Prop := (∃ a f s, r = [("cell" : Str), a, f, s]) ∨ (∃ a b, r = [("stretch" : Str), a, b]) ∨ ∃ a, r = [("tree" : Str), a]
structure UkT (uk : List (List Key × V)) (h : Str → Str) (L : List (Str × Str)) : Prop where
  pr : ∀ q ∈ uk, pairK q
  len : uk.length ≤ 2 * L.length
  iff : ∀ a b, (valV uk [Sum.inr a, Sum.inr b]).isSome = true ↔ ∃ q ∈ L, (a = h q.1 ∧ b = h q.2) ∨ (a = h q.2 ∧ b = h q.1)
theorem UkT.told {uk : List (List Key × V)} {h : Str → Str} {L : List (Str × Str)} (U : UkT uk h L) (a b : Str) : (valV uk [Sum.inr (h a), Sum.inr (h b)]).isSome = true ↔ Told h L a b := U.iff (h a) (h b)
theorem put_pr {uk : List (List Key × V)} {a b : Str} {v : V} (h : ∀ q ∈ uk, pairK q) : ∀ q ∈ putK uk [Sum.inr a, Sum.inr b] v, pairK q := fun q hq => by
  unfold putK at hq
  split at hq
  · obtain ⟨p, hp, rfl⟩ := List.mem_map.mp hq
    split
    · exact ⟨a, b, by assumption⟩
    · exact h p hp
  · rcases List.mem_append.mp hq with z | z
    · exact h q z
    · rw [List.mem_singleton.mp z]; exact ⟨a, b, rfl⟩
theorem UkT.step {uk : List (List Key × V)} {h : Str → Str} {L : List (Str × Str)} (U : UkT uk h L) (u v : Str) : UkT (put2 uk (h u) (h v)) h (L ++ [(u, v)]) := by
  refine ⟨put_pr (put_pr U.pr), ?_, fun a b => ?_⟩
  · have h1 := length_putK uk [Sum.inr (h u), Sum.inr (h v)] (V.bl true)
    have h2 := length_putK (putK uk [Sum.inr (h u), Sum.inr (h v)] (V.bl true)) [Sum.inr (h v), Sum.inr (h u)] (V.bl true)
    have := U.len
    unfold put2
    rw [List.length_append, List.length_singleton]
    lia
  · unfold put2
    rw [valV_put, valV_put]
    have e1 : ∀ x y z w' : Str, ([Sum.inr x, Sum.inr y] : List Key) = [Sum.inr z, Sum.inr w'] ↔ x = z ∧ y = w' := fun x y z w' => by simp
    constructor
    · intro hs
      by_cases c1 : ([Sum.inr a, Sum.inr b] : List Key) = [Sum.inr (h v), Sum.inr (h u)]
      · have := (e1 _ _ _ _).mp c1
        exact ⟨(u, v), List.mem_append.mpr (.inr (List.mem_singleton.mpr rfl)), .inr this⟩
      · rw [if_neg c1] at hs
        by_cases c2 : ([Sum.inr a, Sum.inr b] : List Key) = [Sum.inr (h u), Sum.inr (h v)]
        · have := (e1 _ _ _ _).mp c2
          exact ⟨(u, v), List.mem_append.mpr (.inr (List.mem_singleton.mpr rfl)), .inl this⟩
        · rw [if_neg c2] at hs
          obtain ⟨q, h1, h2⟩ := (U.iff a b).mp hs
          exact ⟨q, List.mem_append.mpr (.inl h1), h2⟩
    · rintro ⟨q, h1, h2⟩
      by_cases c1 : ([Sum.inr a, Sum.inr b] : List Key) = [Sum.inr (h v), Sum.inr (h u)]
      · rw [if_pos c1]; rfl
      · rw [if_neg c1]
        by_cases c2 : ([Sum.inr a, Sum.inr b] : List Key) = [Sum.inr (h u), Sum.inr (h v)]
        · rw [if_pos c2]; rfl
        · rw [if_neg c2]
          rcases List.mem_append.mp h1 with z | z
          · exact (U.iff a b).mpr ⟨q, z, h2⟩
          · have z' := List.mem_singleton.mp z
            subst z'
            rcases h2 with h2 | h2
            · exact absurd ((e1 _ _ _ _).mpr h2) c2
            · exact absurd ((e1 _ _ _ _).mpr h2) c1
noncomputable def fk (Fl : List Nat) : List (Key × V) := Fl.map fun (n : Nat) => ((Sum.inl ((n : Nat) : Int) : Key), V.bl true)
structure KnS (K : PySem.W.Frag) (C : Addr) (H : Hp) (p pl hd un fu : Addr) (F P : List (List Str)) (L : List (Str × Str)) : Prop where
  at_ : ∃ hm uk, KnAt C H p pl hd un fu hm uk ∧ HeadsOk hm (headF F) ∧ UkT uk (headF F) L
  parts : RowsAt K H pl P
  ne : hd ≠ fu
theorem KnS.same {K : PySem.W.Frag} {C : Addr} {H H' : Hp} {p pl hd un fu : Addr} {F P : List (List Str)} {L : List (Str × Str)} (h : KnS K C H p pl hd un fu F P L) (e : Same H H') : KnS K C H' p pl hd un fu F P L := by
  obtain ⟨⟨hm, uk, h1, h2⟩, h3, h4⟩ := h
  exact ⟨⟨hm, uk, h1.same e, h2⟩, h3.same e, h4⟩
inductive spEndsS (K : PySem.W.Frag) (vs : List V) (H : Hp) (Q : VK) : Prop
  | mk (b : Addr) (r : List Str) (h0 : vs = [.ref b]) (h1 : RowAt K H b r) (h2 : PartRow r) (h3 : ∀ t H', Same H H' → SqT K H' t [.str (place r), .str (end2 r)] → Q (.ref t) H') : spEndsS K vs H Q
noncomputable def spEnds (K : PySem.W.Frag) : Sp := fun vs H Q _ => spEndsS K vs H Q
inductive spPartS (K : PySem.W.Frag) (C : Addr) (R : List Str → (Str → Str) → List (Str × Str) → Prop) (vs : List V) (H : Hp) (Q : VK) : Prop
  | mk (p pl hd un fu : Addr) (F P : List (List Str)) (L : List (Str × Str)) (n : Nat) (r : List Str) (h0 : vs = [.ref p, .int (n : Int)]) (h1 : KnS K C H p pl hd un fu F P L) (h2 : P[n]? = some r) (h3 : PartRow r) (h4 : ∀ (b : Bool) H', Same H H' → (b = true ↔ R r (headF F) L) → Q (.bl b) H') : spPartS K C R vs H Q
noncomputable def spPart (K : PySem.W.Frag) (C : Addr) (R : List Str → (Str → Str) → List (Str × Str) → Prop) : Sp := fun vs H Q _ => spPartS K C R vs H Q
noncomputable def EmptyR (r : List Str) (h : Str → Str) (_ : List (Str × Str)) : Prop := r.getD 0 "" ≠ "cell" ∧ h (place r) = h (end2 r)
noncomputable def MustR (r : List Str) (h : Str → Str) (L : List (Str × Str)) : Prop := FullR (Told h L) r
theorem part_at {K : PySem.W.Frag} {H : Hp} {pl : Addr} {P : List (List Str)} (h : RowsAt K H pl P) {n : Nat} {r : List Str} (hn : P[n]? = some r) : ∃ (as : List Addr) (b : Addr), H pl = some (.lst (as.map V.ref)) ∧ atI (as.map V.ref) (n : Int) = some (.ref b) ∧ RowAt K H b r := by
  obtain ⟨as, h1, h2⟩ := h
  have hl := Paired.length h2
  have hlt : n < as.length := by rw [hl]; exact (List.getElem?_eq_some_iff.mp hn).1
  exact ⟨as, as[n], h1, atI_nat (by rw [List.getElem?_map, List.getElem?_eq_getElem hlt]; rfl), Paired.at2 h2 (List.getElem?_eq_getElem hlt) hn⟩
theorem PartRow.at0 {r : List Str} (h : PartRow r) : atI (r.map V.str) (0 : Int) = some (.str (r.getD 0 "")) := by
  rcases h with ⟨a, f, s, rfl⟩ | ⟨a, b, rfl⟩ | ⟨a, rfl⟩ <;> rfl
theorem PartRow.at1 {r : List Str} (h : PartRow r) : atI (r.map V.str) (1 : Int) = some (.str (place r)) := by
  rcases h with ⟨a, f, s, rfl⟩ | ⟨a, b, rfl⟩ | ⟨a, rfl⟩ <;> rfl
section
variable {P : Program} {w : World} {K : PySem.W.Frag} {mg : Str → Option Value} {base : Heap} {f C fI gE gA : Addr} {fd dE dA : FuncData}
theorem scEnds : FnScope ["part"] ["part"] (defScope sEndsOf) := ⟨rfl, rfl, rfl, by decide +kernel, rfl, by decide +kernel, by decide +kernel⟩
theorem ok_ends (F : Fun K "ends_of" "ends_of" sEndsOf f fd) : FnOk P w K mg base CX0 1 f fd ["part"] (spEnds K) := by
  refine F.okQ scEnds (fun vs H Q E h => ?_) (fun cdv A outer s0 H vs Q E hr h => ?_)
  · obtain ⟨b, r, rfl, _⟩ := h; rfl
  obtain ⟨b, r, rfl, hR, hp, q⟩ := h
  refine ⟨_, (qb_one (qs_ret (qe_ifExp (qt_cmpR op_eq (qe_ix (ixTk (K := K) rfl) (qv 0) qe_int (fun _ _ => rfl)) qe_str (nomark _)) (qe_tup (qa_sub (qe_ix (ixTk (K := K) rfl) (qv 0) qe_int (fun _ _ => rfl)) (qa_sub (qe_ix (ixTk (K := K) rfl) (qv 0) qe_int (fun _ _ => rfl)) qa_nil))) (qe_tup (qa_sub (qe_ix (ixTk (K := K) rfl) (qv 0) qe_int (fun _ _ => rfl)) (qa_str qa_nil)))))), ?_⟩
  refine ⟨_, rfl, b, _, 0, _, rfl, rfl, hR, hp.at0, rfl, _, rfl, iteB (fun c => ?_) (fun c => ?_)⟩
  · have c' : r.getD 0 "" = "stretch" := by simpa using c
    obtain ⟨x, y, rfl⟩ : ∃ x y, r = [("stretch" : Str), x, y] := by
      rcases hp with ⟨a, f, s, rfl⟩ | z | ⟨a, rfl⟩
      · exact absurd c' (by show ¬ ("cell" : Str) = "stretch"; decide +kernel)
      · exact z
      · exact absurd c' (by show ¬ ("tree" : Str) = "stretch"; decide +kernel)
    refine ⟨_, rfl, b, _, 1, .str x, rfl, rfl, hR, rfl, _, rfl, b, _, 2, .str y, rfl, rfl, hR, rfl, (show 2 ≤ sizeLine by decide), fun t ht => ?_⟩
    exact q t _ (same_new ht _) (SqT.of upd_same)
  · have c' : ¬ r.getD 0 "" = "stretch" := by simpa using c
    refine ⟨_, rfl, b, _, 1, _, rfl, rfl, hR, hp.at1, (show 2 ≤ sizeLine by decide), fun t ht => ?_⟩
    have e : end2 r = "nil" := by unfold end2; rw [if_neg c']
    refine q t _ (same_new ht _) ?_
    rw [e]
    exact SqT.of upd_same
theorem scEmpty : FnScope ["self", "number", "ends"] ["self", "number"] (defScope sIsEmpty) := ⟨rfl, rfl, rfl, by decide +kernel, rfl, by decide +kernel, by decide +kernel⟩
theorem ok_empty (T : Txt K mg C fI) (F : Fun K "is_empty" "Knowledge.is_empty" sIsEmpty f fd) (GE : FnOk P w K mg base CX0 1 gE dE ["part"] (spEnds K)) (cE : Cal K mg "ends_of" gE dE ["part"])
    (GA : FnOk P w K mg base CX0 2 gA dA ["self", "one", "other"] (spAlike C)) (cA : MCal K C "alike" gA dA ["self", "one", "other"]) : FnOk P w K mg base CX0 3 f fd ["self", "number"] (spPart K C EmptyR) := by
  refine F.okQ scEmpty (fun vs H Q E h => ?_) (fun cdv A outer s0 H vs Q E hr h => ?_)
  · obtain ⟨p, pl, hd, un, fu, F, P, L, n, r, rfl, _⟩ := h; rfl
  obtain ⟨p, pl, hd, un, fu, Fs, Ps, L, n, r, rfl, hK, hn, hp, q⟩ := h
  have nd := scEmpty.nd
  have hr1 := hr.mono (j := 1) (by lia)
  refine ⟨_, qb_cons (qs_set (i := 2) nd rfl (Or.inl rfl) (qe_call GE hr1 rfl cE.name cE.keep cE.bind .nil pass0 (qa_sub (qe_ix (ixKk (K := K) rfl) (qe_fldK (K := K) rfl (qv 0)) (qv 1) (fun _ _ => rfl)) qa_nil)))
    (qb_one (qs_ret (qe_and (qe_cmpR op_ne (qe_ix (ixTk (K := K) rfl) (qe_ix (ixKk (K := K) rfl) (qe_fldK (K := K) rfl (qv 0)) (qv 1) (fun _ _ => rfl)) qe_int (fun _ _ => rfl)) qe_str (nomark _)) (qe_one (qe_meth (qv 0) T.cl cA.meth GA hr cA.bind .nil pass0 (qa_sub (qe_ix (ixTk (K := K) rfl) (qv 2) qe_int (fun _ _ => rfl)) (qa_sub (qe_ix (ixTk (K := K) rfl) (qv 2) qe_int (fun _ _ => rfl)) qa_nil))))))), ?_⟩
  obtain ⟨⟨hm, uk, hk, hok, hU⟩, hrows, hne⟩ := id hK
  obtain ⟨dx, fs, h1, h2⟩ := hk.ob
  obtain ⟨as, b, hpl, hat, hR⟩ := part_at hrows hn
  refine ⟨_, rfl, p, C, dx, fs, .ref pl, rfl, h1, T.cl, T.nP, h2.parts, _, rfl, pl, _, _, .ref b, rfl, rfl, SqL.of hpl, hat, b, r, rfl, hR, hp, fun t H1 e1 hT => ?_⟩
  have hk1 := hk.same e1
  refine ⟨_, rfl, p, C, dx, fs, .ref pl, rfl, e1 _ _ h1, T.cl, T.nP, h2.parts, _, rfl, pl, _, _, .ref b, rfl, rfl, SqL.of (e1 _ _ hpl), hat, b, _, 0, _, rfl, rfl, hR.same e1, hp.at0, rfl, _, rfl, iteB (fun c => ?_) (fun c => ?_)⟩
  · have c' : ¬ r.getD 0 "" = "cell" := by simpa using c
    refine ⟨_, rfl, p, dx, fs, rfl, e1 _ _ h1, h2.meth "alike" (by decide +kernel), _, rfl, t, _, 0, .str (place r), rfl, rfl, hT, rfl, _, rfl, t, _, 1, .str (end2 r), rfl, rfl, hT, rfl, p, pl, hd, un, fu, hm, uk, _, _, rfl, hk1, ?_⟩
    refine q _ H1 e1 ?_
    rw [hok.hd, hok.hd, decide_eq_true_eq]
    exact ⟨fun z => ⟨c', z⟩, fun z => z.2⟩
  · have c' : r.getD 0 "" = "cell" := by simpa using c
    exact q false H1 e1 ⟨fun z => Bool.noConfusion z, fun z => absurd c' z.1⟩
theorem scMust : FnScope ["self", "number", "ends"] ["self", "number"] (defScope sMustFull) := ⟨rfl, rfl, rfl, by decide +kernel, rfl, by decide +kernel, by decide +kernel⟩
theorem ok_must (T : Txt K mg C fI) (F : Fun K "must_be_full" "Knowledge.must_be_full" sMustFull f fd) (GE : FnOk P w K mg base CX0 1 gE dE ["part"] (spEnds K)) (cE : Cal K mg "ends_of" gE dE ["part"])
    (GA : FnOk P w K mg base CX0 2 gA dA ["self", "one", "other"] (spUnlike C)) (cA : MCal K C "unlike" gA dA ["self", "one", "other"]) : FnOk P w K mg base CX0 3 f fd ["self", "number"] (spPart K C MustR) := by
  refine F.okQ scMust (fun vs H Q E h => ?_) (fun cdv A outer s0 H vs Q E hr h => ?_)
  · obtain ⟨p, pl, hd, un, fu, F, P, L, n, r, rfl, _⟩ := h; rfl
  obtain ⟨p, pl, hd, un, fu, Fs, Ps, L, n, r, rfl, hK, hn, hp, q⟩ := h
  have nd := scMust.nd
  have hr1 := hr.mono (j := 1) (by lia)
  refine ⟨_, qb_cons (qs_set (i := 2) nd rfl (Or.inl rfl) (qe_call GE hr1 rfl cE.name cE.keep cE.bind .nil pass0 (qa_sub (qe_ix (ixKk (K := K) rfl) (qe_fldK (K := K) rfl (qv 0)) (qv 1) (fun _ _ => rfl)) qa_nil)))
    (qb_one (qs_ret (qe_or (qe_cmpR op_eq (qe_ix (ixTk (K := K) rfl) (qe_ix (ixKk (K := K) rfl) (qe_fldK (K := K) rfl (qv 0)) (qv 1) (fun _ _ => rfl)) qe_int (fun _ _ => rfl)) qe_str (nomark _)) (qe_one (qe_meth (qv 0) T.cl cA.meth GA hr cA.bind .nil pass0 (qa_sub (qe_ix (ixTk (K := K) rfl) (qv 2) qe_int (fun _ _ => rfl)) (qa_sub (qe_ix (ixTk (K := K) rfl) (qv 2) qe_int (fun _ _ => rfl)) qa_nil))))))), ?_⟩
  obtain ⟨⟨hm, uk, hk, hok, hU⟩, hrows, hne⟩ := id hK
  obtain ⟨dx, fs, h1, h2⟩ := hk.ob
  obtain ⟨as, b, hpl, hat, hR⟩ := part_at hrows hn
  refine ⟨_, rfl, p, C, dx, fs, .ref pl, rfl, h1, T.cl, T.nP, h2.parts, _, rfl, pl, _, _, .ref b, rfl, rfl, SqL.of hpl, hat, b, r, rfl, hR, hp, fun t H1 e1 hT => ?_⟩
  have hk1 := hk.same e1
  refine ⟨_, rfl, p, C, dx, fs, .ref pl, rfl, e1 _ _ h1, T.cl, T.nP, h2.parts, _, rfl, pl, _, _, .ref b, rfl, rfl, SqL.of (e1 _ _ hpl), hat, b, _, 0, _, rfl, rfl, hR.same e1, hp.at0, rfl, _, rfl, iteB (fun c => ?_) (fun c => ?_)⟩
  · have c' : r.getD 0 "" = "cell" := by simpa using c
    exact q true H1 e1 ⟨fun _ => .inl c', fun _ => rfl⟩
  · have c' : ¬ r.getD 0 "" = "cell" := by simpa using c
    refine ⟨_, rfl, p, dx, fs, rfl, e1 _ _ h1, h2.meth "unlike" (by decide +kernel), _, rfl, t, _, 0, .str (place r), rfl, rfl, hT, rfl, _, rfl, t, _, 1, .str (end2 r), rfl, rfl, hT, rfl, p, pl, hd, un, fu, hm, uk, _, _, rfl, hk1, fun H2 e2 => ?_⟩
    refine q _ H2 (e1.trans e2) ?_
    rw [hok.hd, hok.hd, hU.told]
    exact ⟨fun z => .inr z, fun z => z.resolve_left c'⟩
end
end K24
namespace K24
open PySem PySem.Spec L2 Mir Kn
noncomputable def NoRow (o : HO) : Prop := (∃ kv, o = .dK kv) ∨ (∃ kv, o = .dT kv) ∨ (∃ od kv, o = .frz od (.dK kv)) ∨ ∃ C dx fs, o = .ins C dx fs
theorem NoRow.tup {o : HO} (h : NoRow o) {xs : List V} : o ≠ .tup xs ∧ (∀ ob, o ≠ .frz ob (.tup xs)) ∧ o ≠ .lst xs := by
  rcases h with ⟨kv, rfl⟩ | ⟨kv, rfl⟩ | ⟨od, kv, rfl⟩ | ⟨C, dx, fs, rfl⟩
  · exact ⟨(fun z => nomatch z), (fun _ z => nomatch z), (fun z => nomatch z)⟩
  · exact ⟨(fun z => nomatch z), (fun _ z => nomatch z), (fun z => nomatch z)⟩
  · exact ⟨(fun z => nomatch z), (fun _ z => nomatch z), (fun z => nomatch z)⟩
  · exact ⟨(fun z => nomatch z), (fun _ z => nomatch z), (fun z => nomatch z)⟩
theorem rowsAt_kp {K : PySem.W.Frag} {H H' : Hp} {S : Addr → Prop} {pl : Addr} {P : List (List Str)} (h : RowsAt K H pl P) (k : Kp S H H') (hS : ∀ b, S b → ∃ o, H b = some o ∧ NoRow o) : RowsAt K H' pl P := by
  obtain ⟨as, h1, h2⟩ := h
  refine ⟨as, k _ _ h1 fun z => ?_, Paired.mapP h2 fun b r hb => ?_⟩
  · obtain ⟨o, e, n⟩ := hS _ z
    rw [h1] at e
    exact (n.tup (xs := as.map V.ref)).2.2 (Option.some.inj e).symm
  · rcases hb with (z | ⟨ob, z⟩) | z
    · refine .inl (.inl (k _ _ z fun y => ?_))
      obtain ⟨o, e, n⟩ := hS _ y
      rw [z] at e
      exact (n.tup (xs := r.map V.str)).1 (Option.some.inj e).symm
    · refine .inl (.inr ⟨ob, k _ _ z fun y => ?_⟩)
      obtain ⟨o, e, n⟩ := hS _ y
      rw [z] at e
      exact (n.tup (xs := r.map V.str)).2.1 ob (Option.some.inj e).symm
    · exact .inr z
theorem KnS.tell {K : PySem.W.Frag} {C : Addr} {H H' : Hp} {p pl hd un fu : Addr} {F P : List (List Str)} {L : List (Str × Str)} {hm : List (Str × Str)} {uk : List (List Key × V)} {u v : Str} (hk : KnAt C H p pl hd un fu hm uk) (hok : HeadsOk hm (headF F)) (hU : UkT uk (headF F) L) (hp : RowsAt K H pl P) (hne : hd ≠ fu)
    (k : Kp (· = un) H H') (e : H' un = some (.dT (put2 uk (hdS hm u) (hdS hm v)))) : KnS K C H' p pl hd un fu F P (L ++ [(u, v)]) := by
  refine ⟨⟨hm, _, hk.tell k e, hok, ?_⟩, rowsAt_kp hp k fun b hb => ⟨.dT uk, by rw [show b = un from hb]; exact hk.uns, .inr (.inl ⟨_, rfl⟩)⟩, hne⟩
  rw [hok.hd, hok.hd]
  exact hU.step u v
theorem KnS.fus {K : PySem.W.Frag} {C : Addr} {H : Hp} {p pl hd un fu : Addr} {F P : List (List Str)} {L : List (Str × Str)} (h : KnS K C H p pl hd un fu F P L) {o : HO} (hf : H fu = some o) (hn : (∃ kv, o = .dK kv) ∨ ∃ od kv, o = .frz od (.dK kv)) (o' : HO) : KnS K C (upd H fu o') p pl hd un fu F P L := by
  obtain ⟨⟨hm, uk, hk, hok, hU⟩, hr, hne⟩ := h
  obtain ⟨dx, fs, h1, h2⟩ := hk.ob
  have hnr : NoRow o := hn.elim (fun z => .inl z) (fun z => .inr (.inr (.inl z)))
  have n1 : p ≠ fu := fun z => by
    rw [z, hf] at h1
    rcases hn with ⟨kv, rfl⟩ | ⟨od, kv, rfl⟩ <;> cases h1
  have n2 : un ≠ fu := fun z => by
    have := hk.uns
    rw [z, hf] at this
    rcases hn with ⟨kv, rfl⟩ | ⟨od, kv, rfl⟩ <;> cases this
  refine ⟨⟨hm, uk, ⟨⟨dx, fs, by rw [upd_ne n1]; exact h1, h2⟩, by rw [upd_ne hne]; exact hk.hds, by rw [upd_ne n2]; exact hk.uns⟩, hok, hU⟩, ?_, hne⟩
  exact rowsAt_kp (S := (· = fu)) hr (fun b o hb hn => by rw [upd_ne hn]; exact hb) fun b hb => ⟨o, by rw [show b = fu from hb]; exact hf, hnr⟩
theorem fk_new {Fl : List Nat} {n : Nat} (h : ¬ n ∈ Fl) : putK (fk Fl) (Sum.inl (n : Int)) (.bl true) = fk (Fl ++ [n]) := by
  have hv : valV (fk Fl) (Sum.inl (n : Int) : Key) = none := by
    cases e : valV (fk Fl) (Sum.inl (n : Int) : Key) with
    | none => rfl
    | some v =>
      have := valV_in e
      unfold fk at this
      rw [List.map_map] at this
      obtain ⟨m, hm, e2⟩ := List.mem_map.mp this
      have e3 : (Sum.inl (m : Int) : Key) = Sum.inl (n : Int) := e2
      have e4 : (m : Int) = n := Sum.inl.inj e3
      have e5 : m = n := by lia
      exact absurd (e5 ▸ hm) h
  rw [putK_new _ hv]
  unfold fk
  rw [List.map_append]; rfl
inductive spTellFS (K : PySem.W.Frag) (C : Addr) (vs : List V) (H : Hp) (Q : VK) : Prop
  | mk (p pl hd un fu : Addr) (F P : List (List Str)) (L : List (Str × Str)) (Fl : List Nat) (n : Nat) (r : List Str) (h0 : vs = [.ref p, .int (n : Int)]) (h1 : KnS K C H p pl hd un fu F P L) (h2 : H fu = some (.dK (fk Fl))) (h3 : P[n]? = some r) (h4 : (∀ r ∈ P, PartRow r)) (h5 : (∀ j ∈ Fl, j < P.length)) (h6 : (¬ n ∈ Fl)) (h7 : L.length + Fl.length + 1 ≤ 400) (h8 : ∀ H', Kp (fun b => b = un ∨ b = fu) H H' → KnS K C H' p pl hd un fu F P (L ++ tellF P Fl r) → H' fu = some (.dK (fk (Fl ++ [n]))) → Q .non H') : spTellFS K C vs H Q
noncomputable def spTellF (K : PySem.W.Frag) (C : Addr) : Sp := fun vs H Q _ => spTellFS K C vs H Q
section
variable {P : Program} {w : World} {K : PySem.W.Frag} {mg : Str → Option Value} {base : Heap} {f C fI gU : Addr} {fd dU : FuncData}
theorem scTellF : FnScope ["self", "number", "place", "other"] ["self", "number"] (defScope sTellF) := ⟨rfl, rfl, rfl, by decide +kernel, rfl, by decide +kernel, by decide +kernel⟩
theorem ok_tellF (T : Txt K mg C fI) (F : Fun K "tell_full" "Knowledge.tell_full" sTellF f fd) (GU : FnOk P w K mg base CX0 2 gU dU ["self", "one", "other"] (spTellU C)) (cU : MCal K C "tell_unlike" gU dU ["self", "one", "other"]) : FnOk P w K mg base CX0 3 f fd ["self", "number"] (spTellF K C) := by
  refine F.okQ scTellF (fun vs H Q E h => ?_) (fun cdv A outer s0 H vs Q E hr h => ?_)
  · obtain ⟨p, pl, hd, un, fu, F, P, L, Fl, n, r, rfl, _⟩ := h; rfl
  obtain ⟨p, pl, hd, un, fu, Fs, Ps, L, Fl, n, r, rfl, hK, hfu, hn, hparts, hFl, hnFl, hlen, q⟩ := h
  have nd := scTellF.nd
  have hu1 := hu_of hr
  have hp := hparts r (List.mem_of_getElem? hn)
  refine ⟨_, qb_cons (qs_set (i := 2) nd rfl (Or.inl rfl) (qe_ix (ixTk (K := K) rfl) (qe_ix (ixKk (K := K) rfl) (qe_fldK (K := K) rfl (qv 0)) (qv 1) (fun _ _ => rfl)) qe_int (fun _ _ => rfl)))
    (qb_cons (qs_expr (qe_meth (qv 0) T.cl cU.meth GU hr cU.bind .nil pass0 (qa_nm (qv 2) (qa_str qa_nil))))
    (qb_cons (qs_thaw (qs_for PassesOwn.never rfl (qi_dictK (qe_fldK (K := K) rfl (qv 0))) (qg_name (i := 3) nd rfl (Or.inl rfl)) (qb_one (qs_expr (qe_meth (qv 0) T.cl cU.meth GU hr cU.bind .nil pass0 (qa_nm (qv 2) (qa_sub (qe_ix (ixTk (K := K) rfl) (qe_ix (ixKk (K := K) rfl) (qe_fldK (K := K) rfl (qv 0)) (qv 3) (fun _ _ => rfl)) qe_int (fun _ _ => rfl)) qa_nil)))))))
    (qb_one (qs_dput hu1 (qe_fldK (K := K) rfl (qv 0)) (qv 1) qe_bl)))), ?_⟩
  obtain ⟨⟨hm, uk, hk, hok, hU⟩, hrows, hne⟩ := id hK
  obtain ⟨dx, fs, h1, h2⟩ := hk.ob
  obtain ⟨as, b, hpl, hat, hR⟩ := part_at hrows hn
  refine ⟨_, rfl, p, C, dx, fs, .ref pl, rfl, h1, T.cl, T.nP, h2.parts, _, rfl, pl, _, _, .ref b, rfl, rfl, SqL.of hpl, hat, b, _, 1, _, rfl, rfl, hR, hp.at1, ?_⟩
  have hUl := hU.len
  refine ⟨_, rfl, p, dx, fs, rfl, h1, h2.meth "tell_unlike" (by decide +kernel), _, rfl, p, pl, hd, un, fu, hm, uk, place r, "nil", rfl, hk, by lia, fun H1 k1 e1 => ?_⟩
  have hK1 := KnS.tell hk hok hU hrows hne k1 e1
  have nuf : fu ≠ un := ne_of hfu hk.uns (fun z => nomatch z)
  have hfu1 := k1 _ _ hfu nuf
  obtain ⟨⟨hm1, uk1, hk1, _, _⟩, _, _⟩ := id hK1
  obtain ⟨dx1, fs1, h11, h21⟩ := hk1.ob
  refine ⟨_, rfl, p, C, dx1, fs1, .ref fu, rfl, h11, T.cl, T.nF, h21.fulls, fu, _, rfl, hfu1, fun od nf => ?_⟩
  have hK2 := hK1.fus hfu1 (.inl ⟨_, rfl⟩) (.frz od (.dK (fk Fl)))
  have hfu2 : (upd H1 fu (.frz od (.dK (fk Fl)))) fu = some (.frz od (.dK (fk Fl))) := upd_same
  have k2 : Kp (fun b => b = un ∨ b = fu) H (upd H1 fu (.frz od (.dK (fk Fl)))) := fun b o hb hnn => by
    rw [upd_ne (fun z => hnn (.inr z))]
    exact k1 b o hb (fun z => hnn (.inl z))
  generalize upd H1 fu (.frz od (.dK (fk Fl))) = H2 at hK2 hfu2 k2 ⊢
  clear hK1 hfu1 hk1 h11 h21 k1 e1
  refine for_dictK (fun i σ H3 => Kp (fun b => b = un ∨ b = fu) H H3 ∧ KnS K C H3 p pl hd un fu Fs Ps (L ++ ((place r, ("nil" : Str)) :: (Fl.take i).map fun j => (place r, place (Ps.getD j [])))) ∧ H3 fu = some (.frz od (.dK (fk Fl))) ∧ ∃ z3 : Option V, σ = [some (.ref p), some (.int (n : Int)), some (.str (place r)), z3])
    ⟨k2, hK2, hfu2, none, rfl⟩ (fun i σ H3 _ pv => pv.2.2.1) ?_ ?_
  · rintro i x σ H3 hx ⟨k3, hK3, hfu3, z3, rfl⟩
    have hil : i < Fl.length := by
      have := (List.getElem?_eq_some_iff.mp hx).1
      unfold fk at this
      simpa using this
    obtain rfl : x = .int ((Fl[i] : Nat) : Int) := by
      unfold fk at hx
      rw [List.getElem?_map, List.getElem?_map, List.getElem?_eq_getElem hil] at hx
      exact (Option.some.inj hx).symm
    have hjl := hFl _ (List.getElem_mem hil)
    obtain ⟨s, hs⟩ : ∃ s, Ps[Fl[i]]? = some s := ⟨Ps[Fl[i]], List.getElem?_eq_getElem hjl⟩
    have hsp := hparts s (List.mem_of_getElem? hs)
    obtain ⟨⟨hm3, uk3, hk3, hok3, hU3⟩, hrows3, _⟩ := id hK3
    obtain ⟨dx3, fs3, h13, h23⟩ := hk3.ob
    obtain ⟨as3, b3, hpl3, hat3, hR3⟩ := part_at hrows3 hs
    have hUl3 := hU3.len
    have hll : ((Fl.take i).map fun j => (place r, place (Ps.getD j []))).length ≤ Fl.length := by rw [List.length_map, List.length_take]; lia
    refine ⟨_, rfl, p, dx3, fs3, rfl, h13, h23.meth "tell_unlike" (by decide +kernel), _, rfl, _, rfl, p, C, dx3, fs3, .ref pl, rfl, h13, T.cl, T.nP, h23.parts, _, rfl, pl, _, _, .ref b3, rfl, rfl, SqL.of hpl3, hat3, b3, _, 1, _, rfl, rfl, hR3, hsp.at1, p, pl, hd, un, fu, hm3, uk3, place r, place s, rfl, hk3, ?_, fun H4 k4 e4 => ?_⟩
    · rw [List.length_append, List.length_cons] at hUl3
      lia
    have hK4 := KnS.tell hk3 hok3 hU3 hrows3 hne k4 e4
    refine ⟨fun b' o hb hnn => k4 b' o (k3 b' o hb hnn) (fun z => hnn (.inl z)), ?_, k4 _ _ hfu3 nuf, _, rfl⟩
    have et : Fl.take (i + 1) = Fl.take i ++ [Fl[i]] := by rw [List.take_add_one, List.getElem?_eq_getElem hil]; rfl
    have eg : Ps.getD Fl[i] [] = s := by rw [List.getD_eq_getElem?_getD, hs]; rfl
    rw [List.append_assoc] at hK4
    rw [et, List.map_append, List.map_singleton, eg]
    exact hK4
  · rintro σ H3 ⟨k3, hK3, hfu3, z3, rfl⟩
    have e0 : (fk Fl).length = Fl.length := by unfold fk; rw [List.length_map]
    rw [e0, List.take_length] at hK3
    refine ⟨fu, od, .dK (fk Fl), hfu3, nf, ?_⟩
    have hK4 := hK3.fus hfu3 (.inr ⟨_, _, rfl⟩) (.dK (fk Fl))
    have hfu4 : (upd H3 fu (.dK (fk Fl))) fu = some (.dK (fk Fl)) := upd_same
    have k4 : Kp (fun b => b = un ∨ b = fu) H (upd H3 fu (.dK (fk Fl))) := fun b o hb hnn => by
      rw [upd_ne (fun z => hnn (.inr z))]
      exact k3 b o hb hnn
    generalize upd H3 fu (.dK (fk Fl)) = H4 at hK4 hfu4 k4 ⊢
    obtain ⟨⟨hm4, uk4, hk4, _, _⟩, _, _⟩ := id hK4
    obtain ⟨dx4, fs4, h14, h24⟩ := hk4.ob
    refine ⟨_, rfl, p, C, dx4, fs4, .ref fu, rfl, h14, T.cl, T.nF, h24.fulls, _, rfl, fu, _, rfl, DPut.k (k := Sum.inl (n : Int)) hfu4 ?_, ?_⟩
    · rw [e0]; exact Nat.lt_of_le_of_lt (show Fl.length ≤ 1000 by lia) (by decide)
    rw [fk_new hnFl]
    refine q _ (fun b o hb hnn => by rw [upd_ne (fun z => hnn (.inr z))]; exact k4 b o hb hnn) (hK4.fus hfu4 (.inl ⟨_, rfl⟩) _) upd_same
end
end K24
namespace L2
open PySem PySem.Spec
noncomputable def natV (n : Nat) : V := .int (n : Int)
theorem nums_nat (n : Nat) : nums 0 n = (List.range n).map natV := by
  unfold nums natV
  refine List.map_congr_left fun i _ => ?_
  rw [Int.zero_add]
theorem comp_keep {J : It} {H1 : Hp} {σ : St} {ix : List Nat} {tc : TT} {te : TE} {Q : VK} {I0 : Hp → Prop} (ns : List Nat) (p : Nat → Bool) (hJ : JSeq J I0 (ns.map natV)) (h0 : I0 H1) (hz : ns.length ≤ 1000)
    (hc : ∀ n ∈ ns, ∀ H2, Same H1 H2 → ∀ Q' : Bool → Hp → Prop, (∀ H3, Same H2 H3 → Q' (p n) H3) → tc (some (.int (n : Int)) :: frees σ ix) H2 Q')
    (he : ∀ (n : Nat) H2 (Q' : VK), Q' (.int (n : Int)) H2 → te (some (.int (n : Int)) :: frees σ ix) H2 Q')
    (hQ : ∀ D H', H1 D = none → Same H1 H' → H' D = some (.lst ((ns.filter p).map natV)) → Q (.ref D) H') : CompGo J H1 σ ix tc te Q := by
  have pv : ∀ n : Nat, (fun v : V => match v with | .int i => p i.toNat | _ => false) (natV n) = p n := fun n => by
    show p ((n : Int)).toNat = p n
    rw [Int.toNat_natCast]
  refine comp_map (ns.map natV) (fun v => match v with | .int i => p i.toNat | _ => false) id hJ h0 (by rw [List.length_map]; exact Nat.le_trans hz (by decide)) ?_ ?_ ?_
  · intro x hx H2 e2 Q' q'
    obtain ⟨n, hn, rfl⟩ := List.mem_map.mp hx
    refine hc n hn H2 e2 Q' fun H3 e3 => ?_
    have := q' H3 e3
    have e : (match natV n with | .int i => p i.toNat | _ => false) = p n := pv n
    rw [e] at this
    exact this
  · intro x hx _ H2 e2 Q' q'
    obtain ⟨n, hn, rfl⟩ := List.mem_map.mp hx
    exact he n H2 Q' (q' H2 (Same.refl _))
  · intro D H' hD e hd
    refine hQ D H' hD e ?_
    rw [hd, List.map_id, List.filter_map]
    rw [show (List.filter ((fun v : V => match v with | .int i => p i.toNat | _ => false) ∘ natV) ns) = ns.filter p from List.filter_congr fun n _ => pv n]
end L2
namespace K24
open PySem PySem.Spec L2 Mir Kn
open Classical in
noncomputable def mustB (P : List (List Str)) (h : Str → Str) (L : List (Str × Str)) (n : Nat) : Bool := decide (∃ r, P[n]? = some r ∧ FullR (Told h L) r)
open Classical in
theorem mustB_iff {P : List (List Str)} {h : Str → Str} {L : List (Str × Str)} {n : Nat} : mustB P h L n = true ↔ ∃ r, P[n]? = some r ∧ FullR (Told h L) r := by
  unfold mustB
  exact ⟨fun z => of_decide_eq_true z, fun z => decide_eq_true z⟩
theorem mustB_eq {P : List (List Str)} {h : Str → Str} {L : List (Str × Str)} {n : Nat} {r : List Str} {b : Bool} (hn : P[n]? = some r) (hb : b = true ↔ FullR (Told h L) r) : mustB P h L n = b := by
  rw [Bool.eq_iff_iff, mustB_iff, hb]
  constructor
  · rintro ⟨r', h1, h2⟩
    rw [hn] at h1
    cases h1
    exact h2
  · exact fun z => ⟨r, hn, z⟩
theorem fk_val {Fl : List Nat} {n : Nat} : (valV (fk Fl) (Sum.inl (n : Int) : Key)).isSome = decide (n ∈ Fl) := by
  rw [← valV_any]
  unfold fk
  rw [Bool.eq_iff_iff, List.any_eq_true, decide_eq_true_eq]
  constructor
  · rintro ⟨q, hq, e⟩
    obtain ⟨m, hm, rfl⟩ := List.mem_map.mp hq
    have e' : (Sum.inl (m : Int) : Key) = Sum.inl (n : Int) := by simpa using e
    have : (m : Int) = n := Sum.inl.inj e'
    have : m = n := by lia
    exact this ▸ hm
  · exact fun h => ⟨_, List.mem_map.mpr ⟨n, h, rfl⟩, by simp⟩
inductive spFindS (K : PySem.W.Frag) (C : Addr) (vs : List V) (H : Hp) (Q : VK) : Prop
  | mk (p pl hd un fu : Addr) (F P : List (List Str)) (L : List (Str × Str)) (h0 : vs = [.ref p]) (h1 : KnS K C H p pl hd un fu F P L) (h2 : H fu = some (.dK (fk []))) (h3 : (∀ r ∈ F, FactRow r)) (h4 : (∀ r ∈ P, PartRow r)) (h5 : P.length ≤ 15) (h6 : L.length ≤ 100) (h7 : Going F P L []) (h8 : ∀ L' Fl H', Kp (fun b => b = un ∨ b = fu) H H' → KnS K C H' p pl hd un fu F P L' → H' fu = some (.dK (fk Fl)) → AllTold F P L' Fl → Going F P L' Fl → L'.length ≤ 400 → Q .non H') : spFindS K C vs H Q
noncomputable def spFind (K : PySem.W.Frag) (C : Addr) : Sp := fun vs H Q _ => spFindS K C vs H Q
section
variable {P : Program} {w : World} {K : PySem.W.Frag} {mg : Str → Option Value} {base : Heap} {f C fI gM gT : Addr} {fd dM dT : FuncData}
theorem while_n {c : TT} {tb : TS} {D : Ends} {σ : St} {H : Hp} (Pv : Nat → St → Hp → Prop) {m0 : Nat} (h0 : Pv m0 σ H)
    (hs : ∀ m σ H, Pv m σ H → c σ H fun b H1 => if b = true then tb { D with nx := fun σ' H' => ∃ m', m' < m ∧ Pv m' σ' H', ct := fun σ' H' => ∃ m', m' < m ∧ Pv m' σ' H', bk := D.nx } σ H1 else D.nx σ H1)
    (mono : ∀ σ H Q Q', (∀ b H1, Q b H1 → Q' b H1) → c σ H Q → c σ H Q') : tWhile c tb D σ H := by
  refine ⟨Pv, ⟨_, h0⟩, ?_⟩
  intro m σ H p
  refine mono σ H _ _ (fun b H1 q => ?_) (hs m σ H p)
  cases b with
  | true => exact ⟨_, fun σ' H' ⟨m', l, p'⟩ => ⟨m', l, p'⟩, q⟩
  | false => exact q
theorem scFindF : FnScope ["self", "found", "number", "waiting"] ["self"] (defScope sFindF) := ⟨rfl, rfl, rfl, by decide +kernel, rfl, by decide +kernel, by decide +kernel⟩
theorem ok_find (Cn : Con K mg w) (T : Txt K mg C fI) (F : Fun K "find_fulls" "Knowledge.find_fulls" sFindF f fd) (GM : FnOk P w K mg base CX0 3 gM dM ["self", "number"] (spPart K C MustR)) (cM : MCal K C "must_be_full" gM dM ["self", "number"]) (GT : FnOk P w K mg base CX0 3 gT dT ["self", "number"] (spTellF K C)) (cT : MCal K C "tell_full" gT dT ["self", "number"]) : FnOk P w K mg base CX0 4 f fd ["self"] (spFind K C) := by
  refine F.okQ scFindF (fun vs H Q E h => ?_) (fun cdv A outer s0 H vs Q E hr h => ?_)
  · obtain ⟨p, pl, hd, un, fu, F, P, L, rfl, _⟩ := h; rfl
  obtain ⟨p, pl, hd, un, fu, Fs, Ps, L0, rfl, hK, hfu, hFr, hPr, hP15, hL0, hG0, q⟩ := h
  have nd := scFindF.nd
  have hu1 := hu_of hr
  refine ⟨_, qb_cons (qs_setCG ["number", "self"] [0] (i := 1) nd rfl (Or.inl rfl) (qi_range1 rfl Cn.range (qa_call (qe_callB (lenKk (K := K) rfl) rfl Cn.len PySem.boot_len (qa_cons (qe_fldK (K := K) rfl (qv 0)) qa_nil)) qa_nil)) (fun _ _ _ _ => (qts_one (qt_val (qe_meth (qv 1) T.cl cM.meth GM hr cM.bind .nil pass0 (qa_nm (qv 0) qa_nil))))) (fun _ _ _ _ => (qv 0)))
    (qb_one (qs_while PassesOwn.never (qt_truth (K := K) (qv 1)) (qb_cons (qs_for PassesOwn.never rfl (qi_listK (K := K) rfl (qv 1)) (qg_name (i := 2) nd rfl (Or.inl rfl)) (qb_one (qs_expr (qe_meth (qv 0) T.cl cT.meth GT hr cT.bind .nil pass0 (qa_nm (qv 2) qa_nil)))))
    (qb_cons (qs_setCG ["number", "self"] [0] (i := 3) nd rfl (Or.inl rfl) (qi_range1 rfl Cn.range (qa_call (qe_callB (lenKk (K := K) rfl) rfl Cn.len PySem.boot_len (qa_cons (qe_fldK (K := K) rfl (qv 0)) qa_nil)) qa_nil)) (fun _ _ _ _ => (qts_one (qt_dnotin hu1 (qv 0) (qe_fldK (K := K) rfl (qv 1))))) (fun _ _ _ _ => (qv 0)))
    (qb_one (qs_setCG ["number", "self"] [0] (i := 1) nd rfl (Or.inl rfl) (qi_listK (K := K) rfl (qv 3)) (fun _ _ _ _ => (qts_one (qt_val (qe_meth (qv 1) T.cl cM.meth GM hr cM.bind .nil pass0 (qa_nm (qv 0) qa_nil))))) (fun _ _ _ _ => (qv 0)))))))), ?_⟩
  have must : ∀ {H2 H3 : Hp} {L : List (Str × Str)} {n : Nat} {Q' : Bool → Hp → Prop}, KnS K C H2 p pl hd un fu Fs Ps L → n < Ps.length → Same H2 H3 → (∀ H4, Same H3 H4 → Q' (mustB Ps (headF Fs) L n) H4) → spPart K C MustR [.ref p, .int (n : Int)] H3 (fun v H4 => tBS v H4 Q') E0 := fun {H2 H3 L n Q'} hk hn e q' => by
    have hs : Ps[n]? = some Ps[n] := List.getElem?_eq_getElem hn
    refine ⟨p, pl, hd, un, fu, Fs, Ps, L, n, _, rfl, hk.same e, hs, hPr _ (List.getElem_mem hn), fun b H4 e4 hb => ⟨b, rfl, ?_⟩⟩
    have := q' H4 e4
    rw [mustB_eq hs hb] at this
    exact this
  obtain ⟨⟨hm, uk, hk, hok, hU⟩, hrows, hne⟩ := id hK
  obtain ⟨dx, fs, h1, h2⟩ := hk.ob
  obtain ⟨as, hpl, hpp⟩ := hrows
  have hasl := Paired.length hpp
  have hml : (as.map V.ref).length = Ps.length := by rw [List.length_map]; exact hasl
  refine ⟨_, rfl, p, C, dx, fs, .ref pl, rfl, h1, T.cl, T.nP, h2.parts, pl, _, rfl, .inl (SqL.of hpl), _, rfl, (by rw [hml]; lia), (by rw [hml]; lia), ?_⟩
  rw [hml, Int.toNat_natCast]
  have JR : ∀ n, JSeq (Itr 0 n) (fun _ => True) ((List.range n).map natV) := fun n => by rw [← nums_nat]; exact jseq_rng
  refine comp_keep (List.range Ps.length) (mustB Ps (headF Fs) L0) (JR _) trivial (by rw [List.length_range]; lia) (fun n hn H2 e2 Q' q' => ?_) (fun n H2 Q' q' => ⟨_, rfl, q'⟩) fun D H1 hD e1 hd1 => ?_
  · exact ⟨_, rfl, p, dx, fs, rfl, e2 _ _ h1, h2.meth "must_be_full" (by decide +kernel), _, rfl, must hK (List.mem_range.mp hn) e2 q'⟩
  have hfo0 : ∀ i r, Ps[i]? = some r → FullR (Told (headF Fs) L0) r → i ∈ ([] : List Nat) ∨ i ∈ (List.range Ps.length).filter (mustB Ps (headF Fs) L0) := fun i r hi hf => .inr (List.mem_filter.mpr ⟨List.mem_range.mpr (List.getElem?_eq_some_iff.mp hi).1, mustB_iff.mpr ⟨r, hi, hf⟩⟩)
  refine while_n (fun m σ H2 => Ex6 fun (L : List (Str × Str)) (Fl fo : List Nat) (D : Addr) (z2 z3 : Option V) => And11 (σ = [some (.ref p), some (.ref D), z2, z3]) (Kp (fun b => b = un ∨ b = fu) H H2) (KnS K C H2 p pl hd un fu Fs Ps L) (H2 fu = some (.dK (fk Fl))) (Going Fs Ps L Fl) (L.length ≤ 100 + Fl.length * 16) (H2 D = some (.lst (fo.map natV))) (fo.Nodup) ((∀ i ∈ fo, (¬ i ∈ Fl) ∧ ∃ r, Ps[i]? = some r ∧ FullR (Told (headF Fs) L) r)) ((∀ i r, Ps[i]? = some r → FullR (Told (headF Fs) L) r → i ∈ Fl ∨ i ∈ fo)) (m = Ps.length - Fl.length))
    (m0 := Ps.length) ⟨L0, [], _, D, none, none, rfl, fun b o hb _ => e1 b o hb, hK.same e1, e1 _ _ hfu, hG0, by simpa using hL0, hd1, List.Nodup.sublist List.filter_sublist List.nodup_range, fun i hi => ⟨List.not_mem_nil, mustB_iff.mp (List.mem_filter.mp hi).2⟩, hfo0, rfl⟩ ?_ ?_
  · rintro m σ H2 ⟨L, Fl, fo, D, z2, z3, rfl, k2, hK2, hfu2, hG, hLl, hD2, hfn, hff, hfc, rfl⟩
    refine ⟨_, rfl, _, .inl ⟨_, SqL.of hD2, rfl⟩, ?_⟩
    have nuf : fu ≠ un := by
      obtain ⟨⟨_, _, hk2, _⟩, _⟩ := hK2
      exact ne_of hfu2 hk2.uns (fun z => nomatch z)
    have hfl := hG.len
    refine iteB (fun c => ?_) (fun c => ?_)
    · have hfpos : 0 < fo.length := by
        cases fo with
        | nil => cases c
        | cons _ _ => exact Nat.succ_pos _
      clear c
      refine ⟨_, rfl, D, rfl, ⟨_, SqL.of hD2⟩, ?_⟩
      have hDu : D ≠ un := by
        obtain ⟨⟨_, _, hk2, _⟩, _⟩ := hK2
        exact ne_of hD2 hk2.uns (fun z => nomatch z)
      have hDf : D ≠ fu := ne_of hD2 hfu2 (fun z => nomatch z)
      refine for_list (xs := fo.map natV) (fun j σ H3 => Ex2 fun (L3 : List (Str × Str)) (z2 : Option V) => And7 (σ = [some (.ref p), some (.ref D), z2, z3]) (Kp (fun b => b = un ∨ b = fu) H H3) (KnS K C H3 p pl hd un fu Fs Ps L3) (H3 fu = some (.dK (fk (Fl ++ fo.take j)))) (Going Fs Ps L3 (Fl ++ fo.take j)) (L3.length ≤ 100 + (Fl ++ fo.take j).length * 16) (H3 D = some (.lst (fo.map natV))))
        ⟨L, z2, rfl, k2, hK2, by rw [List.take_zero, List.append_nil]; exact hfu2, by rw [List.take_zero, List.append_nil]; exact hG, by rw [List.take_zero, List.append_nil]; exact hLl, hD2⟩ (fun j σ H3 _ pv => by obtain ⟨_, _, _, _, _, _, _, _, hd3⟩ := pv; exact SqL.of hd3) ?_ ?_
      · rintro j x σ H3 hx ⟨L3, z2, rfl, k3, hK3, hfu3, hG3, hL3, hD3⟩
        have hjl : j < fo.length := by have := (List.getElem?_eq_some_iff.mp hx).1; rw [List.length_map] at this; exact this
        obtain rfl : x = .int ((fo[j] : Nat) : Int) := by
          rw [List.getElem?_map, List.getElem?_eq_getElem hjl] at hx
          exact (Option.some.inj hx).symm
        obtain ⟨hn1, r, hr, hfr⟩ := hff _ (List.getElem_mem hjl)
        have hnt : ¬ fo[j] ∈ Fl ++ fo.take j := fun z => by
          rcases List.mem_append.mp z with y | y
          · exact hn1 y
          · obtain ⟨i, hi, e⟩ := List.mem_take_iff_getElem.mp y
            have := (List.getElem_inj hfn).mp e
            lia
        have hfU : FullR (Un Fs Ps) r := hfr.mono fun a b z => told_un hFr hG.sound z
        have hlen3 := hG3.len
        have hm16 : (Fl ++ fo.take j).length * 16 ≤ 15 * 16 := Nat.mul_le_mul_right _ (by lia)
        obtain ⟨⟨hm3, uk3, hk3, _, _⟩, _, _⟩ := id hK3
        obtain ⟨dx3, fs3, h13, h23⟩ := hk3.ob
        refine ⟨_, rfl, p, dx3, fs3, rfl, h13, h23.meth "tell_full" (by decide +kernel), _, rfl, p, pl, hd, un, fu, Fs, Ps, L3, Fl ++ fo.take j, fo[j], r, rfl, hK3, hfu3, hr, hPr, fun i hi => ?_, hnt, by lia, fun H4 k4 hK4 hfu4 => ?_⟩
        · obtain ⟨r', h', _⟩ := hG3.isf i hi
          exact (List.getElem?_eq_some_iff.mp h').1
        have et : Fl ++ fo.take (j + 1) = Fl ++ fo.take j ++ [fo[j]] := by rw [List.take_add_one, List.getElem?_eq_getElem hjl, List.append_assoc]; rfl
        refine ⟨_, _, rfl, fun b o hb hnn => k4 b o (k3 b o hb hnn) hnn, hK4, by rw [et]; exact hfu4, by rw [et]; exact hG3.step hr hfU hnt, ?_, k4 _ _ hD3 (fun z => z.elim hDu hDf)⟩
        have tl : (tellF Ps (Fl ++ fo.take j) r).length = (Fl ++ fo.take j).length + 1 := by unfold tellF; rw [List.length_cons, List.length_map]
        rw [et, List.length_append, tl, List.length_append (bs := [fo[j]]), List.length_singleton, Nat.add_mul]
        lia
      · rintro σ H3 ⟨L3, z2, rfl, k3, hK3, hfu3, hG3, hL3, hD3⟩
        have el : (fo.map natV).length = fo.length := List.length_map ..
        rw [el, List.take_length] at hfu3 hG3 hL3
        have hlen3 := hG3.len
        rw [List.length_append] at hlen3
        obtain ⟨⟨hm3, uk3, hk3, hok3, hU3⟩, hrows3, _⟩ := id hK3
        obtain ⟨dx3, fs3, h13, h23⟩ := hk3.ob
        obtain ⟨as3, hpl3, hpp3⟩ := hrows3
        have hml3 : (as3.map V.ref).length = Ps.length := by rw [List.length_map]; exact Paired.length hpp3
        refine ⟨_, rfl, p, C, dx3, fs3, .ref pl, rfl, h13, T.cl, T.nP, h23.parts, pl, _, rfl, .inl (SqL.of hpl3), _, rfl, (by rw [hml3]; lia), (by rw [hml3]; lia), ?_⟩
        rw [hml3, Int.toNat_natCast]
        refine comp_keep (List.range Ps.length) (fun n => !decide (n ∈ Fl ++ fo)) (JR _) trivial (by rw [List.length_range]; lia) (fun n hn H4 e4 Q' q' => ?_) (fun n H4 Q' q' => ⟨_, rfl, q'⟩) fun D4 H4 hD4 e4 hd4 => ?_
        · have g := DGet.k (k := Sum.inl (n : Int)) (e4 _ _ hfu3)
          have := q' H4 (Same.refl _)
          rw [← fk_val] at this
          exact ⟨_, rfl, _, rfl, p, C, dx3, fs3, .ref fu, rfl, e4 _ _ h13, T.cl, T.nF, h23.fulls, fu, _, rfl, g, _, rfl, this⟩
        have hK4 := hK3.same e4
        obtain ⟨⟨hm4, uk4, hk4, _, _⟩, _, _⟩ := id hK4
        obtain ⟨dx4, fs4, h14, h24⟩ := hk4.ob
        refine ⟨_, rfl, D4, rfl, ⟨_, SqL.of hd4⟩, ?_⟩
        have hwl : ((List.range Ps.length).filter fun n => !decide (n ∈ Fl ++ fo)).length ≤ Ps.length := by
          have := List.length_filter_le (fun n => !decide (n ∈ Fl ++ fo)) (List.range Ps.length)
          rw [List.length_range] at this
          exact this
        refine comp_keep ((List.range Ps.length).filter fun n => !decide (n ∈ Fl ++ fo)) (mustB Ps (headF Fs) L3) jseq_list (SqL.of hd4) (by lia) (fun n hn H5 e5 Q' q' => ?_) (fun n H5 Q' q' => ⟨_, rfl, q'⟩) fun D5 H5 hD5 e5 hd5 => ?_
        · exact ⟨_, rfl, p, dx4, fs4, rfl, e5 _ _ h14, h24.meth "must_be_full" (by decide +kernel), _, rfl, must hK4 (List.mem_range.mp (List.mem_filter.mp hn).1) e5 q'⟩
        have e35 := e4.trans e5
        refine ⟨Ps.length - (Fl ++ fo).length, by rw [List.length_append]; lia, L3, Fl ++ fo, _, D5, _, _, rfl, fun b o hb hnn => e35 b o (k3 b o hb hnn), hK3.same e35, e35 _ _ hfu3, hG3, hL3, hd5, List.Nodup.sublist (List.filter_sublist.trans List.filter_sublist) List.nodup_range, fun i hi => ?_, fun i r hi hf => ?_, rfl⟩
        · obtain ⟨g1, g2⟩ := List.mem_filter.mp hi
          obtain ⟨g3, g4⟩ := List.mem_filter.mp g1
          exact ⟨by simpa using g4, mustB_iff.mp g2⟩
        · by_cases hin : i ∈ Fl ++ fo
          · exact .inl hin
          · exact .inr (List.mem_filter.mpr ⟨List.mem_filter.mpr ⟨List.mem_range.mpr (List.getElem?_eq_some_iff.mp hi).1, by simpa using hin⟩, mustB_iff.mpr ⟨r, hi, hf⟩⟩)
    · have hfe : fo = [] := by
        cases fo with
        | nil => rfl
        | cons _ _ => cases c
      subst hfe
      have A := hG.done fun i r hi hf => (hfc i r hi hf).resolve_right List.not_mem_nil
      exact q L Fl H2 k2 hK2 hfu2 A hG (by have : Fl.length * 16 ≤ 15 * 16 := Nat.mul_le_mul_right _ (by lia); lia)
  · rintro σ H2 Q1 Q2 hq ⟨v, h1, k, h2, h3⟩
    exact ⟨v, h1, k, h2, hq _ _ h3⟩
end
end K24
namespace K24
open PySem PySem.Spec L2 Mir Kn
noncomputable def nots (F : List (List Str)) : List (Str × Str) := F.filterMap fun (r : List Str) => if (r.getD 0 "" : Str) = ("not" : Str) then some ((r.getD 1 "", r.getD 2 "") : Str × Str) else none
theorem nots_len (F : List (List Str)) : (nots F).length ≤ F.length := List.length_filterMap_le _ _
theorem nots_not (F : List (List Str)) (u v : Str) : nots (F ++ [[("not" : Str), u, v]]) = nots F ++ [(u, v)] := by
  unfold nots
  rw [List.filterMap_append]
  rfl
theorem nots_is (F : List (List Str)) {k u v : Str} (h : ¬ k = "not") : nots (F ++ [[k, u, v]]) = nots F := by
  unfold nots
  rw [List.filterMap_append, List.filterMap_cons]
  have e : (if ([k, u, v].getD 0 "" : Str) = ("not" : Str) then some (([k, u, v].getD 1 "", [k, u, v].getD 2 "") : Str × Str) else none) = none := if_neg h
  rw [e]
  simp
theorem nots_mem {F : List (List Str)} (hF : ∀ r ∈ F, FactRow r) {u v : Str} : (u, v) ∈ nots F ↔ [("not" : Str), u, v] ∈ F := by
  unfold nots
  rw [List.mem_filterMap]
  constructor
  · rintro ⟨r, hr, e⟩
    obtain ⟨k, a, b, rfl, hk⟩ := hF r hr
    by_cases c : k = "not"
    · rw [if_pos (show ([k, a, b].getD 0 "") = "not" from c)] at e
      have e' : (a, b) = (u, v) := Option.some.inj e
      injection e' with e1 e2
      rw [← e1, ← e2, ← c]; exact hr
    · rw [if_neg (show ¬ ([k, a, b].getD 0 "") = "not" from c)] at e
      cases e
  · intro h
    exact ⟨_, h, by rw [if_pos (show ([("not" : Str), u, v].getD 0 "") = "not" from rfl)]; rfl⟩
theorem going0 {F P : List (List Str)} (hF : ∀ r ∈ F, FactRow r) : Going F P (nots F) [] := ⟨fun u v h => (nots_mem hF).mpr h, fun q hq => (un_clo F P).fact _ _ ((nots_mem hF).mp hq), .nil, fun i hi => by simp at hi, fun i hi => by simp at hi, fun i hi => by simp at hi⟩
open Classical in
noncomputable def emptyB (P : List (List Str)) (h : Str → Str) (n : Nat) : Bool := decide (∃ r, P[n]? = some r ∧ EmptyR r h [])
open Classical in
theorem emptyB_iff {P : List (List Str)} {h : Str → Str} {n : Nat} : emptyB P h n = true ↔ ∃ r, P[n]? = some r ∧ EmptyR r h [] := by
  unfold emptyB
  exact ⟨fun z => of_decide_eq_true z, fun z => decide_eq_true z⟩
theorem emptyB_eq {P : List (List Str)} {h : Str → Str} {L : List (Str × Str)} {n : Nat} {r : List Str} {b : Bool} (hn : P[n]? = some r) (hb : b = true ↔ EmptyR r h L) : (!emptyB P h n) = !b := by
  congr 1
  rw [Bool.eq_iff_iff, emptyB_iff, hb]
  constructor
  · rintro ⟨r', h1, h2⟩
    rw [hn] at h1
    cases h1
    exact h2
  · exact fun z => ⟨r, hn, z⟩
inductive spInitPS (K : PySem.W.Frag) (C : Addr) (vs : List V) (H : Hp) (Q : VK) : Prop
  | mk (p dx fl pl0 : Addr) (F P : List (List Str)) (h0 : vs = [.ref p, .ref fl, .ref pl0]) (h1 : H p = some (.ins C dx [])) (h2 : RowsAt K H fl F) (h3 : F.length ≤ 100) (h4 : (∀ r ∈ F, FactRow r)) (h5 : RowsAt K H pl0 P) (h6 : P.length ≤ 15) (h7 : (∀ r ∈ P, PartRow r)) (h8 : ∀ pl hd un fu L Fl D dx' fs' H', Kp (· = p) H H' → KnS K C H' p pl hd un fu F P L → H' fu = some (.dK (fk Fl)) → AllTold F P L Fl → Going F P L Fl → H' p = some (.ins C dx' fs') → fs'.lookup ("not_empty" : Str) = some (.ref D) → KFs fs' pl hd un fu → H' D = some (.lst (((List.range P.length).filter fun n => !emptyB P (headF F) n).map natV)) → L.length ≤ 400 → Q .non H') : spInitPS K C vs H Q
noncomputable def spInitP (K : PySem.W.Frag) (C : Addr) : Sp := fun vs H Q _ => spInitPS K C vs H Q
theorem meth_ne : ∀ m ∈ methNames, m ≠ ("parts" : Str) ∧ m ≠ ("heads" : Str) ∧ m ≠ ("unlikes" : Str) ∧ m ≠ ("fulls" : Str) ∧ m ≠ ("not_empty" : Str) := by decide +kernel
theorem fld_ne : ("parts" : Str) ≠ "heads" ∧ ("parts" : Str) ≠ "unlikes" ∧ ("parts" : Str) ≠ "fulls" ∧ ("parts" : Str) ≠ "not_empty" ∧ ("heads" : Str) ≠ "unlikes" ∧ ("heads" : Str) ≠ "fulls" ∧ ("heads" : Str) ≠ "not_empty" ∧ ("unlikes" : Str) ≠ "fulls" ∧ ("unlikes" : Str) ≠ "not_empty" ∧ ("fulls" : Str) ≠ "not_empty" := by decide +kernel
theorem kfs4 (pl hd un fu : Addr) : KFs (putF "fulls" (.ref fu) (putF "unlikes" (.ref un) (putF "heads" (.ref hd) (putF "parts" (.ref pl) [])))) pl hd un fu := by
  obtain ⟨n1, n2, n3, n4, n5, n6, n7, n8, n9, n10⟩ := fld_ne
  refine ⟨?_, ?_, ?_, ?_, ?_, fun m hm => ?_⟩
  · rw [lookup_putF, if_neg n3, lookup_putF, if_neg n2, lookup_putF, if_neg n1, lookup_putF, if_pos rfl]
  · rw [lookup_putF, if_neg n6, lookup_putF, if_neg n5, lookup_putF, if_pos rfl]
  · rw [lookup_putF, if_neg n8, lookup_putF, if_pos rfl]
  · rw [lookup_putF, if_pos rfl]
  · have h1 := length_putF "parts" (.ref pl) []
    have h2 := length_putF "heads" (.ref hd) (putF "parts" (.ref pl) [])
    have h3 := length_putF "unlikes" (.ref un) (putF "heads" (.ref hd) (putF "parts" (.ref pl) []))
    have h4 := length_putF "fulls" (.ref fu) (putF "unlikes" (.ref un) (putF "heads" (.ref hd) (putF "parts" (.ref pl) [])))
    simp only [List.length_nil] at h1
    lia
  · obtain ⟨m1, m2, m3, m4, m5⟩ := meth_ne m hm
    rw [lookup_putF, if_neg m4, lookup_putF, if_neg m3, lookup_putF, if_neg m2, lookup_putF, if_neg m1]; rfl
theorem KFs.more {fs : List (Str × V)} {pl hd un fu : Addr} (h : KFs fs pl hd un fu) (v : V) (hl : fs.length < 50) : KFs (putF "not_empty" v fs) pl hd un fu := by
  obtain ⟨n1, n2, n3, n4, n5, n6, n7, n8, n9, n10⟩ := fld_ne
  refine ⟨?_, ?_, ?_, ?_, ?_, fun m hm => ?_⟩
  · rw [lookup_putF, if_neg n4]; exact h.parts
  · rw [lookup_putF, if_neg n7]; exact h.heads
  · rw [lookup_putF, if_neg n9]; exact h.unlikes
  · rw [lookup_putF, if_neg n10]; exact h.fulls
  · have := length_putF "not_empty" v fs; lia
  · rw [lookup_putF, if_neg (meth_ne m hm).2.2.2.2]; exact h.meth m hm
theorem rows_kpI {K : PySem.W.Frag} {H H' : Hp} {p fl C dx : Addr} {fs : List (Str × V)} {F : List (List Str)} (hp : H p = some (.ins C dx fs)) (k : Kp (· = p) H H') (h : RowsAt K H fl F) : RowsAt K H' fl F := by
  obtain ⟨as, h1, h2⟩ := h
  refine ⟨as, k _ _ h1 (fun z => by have z' : fl = p := z; rw [z', hp] at h1; cases h1), Paired.mapP h2 fun b r hb => ?_⟩
  rcases hb with (z | ⟨o, z⟩) | z
  · exact .inl (.inl (k _ _ z fun y => by have y' : b = p := y; rw [y', hp] at z; cases z))
  · exact .inl (.inr ⟨o, k _ _ z fun y => by have y' : b = p := y; rw [y', hp] at z; cases z⟩)
  · exact .inr z
section
variable {P : Program} {w : World} {K : PySem.W.Frag} {mg : Str → Option Value} {base : Heap} {f C fI gH gU gF gE : Addr} {fd dH dU dF dE : FuncData}
theorem scInit : FnScope ["self", "facts", "parts", "fact"] ["self", "facts", "parts"] (defScope sInit) := ⟨rfl, rfl, rfl, by decide +kernel, rfl, by decide +kernel, by decide +kernel⟩
theorem ok_initP (Cn : Con K mg w) (T : Txt K mg C fI) (F : Fun K "__init__" "Knowledge.__init__" sInit f fd) (GH : FnOk P w K mg base CX0 1 gH dH ["facts"] (spHeadsOf K)) (cH : Cal K mg "heads_of" gH dH ["facts"])
    (GU : FnOk P w K mg base CX0 2 gU dU ["self", "one", "other"] (spTellU C)) (cU : MCal K C "tell_unlike" gU dU ["self", "one", "other"]) (GF : FnOk P w K mg base CX0 4 gF dF ["self"] (spFind K C)) (cF : MCal K C "find_fulls" gF dF ["self"])
    (GE : FnOk P w K mg base CX0 3 gE dE ["self", "number"] (spPart K C EmptyR)) (cE : MCal K C "is_empty" gE dE ["self", "number"]) : FnOk P w K mg base CX0 5 f fd ["self", "facts", "parts"] (spInitP K C) := by
  refine F.okQ scInit (fun vs H Q E h => ?_) (fun cdv A outer s0 H vs Q E hr h => ?_)
  · obtain ⟨p, dx, fl, pl0, F, P, rfl, _⟩ := h; rfl
  obtain ⟨p, dx, fl, pl0, Fs, Ps, rfl, h1, hF, hFl, hrow, hPP, hP15, hPr, q⟩ := h
  obtain ⟨pas, hP0, hPp⟩ := id hPP
  have hpal := Paired.length hPp
  have nd := scInit.nd
  have hu1 := hu_of hr
  have hr3 := hr.mono (j := 3) (by lia)
  have hr2 := hr.mono (j := 2) (by lia)
  have hr1 := hr.mono (j := 1) (by lia)
  refine ⟨_, qb_cons (qs_fldK (K := K) rfl (qv 0) (qe_callTy (lstKk (K := K) rfl) rfl Cn.list PyProof.Rows.boot_list (qa_nm (qv 2) qa_nil)))
    (qb_cons (qs_fldK (K := K) rfl (qv 0) (qe_call GH hr1 rfl cH.name cH.keep cH.bind .nil pass0 (qa_nm (qv 1) qa_nil)))
    (qb_cons (qs_fldK (K := K) rfl (qv 0) qe_dnewT)
    (qb_cons (qs_fldK (K := K) rfl (qv 0) qe_dnew)
    (qb_cons (qs_for PassesOwn.never rfl (qi_listK (K := K) rfl (qv 1)) (qg_name (i := 3) nd rfl (Or.inl rfl)) (qb_one (qs_if (qt_cmpR op_eq (qe_ix (ixTk (K := K) rfl) (qv 3) qe_int (fun _ _ => rfl)) qe_str (nomark _)) (qb_one (qs_expr (qe_meth (qv 0) T.cl cU.meth GU hr2 cU.bind .nil pass0 (qa_sub (qe_ix (ixTk (K := K) rfl) (qv 3) qe_int (fun _ _ => rfl)) (qa_sub (qe_ix (ixTk (K := K) rfl) (qv 3) qe_int (fun _ _ => rfl)) qa_nil))))) qb_nil)))
    (qb_cons (qs_expr (qe_meth0 (qv 0) T.cl cF.meth GF hr cF.bind .nil pass0))
    (qb_one (qs_fldK (K := K) rfl (qv 0) (qe_compG ["number", "self"] [0] (qi_range1 rfl Cn.range (qa_call (qe_callB (lenKk (K := K) rfl) rfl Cn.len PySem.boot_len (qa_nm (qv 2) qa_nil)) qa_nil)) (fun _ _ _ _ => (qts_one (qt_not (qt_val (qe_meth (qv 1) T.cl cE.meth GE hr3 cE.bind .nil pass0 (qa_nm (qv 0) qa_nil)))))) (fun _ _ _ _ => (qv 0)))))))))), ?_⟩
  have kr : ∀ {Hx : Hp}, Kp (· = p) H Hx → RowsAt K Hx fl Fs := fun k => rows_kpI h1 k hF
  have small : ∀ {n : Nat}, n ≤ 10 → n < 1000 := fun h => by lia
  refine ⟨_, rfl, pl0, _, rfl, .inl (SqL.of hP0), fun pl hpl => ?_⟩
  have hpp : p ≠ pl := ne_of_none h1 hpl
  refine ⟨_, rfl, p, C, dx, _, rfl, (by rw [upd_ne hpp]; exact h1), T.cl, T.nP, small (Nat.zero_le _), ?_⟩
  have k1 : Kp (· = p) H (upd (upd H pl (.lst (pas.map V.ref))) p (.ins C dx (putF "parts" (.ref pl) []))) := fun b o hb n => by rw [upd_ne n]; exact same_new hpl _ _ _ hb
  have hp1 : (upd (upd H pl (.lst (pas.map V.ref))) p (.ins C dx (putF "parts" (.ref pl) []))) p = some (.ins C dx (putF "parts" (.ref pl) [])) := upd_same
  have hl1 : (upd (upd H pl (.lst (pas.map V.ref))) p (.ins C dx (putF "parts" (.ref pl) []))) pl = some (.lst (pas.map V.ref)) := by rw [upd_ne (Ne.symm hpp), upd_same]
  generalize upd (upd H pl (.lst (pas.map V.ref))) p (.ins C dx (putF "parts" (.ref pl) [])) = H1 at k1 hp1 hl1 ⊢
  refine ⟨_, rfl, fl, Fs, rfl, kr k1, hFl, hrow, fun hd hm H2 e2 hhd0 hhd hml hok => ?_⟩
  have hp2 := e2 _ _ hp1
  have hl2 := e2 _ _ hl1
  have hphd : p ≠ hd := ne_of_none hp1 hhd0
  have hplhd : pl ≠ hd := ne_of_none hl1 hhd0
  have len1 : (putF "parts" (.ref pl) []).length ≤ 1 := length_putF _ _ _
  refine ⟨_, rfl, p, C, dx, _, rfl, hp2, T.cl, T.nH, small (by lia), ?_⟩
  have k2 : Kp (· = p) H (upd H2 p (.ins C dx (putF "heads" (.ref hd) (putF "parts" (.ref pl) [])))) := fun b o hb n => by rw [upd_ne n]; exact e2 _ _ (k1 b o hb n)
  have hp2' : (upd H2 p (.ins C dx (putF "heads" (.ref hd) (putF "parts" (.ref pl) [])))) p = some (.ins C dx (putF "heads" (.ref hd) (putF "parts" (.ref pl) []))) := upd_same
  have hl2' : (upd H2 p (.ins C dx (putF "heads" (.ref hd) (putF "parts" (.ref pl) [])))) pl = some (.lst (pas.map V.ref)) := by rw [upd_ne (Ne.symm hpp)]; exact hl2
  have hd2 : (upd H2 p (.ins C dx (putF "heads" (.ref hd) (putF "parts" (.ref pl) [])))) hd = some (.dK (dS hm)) := by rw [upd_ne (Ne.symm hphd)]; exact hhd
  have len2 : (putF "heads" (.ref hd) (putF "parts" (.ref pl) [])).length ≤ 2 := by have := length_putF "heads" (.ref hd) (putF "parts" (.ref pl) []); lia
  generalize upd H2 p (.ins C dx (putF "heads" (.ref hd) (putF "parts" (.ref pl) []))) = H3 at k2 hp2' hl2' hd2 ⊢
  intro un hun
  have hpu : p ≠ un := ne_of_none hp2' hun
  have s4 := same_new hun (.dT [])
  refine ⟨_, rfl, p, C, dx, _, rfl, s4 _ _ hp2', T.cl, T.nU, small (by lia), ?_⟩
  have len3 : (putF "unlikes" (.ref un) (putF "heads" (.ref hd) (putF "parts" (.ref pl) []))).length ≤ 3 := by have := length_putF "unlikes" (.ref un) (putF "heads" (.ref hd) (putF "parts" (.ref pl) [])); lia
  have k3 : Kp (· = p) H (upd (upd H3 un (.dT [])) p (.ins C dx (putF "unlikes" (.ref un) (putF "heads" (.ref hd) (putF "parts" (.ref pl) []))))) := fun b o hb n => by rw [upd_ne n]; exact s4 _ _ (k2 b o hb n)
  have hp3 : (upd (upd H3 un (.dT [])) p (.ins C dx (putF "unlikes" (.ref un) (putF "heads" (.ref hd) (putF "parts" (.ref pl) []))))) p = some (.ins C dx (putF "unlikes" (.ref un) (putF "heads" (.ref hd) (putF "parts" (.ref pl) [])))) := upd_same
  have hl3 : (upd (upd H3 un (.dT [])) p (.ins C dx (putF "unlikes" (.ref un) (putF "heads" (.ref hd) (putF "parts" (.ref pl) []))))) pl = some (.lst (pas.map V.ref)) := by rw [upd_ne (Ne.symm hpp)]; exact s4 _ _ hl2'
  have hd3 : (upd (upd H3 un (.dT [])) p (.ins C dx (putF "unlikes" (.ref un) (putF "heads" (.ref hd) (putF "parts" (.ref pl) []))))) hd = some (.dK (dS hm)) := by rw [upd_ne (Ne.symm hphd)]; exact s4 _ _ hd2
  have hu3 : (upd (upd H3 un (.dT [])) p (.ins C dx (putF "unlikes" (.ref un) (putF "heads" (.ref hd) (putF "parts" (.ref pl) []))))) un = some (.dT []) := by rw [upd_ne (Ne.symm hpu), upd_same]
  have un0 : H un = none := by
    cases qz : H un with
    | none => rfl
    | some o => have := k2 un o qz (fun z => hpu z.symm); rw [hun] at this; cases this
  generalize upd (upd H3 un (.dT [])) p (.ins C dx (putF "unlikes" (.ref un) (putF "heads" (.ref hd) (putF "parts" (.ref pl) [])))) = H4 at k3 hp3 hl3 hd3 hu3 ⊢
  intro fu hfu
  have hpf : p ≠ fu := ne_of_none hp3 hfu
  have s5 := same_new hfu (.dK [])
  refine ⟨_, rfl, p, C, dx, _, rfl, s5 _ _ hp3, T.cl, T.nF, small (by lia), ?_⟩
  have KF := kfs4 pl hd un fu
  have len4 : (putF "fulls" (.ref fu) (putF "unlikes" (.ref un) (putF "heads" (.ref hd) (putF "parts" (.ref pl) [])))).length ≤ 4 := by have := length_putF "fulls" (.ref fu) (putF "unlikes" (.ref un) (putF "heads" (.ref hd) (putF "parts" (.ref pl) []))); lia
  generalize putF "fulls" (.ref fu) (putF "unlikes" (.ref un) (putF "heads" (.ref hd) (putF "parts" (.ref pl) []))) = f4 at KF len4 ⊢
  have k4 : Kp (· = p) H (upd (upd H4 fu (.dK [])) p (.ins C dx f4)) := fun b o hb n => by rw [upd_ne n]; exact s5 _ _ (k3 b o hb n)
  have hl4 : (upd (upd H4 fu (.dK [])) p (.ins C dx f4)) pl = some (.lst (pas.map V.ref)) := by rw [upd_ne (Ne.symm hpp)]; exact s5 _ _ hl3
  have K4 : KnAt C (upd (upd H4 fu (.dK [])) p (.ins C dx f4)) p pl hd un fu hm [] := ⟨⟨dx, f4, upd_same, KF⟩, by rw [upd_ne (Ne.symm hphd)]; exact s5 _ _ hd3, by rw [upd_ne (Ne.symm hpu)]; exact s5 _ _ hu3⟩
  have hp4 : (upd (upd H4 fu (.dK [])) p (.ins C dx f4)) p = some (.ins C dx f4) := upd_same
  have hfu4 : (upd (upd H4 fu (.dK [])) p (.ins C dx f4)) fu = some (.dK (fk [])) := by rw [upd_ne (Ne.symm hpf), upd_same]; rfl
  generalize upd (upd H4 fu (.dK [])) p (.ins C dx f4) = H5 at k4 hl4 K4 hp4 hfu4 ⊢
  have hrows := kr k4
  obtain ⟨fas, hfl, hfp⟩ := hrows
  have hfal := Paired.length hfp
  obtain ⟨fas0, hfl0, hfp0⟩ := hF
  have hflp : fl ≠ p := fun z => by rw [z, h1] at hfl0; cases hfl0
  have hflu : fl ≠ un := fun z => by rw [z, un0] at hfl0; cases hfl0
  have efas : fas = fas0 := by
    have := k4 _ _ hfl0 hflp
    rw [hfl] at this
    have e := Option.some.inj this
    injection e with e
    exact List.map_inj_right (fun a b h => by injection h) |>.mp e
  subst efas
  refine ⟨_, rfl, fl, rfl, ⟨_, SqL.of hfl⟩, ?_⟩
  refine for_list (xs := fas.map V.ref) (fun i σ H' => Kp (· = un) H5 H' ∧ Ex2 fun (uk : List (List Key × V)) (z3 : Option V) => And3 (H' un = some (.dT uk)) (UkT uk (headF Fs) (nots (Fs.take i))) (σ = [some (.ref p), some (.ref fl), some (.ref pl0), z3]))
    ⟨fun _ _ q _ => q, [], none, K4.uns, ⟨(fun q hq => nomatch hq), (Nat.zero_le _), (fun a b => ⟨(fun h => nomatch h), (fun ⟨_, h, _⟩ => by rw [List.take_zero] at h; cases h)⟩)⟩, rfl⟩ (fun i σ H' _ pv => SqL.of (pv.1 _ _ hfl fun z => hflu z)) ?_ ?_
  · rintro i x σ H' hi ⟨kk, uk, z3, hU, hUk, rfl⟩
    obtain ⟨b, hb, rfl⟩ := ref_at hi
    obtain ⟨r, hr1', hr2'⟩ := Paired.nth hfp hb
    have hil : i < Fs.length := (List.getElem?_eq_some_iff.mp hr1').1
    obtain ⟨k, u, v, rfl, hk⟩ := hrow r (List.mem_of_getElem? hr1')
    have hR : RowAt K H' b [k, u, v] := by
      rcases hr2' with (z | ⟨o, z⟩) | z
      · exact .inl (.inl (kk _ _ z fun y => by have y' : b = un := y; rw [y', K4.uns] at z; cases z))
      · exact .inl (.inr ⟨o, kk _ _ z fun y => by have y' : b = un := y; rw [y', K4.uns] at z; cases z⟩)
      · exact .inr z
    have htk : Fs.take (i + 1) = Fs.take i ++ [[k, u, v]] := by rw [List.take_add_one, hr1']; rfl
    have KN := K4.tell kk hU
    obtain ⟨dx', fs', g1, g2⟩ := KN.ob
    have hlu := hUk.len
    have hltk : (nots (Fs.take i)).length ≤ i := Nat.le_trans (nots_len _) (by rw [List.length_take]; lia)
    refine ⟨_, rfl, b, _, 0, .str k, rfl, rfl, hR, rfl, rfl, _, rfl, iteB (fun c => ?_) (fun c => ?_)⟩
    · have hk' : k = "not" := by simpa using c
      subst hk'
      refine ⟨_, rfl, p, dx', fs', rfl, g1, g2.meth "tell_unlike" (by decide +kernel), _, rfl, b, _, 1, .str u, rfl, rfl, hR, rfl, _, rfl, b, _, 2, .str v, rfl, rfl, hR, rfl, p, pl, hd, un, fu, hm, uk, u, v, rfl, KN, by lia, fun H6 k6 hu6 => ?_⟩
      rw [hok.hd, hok.hd] at hu6
      refine ⟨fun b o q n => k6 b o (kk b o q n) n, _, _, hu6, ?_, rfl⟩
      rw [htk, nots_not]
      exact hUk.step u v
    · have hk' : ¬ k = "not" := by simpa using c
      refine ⟨kk, uk, _, hU, ?_, rfl⟩
      rw [htk]
      rw [nots_is _ hk']
      exact hUk
  rintro σ H' ⟨kk, uk, z3, hU, hUk, rfl⟩
  rw [List.length_map, hfal, List.take_length] at hUk
  have KN := K4.tell kk hU
  obtain ⟨dx', fs', g1, g2⟩ := KN.ob
  have hplu : pl ≠ un := fun z => by rw [z, K4.uns] at hl4; cases hl4
  have hkp : ∀ {b : Addr} {o : HO}, H b = some o → b ≠ p → H' b = some o := fun {b o} hb n => kk _ _ (k4 b o hb n) (fun z => by have z' : b = un := z; rw [z', un0] at hb; cases hb)
  have hrowsP : Paired (fun b r => RowAt K H' b r) pas Ps := Paired.mapP hPp fun b r hb => by
    rcases hb with (z | ⟨o, z⟩) | z
    · exact .inl (.inl (hkp z fun y => by rw [y, h1] at z; cases z))
    · exact .inl (.inr ⟨o, hkp z fun y => by rw [y, h1] at z; cases z⟩)
    · exact .inr z
  have hfun : fu ≠ un := fun z => by rw [z] at hfu; rw [hu3] at hfu; cases hfu
  have hhdf : hd ≠ fu := fun z => by rw [← z] at hfu; rw [hd3] at hfu; cases hfu
  have hfu' : H' fu = some (.dK (fk [])) := kk _ _ hfu4 hfun
  have KS : KnS K C H' p pl hd un fu Fs Ps (nots Fs) := ⟨⟨hm, uk, KN, hok, hUk⟩, ⟨pas, kk _ _ hl4 hplu, hrowsP⟩, hhdf⟩
  have G0 := going0 (P := Ps) hrow
  refine ⟨_, rfl, p, dx', fs', rfl, g1, g2.meth "find_fulls" (by decide +kernel), p, pl, hd, un, fu, Fs, Ps, nots Fs, rfl, KS, hfu', hrow, hPr, hP15, Nat.le_trans (nots_len Fs) hFl, G0, fun L Fl H6 k6 KS6 hfu6 A6 G6 hL6 => ?_⟩
  have hp5 : H' p = some (.ins C dx f4) := kk _ _ hp4 (fun z => hpu z)
  have hp6 : H6 p = some (.ins C dx f4) := k6 _ _ hp5 (fun z => z.elim hpu hpf)
  have fu0 : H fu = none := by
    cases qz : H fu with
    | none => rfl
    | some o => have := k3 fu o qz (fun z => hpf z.symm); rw [hfu] at this; cases this
  have hk6 : ∀ {b : Addr} {o : HO}, H b = some o → b ≠ p → H6 b = some o := fun {b o} hb n => k6 _ _ (hkp hb n) (fun z => z.elim (fun y => by rw [y, un0] at hb; cases hb) (fun y => by rw [y, fu0] at hb; cases hb))
  have hpl06 : H6 pl0 = some (.lst (pas.map V.ref)) := hk6 hP0 (fun z => by rw [z, h1] at hP0; cases hP0)
  have hml : (pas.map V.ref).length = Ps.length := by rw [List.length_map]; exact hpal
  refine ⟨_, rfl, pl0, _, rfl, .inl (SqL.of hpl06), _, rfl, (by rw [hml]; lia), (by rw [hml]; lia), ?_⟩
  rw [hml, Int.toNat_natCast]
  obtain ⟨⟨hm6, uk6, KN6, hok6, hU6⟩, hrows6, _⟩ := id KS6
  refine comp_keep (List.range Ps.length) (fun n => !emptyB Ps (headF Fs) n) (by rw [← nums_nat]; exact jseq_rng) trivial (by rw [List.length_range]; lia) (fun n hn H7 e7 Q' q' => ?_) (fun n H7 Q' q' => ⟨_, rfl, q'⟩) fun D H7 hD e7 hd7 => ?_
  · have hn' : n < Ps.length := List.mem_range.mp hn
    have hs : Ps[n]? = some Ps[n] := List.getElem?_eq_getElem hn'
    refine ⟨_, rfl, p, dx, f4, rfl, e7 _ _ hp6, KF.meth "is_empty" (by decide +kernel), _, rfl, p, pl, hd, un, fu, Fs, Ps, L, n, _, rfl, KS6.same e7, hs, hPr _ (List.getElem_mem (List.mem_range.mp hn)), fun b H8 e8 hb => ⟨b, rfl, ?_⟩⟩
    have := q' H8 e8
    rw [emptyB_eq hs hb] at this
    exact this
  have KN7 := KN6.same e7
  have hp7 : H7 p = some (.ins C dx f4) := e7 _ _ hp6
  refine ⟨_, rfl, p, C, dx, f4, rfl, hp7, T.cl, T.nE, (by lia), ?_⟩
  have hpD : D ≠ p := fun z => by rw [z, hp6] at hD; cases hD
  have kpp : Kp (· = p) H7 (upd H7 p (.ins C dx (putF "not_empty" (.ref D) f4))) := fun b o hb n => by rw [upd_ne n]; exact hb
  refine q pl hd un fu L Fl D dx _ _ (fun b o hb n => by rw [upd_ne n]; exact e7 _ _ (hk6 hb n)) ⟨⟨hm6, uk6, ⟨⟨dx, _, upd_same, KF.more (.ref D) (by lia)⟩, by rw [upd_ne (Ne.symm hphd)]; exact KN7.hds, by rw [upd_ne (Ne.symm hpu)]; exact KN7.uns⟩, hok6, hU6⟩, rowsAt_kp (hrows6.same e7) kpp (fun b hb => ⟨.ins C dx f4, by rw [show b = p from hb]; exact hp7, .inr (.inr (.inr ⟨_, _, _, rfl⟩))⟩), hhdf⟩ (by rw [upd_ne (Ne.symm hpf)]; exact e7 _ _ hfu6) A6 G6 upd_same (by rw [lookup_putF, if_pos rfl]) (KF.more (.ref D) (by lia)) (by rw [upd_ne hpD]; exact hd7) hL6
end
end K24
namespace K24
open PySem PySem.Spec L2 Mir Kn
noncomputable abbrev sKnown : Stmt := top 5
noncomputable abbrev sClashes : Stmt := top 6
inductive spKnownPS (K : PySem.W.Frag) (vs : List V) (H : Hp) (Q : VK) : Prop
  | mk (fl pl0 : Addr) (F P : List (List Str)) (a b : Str) (h0 : vs = [.ref fl, .ref pl0, .str a, .str b]) (h1 : RowsAt K H fl F) (h2 : F.length ≤ 100) (h3 : (∀ r ∈ F, FactRow r)) (h4 : RowsAt K H pl0 P) (h5 : P.length ≤ 15) (h6 : (∀ r ∈ P, PartRow r)) (h7 : ∀ (y : Str) H', Same H H' → (headF F a = headF F b → y = "is") → (¬ headF F a = headF F b → Un F P a b → y = "not") → (¬ headF F a = headF F b → ¬ Un F P a b → y = "") → Q (.str y) H') : spKnownPS K vs H Q
noncomputable def spKnownP (K : PySem.W.Frag) : Sp := fun vs H Q _ => spKnownPS K vs H Q
inductive spClashesPS (K : PySem.W.Frag) (vs : List V) (H : Hp) (Q : VK) : Prop
  | mk (fl pl0 : Addr) (F P : List (List Str)) (h0 : vs = [.ref fl, .ref pl0]) (h1 : RowsAt K H fl F) (h2 : F.length ≤ 100) (h3 : (∀ r ∈ F, FactRow r)) (h4 : RowsAt K H pl0 P) (h5 : P.length ≤ 15) (h6 : (∀ r ∈ P, PartRow r)) (h7 : ∀ (c : Bool) H', Same H H' → (c = true ↔ ∃ a, Un F P a a) → Q (.bl c) H') : spClashesPS K vs H Q
noncomputable def spClashesP (K : PySem.W.Frag) : Sp := fun vs H Q _ => spClashesPS K vs H Q
theorem val_of_mem {uk : List (List Key × V)} {q : List Key × V} (h : q ∈ uk) : (valV uk q.1).isSome = true := by
  rw [← valV_any]
  exact List.any_eq_true.mpr ⟨q, h, by simp⟩
theorem clashT {uk : List (List Key × V)} {h : Str → Str} {L : List (Str × Str)} (U : UkT uk h L) : uk.any sameK = true ↔ ∃ a, Told h L a a := by
  rw [List.any_eq_true]
  constructor
  · rintro ⟨q, hq, hs⟩
    obtain ⟨a, b, hab⟩ := U.pr q hq
    have e : a = b := by
      unfold sameK at hs
      rw [hab] at hs
      have := of_decide_eq_true hs
      exact Sum.inr.inj this
    subst e
    have := val_of_mem hq
    rw [hab] at this
    obtain ⟨l, h1, h2⟩ := (U.iff a a).mp this
    rcases h2 with ⟨h2, h3⟩ | ⟨h2, h3⟩
    · exact ⟨l.1, l, h1, .inl ⟨rfl, h2.symm.trans h3⟩⟩
    · exact ⟨l.2, l, h1, .inr ⟨rfl, h2.symm.trans h3⟩⟩
  · rintro ⟨a, ht⟩
    have := (U.told a a).mpr ht
    obtain ⟨z, hz⟩ := Option.isSome_iff_exists.mp this
    obtain ⟨q, hq, e⟩ := List.mem_map.mp (valV_in hz)
    refine ⟨q, hq, ?_⟩
    unfold sameK
    rw [e]
    exact decide_eq_true rfl
section
variable {P : Program} {w : World} {K : PySem.W.Frag} {mg : Str → Option Value} {base : Heap} {f C fI gA gU gC : Addr} {fd dI dA dU dC : FuncData}
theorem scKnown : FnScope ["facts", "parts", "a", "b", "knowledge"] ["facts", "parts", "a", "b"] (defScope sKnown) := ⟨rfl, rfl, rfl, by decide +kernel, rfl, by decide +kernel, by decide +kernel⟩
theorem ok_knownP (Cn : Con K mg w) (T : Txt K mg C fI) (F : Fun K "known" "known" sKnown f fd) (GI : FnOk P w K mg base CX0 5 fI dI ["self", "facts", "parts"] (spInitP K C)) (bI : Binds K dI ["self", "facts", "parts"] [])
    (GA : FnOk P w K mg base CX0 2 gA dA ["self", "one", "other"] (spAlike C)) (cA : MCal K C "alike" gA dA ["self", "one", "other"]) (GU : FnOk P w K mg base CX0 2 gU dU ["self", "one", "other"] (spUnlike C)) (cU : MCal K C "unlike" gU dU ["self", "one", "other"]) : FnOk P w K mg base CX0 7 f fd ["facts", "parts", "a", "b"] (spKnownP K) := by
  refine F.okQ scKnown (fun vs H Q E h => ?_) (fun cdv A outer s0 H vs Q E hr h => ?_)
  · obtain ⟨fl, pl0, F, P, a, b, rfl, _⟩ := h; rfl
  obtain ⟨fl, pl0, Fs, Ps, a, b, rfl, hF, hFl, hrow, hPP, hP15, hPr, q⟩ := h
  have nd := scKnown.nd
  have hr2 := hr.mono (j := 2) (by lia)
  refine ⟨_, qb_cons (qs_set (i := 4) nd rfl (Or.inl rfl) (qe_make T.mkC GI hr rfl T.mgC bI .nil pass0 (qa_nm (qv 0) (qa_nm (qv 1) qa_nil))))
    (qb_cons (qs_if (qt_val (qe_meth (qv 4) T.cl cA.meth GA hr2 cA.bind .nil pass0 (qa_nm (qv 2) (qa_nm (qv 3) qa_nil)))) (qb_one (qs_ret qe_str)) qb_nil)
    (qb_one (qs_ret (qe_ifExp (qt_val (qe_meth (qv 4) T.cl cU.meth GU hr2 cU.bind .nil pass0 (qa_nm (qv 2) (qa_nm (qv 3) qa_nil)))) qe_str qe_str)))), ?_⟩
  refine ⟨_, rfl, _, rfl, fun x dx hx hdx hne => ?_⟩
  have s1 : Same H (upd (upd H dx (.own x)) x (.ins C dx [])) := fun b o hb => by rw [upd_ne (ne_of_none hb hx), upd_ne (ne_of_none hb hdx)]; exact hb
  refine ⟨x, dx, fl, pl0, Fs, Ps, rfl, upd_same, hF.same s1, hFl, hrow, hPP.same s1, hP15, hPr, fun pl hd un fu L Fl D dxx fss H2 k2 KS hfu A G hpx hne KF hD hL => ⟨rfl, ?_⟩⟩
  obtain ⟨⟨hm, uk, KN, hok, hUk⟩, _, _⟩ := KS
  have uiff : ∀ {a b : Str}, Told (headF Fs) L a b ↔ Un Fs Ps a b := fun {a b} => un_iff hrow A G.sound
  have e2 : Same H H2 := fun b o hb => k2 b o (s1 _ _ hb) (fun z => by have z' : b = x := z; rw [z', hx] at hb; cases hb)
  obtain ⟨dx', fs', g1, g2⟩ := KN.ob
  refine ⟨_, rfl, x, dx', fs', rfl, g1, g2.meth "alike" (by decide +kernel), _, rfl, _, rfl, x, pl, hd, un, fu, hm, uk, a, b, rfl, KN, ?_⟩
  rw [hok.hd, hok.hd]
  refine ⟨_, rfl, iteB (fun c => ?_) (fun c => ?_)⟩
  · have c' := of_decide_eq_true c
    exact q "is" H2 e2 (fun _ => rfl) (fun z => absurd c' z) (fun z => absurd c' z)
  · have c' := of_decide_eq_false c
    refine ⟨_, rfl, x, dx', fs', rfl, g1, g2.meth "unlike" (by decide +kernel), _, rfl, _, rfl, x, pl, hd, un, fu, hm, uk, a, b, rfl, KN, fun H3 e3 => ?_⟩
    rw [hok.hd, hok.hd]
    have hiff := (hUk.told a b).trans uiff
    refine ⟨_, rfl, iteB (fun c2 => ?_) (fun c2 => ?_)⟩
    · exact q "not" H3 (e2.trans e3) (fun z => absurd z c') (fun _ _ => rfl) (fun _ z => absurd (hiff.mp c2) z)
    · exact q "" H3 (e2.trans e3) (fun z => absurd z c') (fun _ z => by have := hiff.mpr z; rw [c2] at this; cases this) (fun _ _ => rfl)
theorem scClashes : FnScope ["facts", "parts"] ["facts", "parts"] (defScope sClashes) := ⟨rfl, rfl, rfl, by decide +kernel, rfl, by decide +kernel, by decide +kernel⟩
theorem ok_clashesP (Cn : Con K mg w) (T : Txt K mg C fI) (F : Fun K "clashes" "clashes" sClashes f fd) (GI : FnOk P w K mg base CX0 5 fI dI ["self", "facts", "parts"] (spInitP K C)) (bI : Binds K dI ["self", "facts", "parts"] [])
    (GC : FnOk P w K mg base CX0 1 gC dC ["self"] (spClash C)) (cC : MCal K C "clashing" gC dC ["self"]) : FnOk P w K mg base CX0 7 f fd ["facts", "parts"] (spClashesP K) := by
  refine F.okQ scClashes (fun vs H Q E h => ?_) (fun cdv A outer s0 H vs Q E hr h => ?_)
  · obtain ⟨fl, pl0, F, P, rfl, _⟩ := h; rfl
  obtain ⟨fl, pl0, Fs, Ps, rfl, hF, hFl, hrow, hPP, hP15, hPr, q⟩ := h
  have hr1 := hr.mono (j := 1) (by lia)
  refine ⟨_, (qb_one (qs_ret (qe_meth0 (qe_make T.mkC GI hr rfl T.mgC bI .nil pass0 (qa_nm (qv 0) (qa_nm (qv 1) qa_nil))) T.cl cC.meth GC hr1 cC.bind .nil pass0))), ?_⟩
  refine ⟨_, rfl, _, rfl, fun x dx hx hdx hne => ?_⟩
  have s1 : Same H (upd (upd H dx (.own x)) x (.ins C dx [])) := fun b o hb => by rw [upd_ne (ne_of_none hb hx), upd_ne (ne_of_none hb hdx)]; exact hb
  refine ⟨x, dx, fl, pl0, Fs, Ps, rfl, upd_same, hF.same s1, hFl, hrow, hPP.same s1, hP15, hPr, fun pl hd un fu L Fl D dxx fss H2 k2 KS hfu A G hpx hne KF hD hL => ⟨rfl, ?_⟩⟩
  obtain ⟨⟨hm, uk, KN, hok, hUk⟩, _, _⟩ := KS
  have uiff : ∀ {a b : Str}, Told (headF Fs) L a b ↔ Un Fs Ps a b := fun {a b} => un_iff hrow A G.sound
  have e2 : Same H H2 := fun b o hb => k2 b o (s1 _ _ hb) (fun z => by have z' : b = x := z; rw [z', hx] at hb; cases hb)
  obtain ⟨dx', fs', g1, g2⟩ := KN.ob
  have hlu := hUk.len
  refine ⟨x, dx', fs', rfl, g1, g2.meth "clashing" (by decide +kernel), x, pl, hd, un, fu, hm, uk, rfl, KN, hUk.pr, by lia, fun H3 e3 => ?_⟩
  exact q _ H3 (e2.trans e3) ((clashT hUk).trans ⟨fun ⟨a, z⟩ => ⟨a, uiff.mp z⟩, fun ⟨a, z⟩ => ⟨a, uiff.mpr z⟩⟩)
end
end K24
namespace K24
open PySem PySem.Spec L2 Mir Kn
noncomputable abbrev sMixed : Stmt := top 18
noncomputable def Ok (x : Str) : Prop := (PyData.str x).canLay0 = true
theorem Ok.app {x y : Str} (hx : Ok x) (hy : Ok y) : Ok (x ++ y) := by
  unfold Ok at *
  simp only [PyData.canLay0] at *
  unfold PyData.strOk at *
  rw [Str.cps_append, Array.all_append, hx, hy]; rfl
inductive spMixedS (vs : List V) (H : Hp) (Q : VK) : Prop
  | mk (c : Int) (k : Nat) (h0 : vs = [.int c, .int (k : Int)]) (h1 : k ≤ 500) (h2 : ∀ n : Int, 0 ≤ n → Q (.int n) H) : spMixedS vs H Q
noncomputable def spMixed : Sp := fun vs H Q _ => spMixedS vs H Q
inductive tLeftS (D : Ends) (σ : St) (H : Hp) : Prop
  | mk (c : Int) (k : Nat) (l : Int) (h0 : σ = [some (.int c), some (.int (k : Int)), some (.int l), none, none]) (h1 : k ≤ 500) (h2 : ∀ l z3, D.nx [some (.int c), some (.int (k : Int)), some (.int l), z3, none] H) : tLeftS D σ H
noncomputable def tLeft : TS := fun D σ H => tLeftS D σ H
inductive tOwnS (D : Ends) (σ : St) (H : Hp) : Prop
  | mk (c l : Int) (z1 z3 : Option V) (h0 : σ = [some (.int c), z1, some (.int l), z3, none]) (h1 : (∀ n : Int, 0 ≤ n → D.rt (.int n) H)) (h2 : D.nx σ H) : tOwnS D σ H
noncomputable def tOwn : TS := fun D σ H => tOwnS D σ H
section
variable {P : Program} {w : World} {K : PySem.W.Frag} {mg : Str → Option Value} {base : Heap} {f : Addr} {fd : FuncData}
theorem scMixed : FnScope ["_law_cell", "_law_k", "_law_left", "_law_j", "_law_number"] ["_law_cell", "_law_k"] (defScope sMixed) := ⟨rfl, rfl, rfl, by decide +kernel, rfl, by decide +kernel, by decide +kernel⟩
theorem ok_mixed (C : Con K mg w) (F : Fun K "_law_mixed" "_law_mixed" sMixed f fd) : FnOk P w K mg base CX0 1 f fd ["_law_cell", "_law_k"] spMixed := by
  refine F.okQ scMixed (fun vs H Q E h => ?_) (fun cdv A outer s0 H vs Q E hr h => ?_)
  · obtain ⟨c, k, rfl, _⟩ := h; rfl
  obtain ⟨c, k, rfl, hk, q⟩ := h
  have nd := scMixed.nd
  refine ⟨_, qb_cons (qs_set (i := 2) nd rfl (Or.inl rfl) (qe_op op_fdiv (qv 0) qe_int))
    (qb_cons (qs_weak (t' := tLeft) (qs_for PassesOwn.never rfl (qi_range1 rfl C.range (qa_bop (qe_op op_add (qe_op op_fdiv (qv 1) qe_int) (qe_op op_mod (qv 1) qe_int)) qa_nil)) (qg_name (i := 3) nd rfl (Or.inl rfl)) (qb_cons (qs_if (QW.qt (qw_or (qt_cmpR op_eq (qv 2) qe_int (nomark _)) (qw_or1 (qt_cmpR op_eq (qv 2) (qe_un un_neg qe_int) (nomark _))))) (qb_one qs_break) qb_nil)
    (qb_one (qs_set (i := 2) nd rfl (Or.inl rfl) (qe_op op_fdivB (qv 2) qe_int))))) (fun D σ H hh => by
      obtain ⟨c, k, l, rfl, hk, go⟩ := hh
      refine ⟨_, rfl, _, _, rfl, rfl, (show CDiv _ 70 from ⟨by decide, by decide⟩), _, rfl, _, _, rfl, rfl, (show (0 : Int) < 70 by decide), _, _, rfl, rfl, _, rfl, ?_, ?_, ?_⟩
      · lia
      · lia
      refine for_range (lo := 0) (n := ((k : Int) / 70 + (k : Int) % 70).toNat) (fun _ σ H' => ∃ (l : Int) (z3 : Option V), H' = H ∧ σ = [some (.int c), some (.int (k : Int)), some (.int l), z3, none]) ⟨_, none, rfl, rfl⟩ ?_ ?_
      · rintro i σ H' hi ⟨l, z3, rfl, rfl⟩
        refine ⟨_, rfl, rfl, _, rfl, iteB (fun _ => go _ _) (fun _ => ?_)⟩
        refine ⟨_, rfl, _, rfl, rfl, _, rfl, iteB (fun _ => go _ _) (fun _ => ?_)⟩
        exact ⟨_, rfl, _, _, rfl, rfl, (show CDivB _ 2147483587 from ⟨by decide, by decide⟩), _, _, rfl, rfl⟩
      · rintro σ H' ⟨l, z3, rfl, rfl⟩
        exact go _ _))
    (qb_cons (qs_weak (t' := tOwn) (qs_if (QW.qt (qw_and (qt_cmpR op_eq (qe_op op_mod (qv 0) qe_int) qe_int (nomark _)) (qw_and (qt_cmpR op_ne (qv 2) qe_int (nomark _)) (qw_and1 (qt_cmpR op_ne (qv 2) (qe_un un_neg qe_int) (nomark _)))))) (qb_one (qs_ret (qe_op op_mod (qv 2) qe_int))) qb_nil) (fun D σ H hh => by
      obtain ⟨c, l, z1, z3, rfl, go, nx⟩ := hh
      refine ⟨_, rfl, _, _, rfl, rfl, (show (0 : Int) < 2 by decide), rfl, _, rfl, iteB (fun _ => ?_) (fun _ => nx)⟩
      refine ⟨_, rfl, rfl, _, rfl, iteB (fun _ => ?_) (fun _ => nx)⟩
      refine ⟨_, rfl, _, rfl, rfl, _, rfl, iteB (fun _ => ?_) (fun _ => nx)⟩
      exact ⟨_, rfl, _, _, rfl, rfl, (show (0 : Int) < 2147483587 by decide), go _ (Int.emod_nonneg _ (by decide))⟩))
    (qb_cons (qs_set (i := 4) nd rfl (Or.inl rfl) (qe_op op_mod (qe_op op_add (qe_op op_add (qe_op op_mul (qe_op op_mod (qv 0) qe_int) qe_int) (qe_op op_mul (qe_op op_mul (qv 1) (qv 1)) qe_int)) qe_int) qe_int))
    (qb_cons (qs_set (i := 4) nd rfl (Or.inl rfl) (qe_op op_mod (qe_op op_mul (qv 4) (qv 4)) qe_int))
    (qb_one (qs_ret (qe_op op_mod (qe_op op_mul (qv 4) (qe_op op_add (qv 4) qe_int)) qe_int))))))), ?_⟩
  refine ⟨_, rfl, _, _, rfl, rfl, (show CDiv _ 2 from ⟨by decide, by decide⟩), ?_⟩
  refine ⟨c, k, _, rfl, hk, fun l z3 => ?_⟩
  refine ⟨c, l, _, _, rfl, q, ?_⟩
  have b1 := Int.emod_nonneg c (show (2147483647 : Int) ≠ 0 by decide)
  have b2 := Int.emod_lt_of_pos c (show (0 : Int) < 2147483647 by decide)
  refine ⟨_, rfl, _, _, rfl, rfl, (show (0 : Int) < 2147483647 by decide), _, _, rfl, rfl, .inl ⟨by lia, by lia⟩, _, rfl, _, rfl, _, _, rfl, rfl, .inl ⟨by lia, by lia⟩, _, _, rfl, rfl, .inr ⟨by decide, by decide⟩, _, _, rfl, rfl, _, _, rfl, rfl, _, _, rfl, rfl, (show (0 : Int) < 2147483629 by decide), ?_⟩
  generalize (c % 2147483647 * 48271 + (k : Int) * (k : Int) * 69621 + 7919) = y
  have b3 := Int.emod_nonneg y (show (2147483629 : Int) ≠ 0 by decide)
  have b4 := Int.emod_lt_of_pos y (show (0 : Int) < 2147483629 by decide)
  refine ⟨_, rfl, _, rfl, _, _, rfl, rfl, .inl ⟨by lia, by lia⟩, _, _, rfl, rfl, (show (0 : Int) < 2147483587 by decide), ?_⟩
  generalize (y % 2147483629) * (y % 2147483629) = y2
  have b5 := Int.emod_nonneg y2 (show (2147483587 : Int) ≠ 0 by decide)
  have b6 := Int.emod_lt_of_pos y2 (show (0 : Int) < 2147483587 by decide)
  refine ⟨_, rfl, _, rfl, _, _, rfl, rfl, _, _, rfl, rfl, .inl ⟨by lia, by lia⟩, _, _, rfl, rfl, (show (0 : Int) < 2147483563 by decide), ?_⟩
  exact q _ (Int.emod_nonneg _ (by decide))
end
end K24
namespace L2
open PySem PySem.Spec
theorem for_strI {z : Str} {g : TG} {tb : TS} {D : Ends} {σ : St} {H : Hp} (Pv : Nat → St → Hp → Prop) (h0 : Pv 0 σ H)
    (hs : ∀ i c σ H, i < z.cps.size → z.cps.toList[i]? = some c → Pv i σ H → g (.str ⟨#[c]⟩) σ H fun σ2 H2 => tb { D with nx := Pv (i + 1), ct := Pv (i + 1), bk := D.nx } σ2 H2) (hd : ∀ σ H, Pv z.cps.size σ H → D.nx σ H) :
    ∃ W : Nat → Nat → St → Hp → Prop, (∃ m, W 0 m σ H) ∧ ∀ i m σ H, W i m σ H →
      ((Its z).stop i H ∧ D.nx σ H) ∨ ((Its z).go i H ∧ ∃ N : St → Hp → Prop, (∀ σ' H', N σ' H' → ∃ m', m' < m ∧ W (i + 1) m' σ' H') ∧ ∀ x H', (Its z).yld i H x H' → g x σ H' fun σ2 H2 => tb { D with nx := N, ct := N, bk := D.nx } σ2 H2) := by
  refine ⟨fun i m σ H => m = z.cps.size - i ∧ i ≤ z.cps.size ∧ Pv i σ H, ⟨z.cps.size, by simp, Nat.zero_le _, h0⟩, ?_⟩
  rintro i m σ H ⟨rfl, hi, p⟩
  by_cases hlt : i < z.cps.size
  · refine .inr ⟨hlt, Pv (i + 1), fun σ' H' p' => ⟨z.cps.size - (i + 1), by lia, rfl, hlt, p'⟩, fun x H' y => ?_⟩
    obtain ⟨e, c, hc, y⟩ := y
    subst e y
    exact hs i c σ _ hlt (by rw [Array.getElem?_toList]; exact hc) p
  · have e : i = z.cps.size := by lia
    subst e
    exact .inl ⟨Nat.le_refl _, hd σ H p⟩
end L2
namespace K24
open PySem PySem.Spec L2 Mir Kn
noncomputable abbrev sFree : Stmt := top 19
noncomputable abbrev sNames : Stmt := top 20
structure Nm (k : Nat) (x : Str) : Prop where
  len : x.length ≤ k
  ok : Ok x
theorem Nm.mono {k k' : Nat} {x : Str} (h : Nm k x) (hk : k ≤ k') : Nm k' x := ⟨Nat.le_trans h.len hk, h.ok⟩
theorem ok_iff {x : Str} : Ok x ↔ ∀ c ∈ x.cps.toList, c < 0x110000 := by
  unfold Ok
  simp only [PyData.canLay0]
  unfold PyData.strOk
  rw [← Array.all_toList, List.all_eq_true]
  simp only [decide_eq_true_eq]
theorem nm_one {z : Str} (h : Ok z) {c : Nat} (hc : c ∈ z.cps.toList) : Nm 1 ⟨#[c]⟩ := ⟨Nat.le_refl _, ok_iff.mpr fun d hd => by
  simp only [List.mem_cons, List.not_mem_nil, or_false] at hd
  subst hd
  exact ok_iff.mp h _ hc⟩
theorem Nm.app {j k : Nat} {x y : Str} (hx : Nm j x) (hy : Nm k y) : Nm (j + k) (x ++ y) := ⟨by
  have h1 := hx.len; have h2 := hy.len
  have : (x ++ y).length = x.length + y.length := Str.length_append x y
  lia, hx.ok.app hy.ok⟩
theorem Nm.cut {k : Nat} {x : Str} (hx : Nm k x) (lo hi : Option Int) : Nm k (cutS x lo hi) := by
  constructor
  · have := hx.len
    have e : (cutS x lo hi).length ≤ x.length := by
      show ((x.cps.toList.drop (HT.sIx x.length 0 lo)).take _).toArray.size ≤ x.cps.size
      rw [List.size_toArray, List.length_take, List.length_drop, Array.length_toList]
      lia
    lia
  · refine ok_iff.mpr fun c hc => ok_iff.mp hx.ok c ?_
    have hc' : c ∈ (x.cps.toList.drop (HT.sIx x.length 0 lo)).take (HT.sIx x.length x.length hi - HT.sIx x.length 0 lo) := hc
    exact List.mem_of_mem_drop (List.mem_of_mem_take hc')
theorem at_in {α : Type} {xs : List α} {i : Int} (h0 : 0 ≤ i) (h1 : i < xs.length) : ∃ v, atI xs i = some v ∧ v ∈ xs := by
  obtain ⟨j, rfl⟩ : ∃ j : Nat, i = (j : Int) := ⟨i.toNat, by lia⟩
  have hj : j < xs.length := by lia
  exact ⟨xs[j], atI_nat (by rw [List.getElem?_eq_getElem hj]), List.getElem_mem hj⟩
theorem le_line {n : Nat} (h : n ≤ 1000) : n ≤ sizeLine := Nat.le_trans h (by decide)
theorem lt_line {n : Nat} (h : n ≤ 1000) : n < sizeLine := Nat.lt_of_le_of_lt h (by decide)
inductive spNamesS (K : PySem.W.Frag) (vs : List V) (H : Hp) (Q : VK) : Prop
  | mk (c : Int) (n : Nat) (h0 : vs = [.int c, .int (n : Int)]) (h1 : n ≤ 10) (h2 : ∀ l xs H', Same H H' → H' l = some (.lst ((xs : List Str).map V.str)) → xs.length = n → (∀ x ∈ xs, Nm 40 x ∧ ¬ x ∈ Mir.noNames) → Q (.ref l) H') : spNamesS K vs H Q
noncomputable def spNames (K : PySem.W.Frag) : Sp := fun vs H Q _ => spNamesS K vs H Q
noncomputable def signsT : Str := "abcdefghijklmnopqrstuvwxyz0123456789"
noncomputable def wordsT : List Str := ["nil", "any", "is", "not", "cell", "stretch", "tree", "nothing", "then", "with"]
theorem words_no : wordsT = Mir.noNames := by decide +kernel
theorem cut_last {x : Str} {pre : List Nat} {c : Nat} (h : x.cps.toList = pre ++ [c]) (d : Nat) : cutS x none (some (-1)) ++ (⟨#[d]⟩ : Str) = ⟨(pre ++ [d]).toArray⟩ := by
  have hl : x.length = pre.length + 1 := by
    have : x.cps.toList.length = pre.length + 1 := by rw [h, List.length_append]; rfl
    rw [Array.length_toList] at this
    exact this
  have h1 : (cutS x none (some (-1))).cps = pre.toArray := by
    show (List.take (HT.sIx x.length x.length (some (-1)) - HT.sIx x.length 0 none) (List.drop (HT.sIx x.length 0 none) x.cps.toList)).toArray = _
    have e1 : HT.sIx x.length x.length (some (-1)) = pre.length := by
      unfold HT.sIx
      simp only [hl]
      rw [if_pos (by decide)]
      lia
    have e2 : HT.sIx x.length 0 none = 0 := rfl
    rw [e1, e2, List.drop_zero, Nat.sub_zero, h, List.take_left']
    rfl
  have h2 : (cutS x none (some (-1)) ++ (⟨#[d]⟩ : Str)).cps = (cutS x none (some (-1))).cps ++ #[d] := Str.cps_append _ _
  have h3 : ∀ a b : Str, a.cps = b.cps → a = b := fun a b e => by cases a; cases b; cases e; rfl
  refine h3 _ _ ?_
  rw [h2, h1]
  show pre.toArray ++ #[d] = (pre ++ [d]).toArray
  simp
theorem nd_len0 {α : Type} [DecidableEq α] : ∀ {l m : List α}, l.Nodup → (∀ x ∈ l, x ∈ m) → l.length ≤ m.length
  | [], _, _, _ => Nat.zero_le _
  | x :: l, m, hn, hm => by
    have hx := hm x (List.mem_cons_self ..)
    obtain ⟨h1, h2⟩ := List.nodup_cons.mp hn
    have h3 := nd_len0 (l := l) (m := m.erase x) h2 fun y hy => (List.mem_erase_of_ne (fun z => h1 (by rw [← z]; exact hy))).mpr (hm y (List.mem_cons_of_mem _ hy))
    rw [List.length_erase_of_mem hx] at h3
    have := List.length_pos_of_mem hx
    rw [List.length_cons]
    lia
theorem free26 {pre : List Nat} {ns : List Str} {z : Str} (hz : z.cps.toList.Nodup) (hl : z.cps.size = 26) (hn : ns.length < 26) : ¬ ∀ k c, k < 26 → z.cps.toList[k]? = some c → (⟨(pre ++ [c]).toArray⟩ : Str) ∈ ns := by
  intro h
  have h1 : (z.cps.toList.map fun c => (⟨(pre ++ [c]).toArray⟩ : Str)).Nodup := List.pairwise_map.mpr (List.Pairwise.imp (fun {a b} hab e => hab (by
    have e2 := congrArg (fun s : Str => s.cps.toList) e
    simpa using e2)) hz)
  have h2 := nd_len0 (m := ns) h1 fun x hx => by
    obtain ⟨c, hc, rfl⟩ := List.mem_map.mp hx
    obtain ⟨k, hk, e⟩ := List.getElem_of_mem hc
    rw [Array.length_toList, hl] at hk
    exact h k c hk (List.getElem?_eq_some_iff.mpr ⟨by rw [Array.length_toList]; lia, e⟩)
  rw [List.length_map, Array.length_toList, hl] at h2
  lia
theorem ok_signs : Ok signsT := show (PyData.str signsT).canLay0 = true by decide +kernel
theorem nm_words : ∀ x ∈ wordsT, Nm 40 x := fun x hx => by
  have h1 : wordsT.all (fun x => decide (x.length ≤ 40) && (PyData.str x).canLay0) = true := by decide +kernel
  have h2 := List.all_eq_true.mp h1 x hx
  rw [Bool.and_eq_true] at h2
  exact ⟨of_decide_eq_true h2.1, h2.2⟩
section
variable {P : Program} {w : World} {K : PySem.W.Frag} {mg : Str → Option Value} {base : Heap} {f : Addr} {fd : FuncData}
theorem scFree : FnScope ["_law_cell", "_law_many", "_law_signs", "_law_names_here", "_law_k", "_law_name", "_law_left", "_law_j", "_law_sign"] ["_law_cell", "_law_many"] (defScope sFree) := ⟨rfl, rfl, rfl, by decide +kernel, rfl, by decide +kernel, by decide +kernel⟩
theorem ok_free (C : Con K mg w) (F : Fun K "_law_free_names" "_law_free_names" sFree f fd) : FnOk P w K mg base CX0 1 f fd ["_law_cell", "_law_many"] (spNames K) := by
  refine F.okQ scFree (fun vs H Q E h => ?_) (fun cdv A outer s0 H vs Q E hr h => ?_)
  · obtain ⟨c, k, rfl, _⟩ := h; rfl
  obtain ⟨c, n, rfl, hn, q⟩ := h
  have nd := scFree.nd
  refine ⟨_, qb_cons (qs_set (i := 2) nd rfl (Or.inl rfl) qe_str)
    (qb_cons (qs_set (i := 3) nd rfl (Or.inl rfl) (qe_lst (qa_str (qa_str (qa_str (qa_str (qa_str (qa_str (qa_str (qa_str (qa_str (qa_str qa_nil))))))))))))
    (qb_cons (qs_for PassesOwn.never rfl (qi_range1 rfl C.range (qa_nm (qv 1) qa_nil)) (qg_name (i := 4) nd rfl (Or.inl rfl)) (qb_cons (qs_set (i := 5) nd rfl (Or.inl rfl) (qe_ix ix_str (qv 2) (qe_op op_mod (qe_op op_fdiv (qv 0) qe_int) qe_int) (fun _ _ => rfl)))
    (qb_cons (qs_set (i := 6) nd rfl (Or.inl rfl) (qe_op op_fdiv (qv 0) qe_int))
    (qb_cons (qs_for PassesOwn.never rfl (qi_range1 rfl C.range (qa_bop (qe_op op_mod (qv 0) qe_int) qa_nil)) (qg_name (i := 7) nd rfl (Or.inl rfl)) (qb_cons (qs_set (i := 5) nd rfl (Or.inl rfl) (qe_op op_add_str (qv 5) (qe_ix ix_str (qv 2) (qe_op op_mod (qv 6) qe_int) (fun _ _ => rfl))))
    (qb_one (qs_set (i := 6) nd rfl (Or.inl rfl) (qe_op op_fdiv (qv 6) qe_int)))))
    (qb_cons (qs_for PassesOwn.never rfl (qi_str (qe_slice sl_str (qv 2) qo_none (qo_some qe_int))) (qg_name (i := 8) nd rfl (Or.inl rfl)) (qb_one (qs_if (qt_cmpR (inSk (K := K) rfl) (qv 5) (qv 3) (by with_unfolding_all rfl)) (qb_one (qs_set (i := 5) nd rfl (Or.inl rfl) (qe_op op_add_str (qe_slice sl_str (qv 5) qo_none (qo_some (qe_un un_neg qe_int))) (qv 8)))) qb_nil)))
    (qb_cons (qs_expr (qe_bmK (K := K) rfl PySem.F.plainAttrs_list PySem.F.slot_list_append PySem.F.type_list_append mt_append (qv 3) (qa_nm (qv 5) qa_nil)))
    (qb_one (qs_set (i := 0) nd rfl (Or.inl rfl) (qe_op op_fdivB (qv 0) (qe_op op_mul qe_int (qe_op op_pow qe_int qe_int)))))))))))
    (qb_one (qs_ret (qe_slice (slLk (K := K) rfl) (qv 3) (qo_some qe_int) qo_none))))), ?_⟩
  refine ⟨(by decide), fun l1 hl1 => ?_⟩
  have e0 := same_new hl1 (.lst (wordsT.map V.str))
  have hL0 : (upd H l1 (.lst (wordsT.map V.str))) l1 = some (.lst (wordsT.map V.str)) := upd_same
  replace e0 : Same H (upd H l1 (.lst (wordsT.map V.str))) := e0
  show tSeq _ _ _ _ (upd H l1 (.lst (wordsT.map V.str)))
  generalize upd H l1 (.lst (wordsT.map V.str)) = H1 at e0 hL0 ⊢
  refine ⟨_, rfl, _, rfl, by lia, (by lia), ?_⟩
  refine for_range (lo := 0) (n := (n : Int).toNat) (fun i σ H2 => ∃ (c : Int) (ns : List Str) (z4 z5 z6 z7 z8 : Option V), σ = [some (.int c), some (.int (n : Int)), some (.str signsT), some (.ref l1), z4, z5, z6, z7, z8] ∧ Same H H2 ∧ H2 l1 = some (.lst (ns.map V.str)) ∧ ns.length = 10 + i ∧ (∀ x ∈ ns, Nm 40 x) ∧ ns.take 10 = wordsT ∧ ∀ x ∈ ns.drop 10, ¬ x ∈ wordsT) ⟨c, wordsT, none, none, none, none, none, rfl, e0, hL0, rfl, nm_words, rfl, fun x hx => by cases hx⟩ ?_ ?_
  · rintro i σ H2 hi ⟨c, ns, z4, z5, z6, z7, z8, rfl, e2, hL2, hl2, hn2, hw2, hx2⟩
    have hi10 : i < 10 := by lia
    have hsl : signsT.length ≤ sizeLine := by decide +kernel
    have hs36 : signsT.cps.toList.length = 36 := by decide +kernel
    have m26 := Int.emod_nonneg (c / 8) (show (26 : Int) ≠ 0 by decide)
    have m26' := Int.emod_lt_of_pos (c / 8) (show (0 : Int) < 26 by decide)
    obtain ⟨c1, hc1, hm1⟩ := at_in (xs := signsT.cps.toList) (i := c / 8 % 26) m26 (by rw [hs36]; lia)
    refine ⟨_, rfl, _, rfl, _, _, rfl, rfl, (show CDiv _ 8 from ⟨by decide, by decide⟩), _, _, rfl, rfl, (show (0 : Int) < 26 by decide), signsT, _, c1, rfl, rfl, hsl, hc1, ?_⟩
    refine ⟨_, rfl, _, _, rfl, rfl, (show CDiv _ 208 from ⟨by decide, by decide⟩), ?_⟩
    have m8 := Int.emod_nonneg c (show (8 : Int) ≠ 0 by decide)
    have m8' := Int.emod_lt_of_pos c (show (0 : Int) < 8 by decide)
    refine ⟨_, rfl, _, _, rfl, rfl, (show (0 : Int) < 8 by decide), _, rfl, by lia, by lia, ?_⟩
    refine for_range (lo := 0) (n := (c % 8).toNat) (fun j σ H3 => H3 = H2 ∧ ∃ (nm : Str) (l : Int) (z7 : Option V), σ = [some (.int c), some (.int (n : Int)), some (.str signsT), some (.ref l1), some (.int (0 + (i : Int))), some (.str nm), some (.int l), z7, z8] ∧ Nm (1 + j) nm ∧ ∃ pre c, nm.cps.toList = pre ++ [c]) ⟨rfl, _, _, _, rfl, nm_one ok_signs hm1, [], c1, rfl⟩ ?_ ?_
    · rintro j σ H3 hj ⟨rfl, nm, l, z7, rfl, hnm, hpr⟩
      obtain ⟨c2, hc2, hm2⟩ := at_mod (xs := signsT.cps.toList) (m := 36) (i := l) (by rw [hs36]; rfl) (by decide)
      have hlen := hnm.len
      refine ⟨_, rfl, _, rfl, _, rfl, _, _, rfl, rfl, (show (0 : Int) < 36 by decide), signsT, _, c2, rfl, rfl, hsl, hc2, nm, _, rfl, rfl, le_line (by show nm.length + 1 ≤ 1000; lia), ?_⟩
      exact ⟨_, rfl, _, _, rfl, rfl, (show CDiv _ 36 from ⟨by decide, by decide⟩), rfl, _, _, _, rfl, hnm.app (nm_one ok_signs hm2), nm.cps.toList, c2, by rw [Str.cps_append, Array.toList_append]⟩
    rintro σ H3 ⟨rfl, nm, l, z7, rfl, hnm, pre, c0, hpre⟩
    have hnm8 : Nm 8 nm := hnm.mono (by lia)
    clear hnm
    have hcm : ∀ d ∈ (cutS signsT none (some 26)).cps.toList, d ∈ signsT.cps.toList := fun d hd => by
      have hd' : d ∈ (signsT.cps.toList.drop (HT.sIx signsT.length 0 none)).take (HT.sIx signsT.length signsT.length (some 26) - HT.sIx signsT.length 0 none) := hd
      exact List.mem_of_mem_drop (List.mem_of_mem_take hd')
    have hcz : (cutS signsT none (some 26)).cps.size = 26 := by decide +kernel
    refine ⟨_, rfl, _, rfl, signsT, rfl, hsl, _, rfl, ?_⟩
    refine for_strI (fun j σ H4 => H4 = H3 ∧ ∃ (nm : Str) (z8 : Option V), σ = [some (.int c), some (.int (n : Int)), some (.str signsT), some (.ref l1), some (.int (0 + (i : Int))), some (.str nm), some (.int l), z7, z8] ∧ Nm (8 + j) nm ∧ (∃ c, nm.cps.toList = pre ++ [c]) ∧ (nm ∈ ns → ∀ k c, k < j → (cutS signsT none (some 26)).cps.toList[k]? = some c → (⟨(pre ++ [c]).toArray⟩ : Str) ∈ ns)) ⟨rfl, _, _, rfl, hnm8, ⟨c0, hpre⟩, fun _ k c hk => absurd hk (Nat.not_lt_zero k)⟩ ?_ ?_
    · rintro j d σ H4 hj hdj ⟨rfl, nm, z8, rfl, hnm, ⟨c9, hc9⟩, hall⟩
      have hd := List.mem_of_getElem? hdj
      have hlen := hnm.len
      rw [hcz] at hj
      refine ⟨_, rfl, _, rfl, l1, _, rfl, .inl (SqL.of hL2), rfl, (by rw [List.all_map]; exact List.all_eq_true.mpr fun _ _ => rfl), _, rfl, iteB (fun cin => ?_) (fun cin => ⟨rfl, _, _, rfl, hnm.mono (by lia), ⟨c9, hc9⟩, fun z => by
        have z' : inV (.str nm) (ns.map V.str) = true := (inV_strs nm ns).trans (decide_eq_true z)
        exact absurd (z'.symm.trans cin) (by decide)⟩)⟩
      have hin : nm ∈ ns := of_decide_eq_true ((inV_strs nm ns).symm.trans cin)
      have hc := hnm.cut none (some (-1))
      have hcl := hc.len
      exact ⟨_, rfl, _, rfl, _, rfl, nm, rfl, le_line (by lia), _, rfl, _, _, rfl, rfl, le_line (by show _ + 1 ≤ 1000; lia), rfl, _, _, rfl, hc.app (nm_one ok_signs (hcm d hd)), ⟨d, by rw [cut_last hc9 d]⟩, fun z k c hk hkc => by
        by_cases e : k = j
        · subst e
          rw [hdj] at hkc
          cases hkc
          rw [cut_last hc9 d] at z
          exact z
        · exact hall hin k c (by lia) hkc⟩
    rintro σ H4 ⟨rfl, nm, z8, rfl, hnm, _, hall⟩
    rw [hcz] at hnm hall
    have hfree : ¬ nm ∈ ns := fun z => free26 (pre := pre) (ns := ns) (z := cutS signsT none (some 26)) (by decide +kernel) hcz (by lia) (hall z)
    refine ⟨_, rfl, (.inl ⟨rfl, _, SqL.of hL2⟩), _, rfl, l1, ns.map V.str, _, rfl, rfl, hL2, lt_line (by rw [List.length_map]; lia), ?_⟩
    refine ⟨_, rfl, _, _, rfl, rfl, (show CPow 36 7 from ⟨by decide, by decide, by decide⟩), _, _, rfl, rfl, .inl ⟨by decide, by decide⟩, _, _, rfl, rfl, (show CDivB _ _ from ⟨by decide +kernel, by decide +kernel⟩), ?_⟩
    refine ⟨_, ns ++ [nm], _, _, _, _, _, rfl, ?_, ?_, ?_, ?_, ?_, ?_⟩
    · exact fun b o hb => by rw [upd_ne (ne_of_none hb hl1)]; exact e2 b o hb
    · rw [upd_same, List.map_append]; rfl
    · rw [List.length_append, List.length_singleton]; lia
    · intro x hx
      rcases List.mem_append.mp hx with hx | hx
      · exact hn2 x hx
      · rw [List.mem_singleton.mp hx]; exact hnm.mono (by lia)
    · rw [List.take_append_of_le_length (by lia)]; exact hw2
    · intro x hx
      rw [List.drop_append_of_le_length (by lia)] at hx
      rcases List.mem_append.mp hx with hx | hx
      · exact hx2 x hx
      · rw [List.mem_singleton.mp hx, ← hw2]; exact fun z => hfree (List.mem_of_mem_take z)
  rintro σ H2 ⟨c, ns, z4, z5, z6, z7, z8, rfl, e2, hL2, hl2, hn2, hw2, hx2⟩
  refine ⟨_, rfl, _, rfl, l1, _, rfl, SqL.of hL2, fun p hp => ?_⟩
  have hcv : cutV (ns.map V.str) (some 10) none = (ns.drop 10).map V.str := by
    unfold cutV
    rw [List.length_map, show HT.sIx ns.length 0 (some 10) = 10 by show min 10 ns.length = 10; lia, show HT.sIx ns.length ns.length none = ns.length from rfl, ← List.map_drop, List.take_of_length_le (by rw [List.length_map, List.length_drop]; lia)]
  rw [hcv]
  refine q p (ns.drop 10) _ (e2.trans (same_new hp _)) upd_same (by rw [List.length_drop]; lia) fun x hx => ⟨hn2 x (List.mem_of_mem_drop hx), words_no ▸ hx2 x hx⟩
theorem call_int_bl {X : Cx} : CallR X (.type "int") (fun xs H Q => ∃ b : Bool, xs = [.bl b] ∧ Q (.int (if b = true then 1 else 0)) H) := by
  intro pins s σ H xs us Q I r h
  obtain ⟨b, rfl, q⟩ := h
  obtain ⟨u, rfl, ru⟩ := r.one
  cases ru
  exact PySem.call_int_bool ⟨.int _, H, I.tok _, ⟨_, rfl⟩, q⟩
theorem scNames : FnScope ["_law_cell", "_law_many", "_law_letters", "_law_at", "_law_names_here", "_law_k", "_law_name", "_law_j", "_law_step"] ["_law_cell", "_law_many"] (defScope sNames) := ⟨rfl, rfl, rfl, by decide +kernel, rfl, by decide +kernel, by decide +kernel⟩
noncomputable def lettT : Str := "abcdefghijkmnopqruvwxz"
noncomputable def figT : Str := "0123456789"
theorem ok_lett : Ok lettT := show (PyData.str lettT).canLay0 = true by decide +kernel
noncomputable def evenS (x : Str) : Prop := ∀ c ∈ x.cps.toList, c ∈ lettT.cps.toList ++ figT.cps.toList
theorem even_no {x : Str} (h : evenS x) : ¬ x ∈ Mir.noNames := fun hx => by
  have h1 : Mir.noNames.all (fun y => y.cps.toList.any fun c => !decide (c ∈ lettT.cps.toList ++ figT.cps.toList)) = true := by decide +kernel
  obtain ⟨c, hc, hn⟩ := List.any_eq_true.mp (List.all_eq_true.mp h1 x hx)
  rw [decide_eq_true (h c hc)] at hn
  cases hn
theorem evenS.app {x : Str} (h : evenS x) {c : Nat} (hc : c ∈ lettT.cps.toList ++ figT.cps.toList) : evenS (x ++ ⟨#[c]⟩) := fun d hd => by
  rw [Str.cps_append, Array.toList_append] at hd
  rcases List.mem_append.mp hd with z | z
  · exact h d z
  · rw [List.mem_singleton.mp z]; exact hc
theorem ok_fig : Ok figT := show (PyData.str figT).canLay0 = true by decide +kernel
theorem ok_names {gF : Addr} {dF : FuncData} (C : Con K mg w) (F : Fun K "_law_names" "_law_names" sNames f fd) (GF : FnOk P w K mg base CX0 1 gF dF ["_law_cell", "_law_many"] (spNames K)) (cF : Cal K mg "_law_free_names" gF dF ["_law_cell", "_law_many"]) : FnOk P w K mg base CX0 2 f fd ["_law_cell", "_law_many"] (spNames K) := by
  refine F.okQ scNames (fun vs H Q E h => ?_) (fun cdv A outer s0 H vs Q E hr h => ?_)
  · obtain ⟨c, k, rfl, _⟩ := h; rfl
  obtain ⟨c, n, rfl, hn, q⟩ := h
  have nd := scNames.nd
  refine ⟨_, qb_cons (qs_if (qt_cmpR op_eq (qe_op op_mod (qv 0) qe_int) qe_int (nomark _)) (qb_one (qs_ret (qe_call GF hr rfl cF.name cF.keep cF.bind .nil pass0 (qa_bop (qe_op op_fdiv (qv 0) qe_int) (qa_nm (qv 1) qa_nil))))) qb_nil)
    (qb_cons (qs_set (i := 0) nd rfl (Or.inl rfl) (qe_op op_fdiv (qv 0) qe_int))
    (qb_cons (qs_set (i := 2) nd rfl (Or.inl rfl) qe_str)
    (qb_cons (qs_set (i := 3) nd rfl (Or.inl rfl) (qe_op op_mod (qe_op op_fdiv (qv 0) qe_int) (qe_op op_add qe_int (qe_op op_mod (qv 0) qe_int))))
    (qb_cons (qs_set (i := 4) nd rfl (Or.inl rfl) (qe_lst qa_nil))
    (qb_cons (qs_for PassesOwn.never rfl (qi_range1 rfl C.range (qa_nm (qv 1) qa_nil)) (qg_name (i := 5) nd rfl (Or.inl rfl)) (qb_cons (qs_set (i := 6) nd rfl (Or.inl rfl) qe_str)
    (qb_cons (qs_for PassesOwn.never rfl (qi_range1 rfl C.range (qa_bop (qe_op op_add qe_int (qe_op op_mod (qv 0) qe_int)) qa_nil)) (qg_name (i := 7) nd rfl (Or.inl rfl)) (qb_cons (qs_set (i := 8) nd rfl (Or.inl rfl) (qe_op op_add (qe_op op_mul (qv 7) (qe_op op_mod (qe_op op_fdiv (qv 0) qe_int) qe_int)) (qe_op op_mul (qv 5) (qe_callTy call_int_bl rfl C.int PyProof.Rows.boot_int (qa_cons (qe_cmpR op_eq (qv 7) (qv 3) (nomark _)) qa_nil)))))
    (qb_one (qs_if (QW.qt (qw_and (qt_cmpR op_gt (qv 7) qe_int (nomark _)) (qw_and1 (qt_cmpR op_eq (qe_op op_mod (qe_op op_add (qe_op op_fdiv (qv 0) qe_int) (qv 7)) qe_int) qe_int (nomark _))))) (qb_one (qs_set (i := 6) nd rfl (Or.inl rfl) (qe_op op_add_str (qv 6) (qe_ix ix_str qe_str (qe_op op_mod (qe_op op_add (qe_op op_fdiv (qv 0) qe_int) (qv 8)) qe_int) (fun _ _ => rfl))))) (qb_one (qs_set (i := 6) nd rfl (Or.inl rfl) (qe_op op_add_str (qv 6) (qe_ix ix_str (qv 2) (qe_op op_mod (qe_op op_add (qe_op op_fdiv (qv 0) qe_int) (qv 8)) qe_int) (fun _ _ => rfl)))))))))
    (qb_one (qs_expr (qe_bmK (K := K) rfl PySem.F.plainAttrs_list PySem.F.slot_list_append PySem.F.type_list_append mt_append (qv 4) (qa_nm (qv 6) qa_nil)))))))
    (qb_one (qs_ret (qv 4)))))))), ?_⟩
  refine ⟨_, rfl, _, _, rfl, rfl, (show (0 : Int) < 2 by decide), rfl, _, rfl, iteB (fun _ => ?_) (fun _ => ?_)⟩
  · exact ⟨_, rfl, _, _, rfl, rfl, (show CDiv _ 2 from ⟨by decide, by decide⟩), _, rfl, c / 2, n, rfl, hn, q⟩
  refine ⟨_, rfl, _, _, rfl, rfl, (show CDiv _ 2 from ⟨by decide, by decide⟩), ?_⟩
  have m8 := Int.emod_nonneg (c / 2) (show (8 : Int) ≠ 0 by decide)
  refine ⟨_, rfl, _, _, rfl, rfl, (show CDiv _ 8 from ⟨by decide, by decide⟩), _, rfl, _, _, rfl, rfl, (show (0 : Int) < 8 by decide), _, _, rfl, rfl, _, _, rfl, rfl, (show (0 : Int) < 1 + c / 2 % 8 by lia), ?_⟩
  refine ⟨(by decide), fun l1 hl1 => ?_⟩
  refine ⟨_, rfl, _, rfl, by lia, (by lia), ?_⟩
  refine for_range (lo := 0) (n := (n : Int).toNat) (fun i σ H2 => ∃ (c at0 : Int) (ns : List Str) (z6 z7 z8 z9 : Option V), σ = [some (.int c), some (.int (n : Int)), some (.str lettT), some (.int at0), some (.ref l1), z6, z7, z8, z9] ∧ Same H H2 ∧ H2 l1 = some (.lst (ns.map V.str)) ∧ ns.length = i ∧ ∀ x ∈ ns, Nm 40 x ∧ ¬ x ∈ Mir.noNames) ⟨_, _, [], none, none, none, none, rfl, same_new hl1 _, upd_same, rfl, fun x hx => by cases hx⟩ ?_ ?_
  · rintro i σ H2 hi ⟨c, at0, ns, z6, z7, z8, z9, rfl, e2, hL2, hl2, hn2⟩
    have hi10 : i < 10 := by lia
    have m8 := Int.emod_nonneg c (show (8 : Int) ≠ 0 by decide)
    have m8' := Int.emod_lt_of_pos c (show (0 : Int) < 8 by decide)
    have hsl : lettT.length ≤ sizeLine := by decide +kernel
    have hs22 : lettT.cps.toList.length = 22 := by decide +kernel
    have hfl : figT.length ≤ sizeLine := by decide +kernel
    have hf10 : figT.cps.toList.length = 10 := by decide +kernel
    refine ⟨_, rfl, _, _, rfl, rfl, (show (0 : Int) < 8 by decide), _, _, rfl, rfl, _, rfl, by lia, by lia, ?_⟩
    refine for_range (lo := 0) (n := (1 + c % 8).toNat) (fun j σ H3 => H3 = H2 ∧ ∃ (nm : Str) (z8 z9 : Option V), σ = [some (.int c), some (.int (n : Int)), some (.str lettT), some (.int at0), some (.ref l1), some (.int (0 + (i : Int))), some (.str nm), z8, z9] ∧ Nm j nm ∧ evenS nm) ⟨rfl, _, _, _, rfl, ⟨Nat.le_refl _, show (PyData.str ("" : Str)).canLay0 = true by decide +kernel⟩, (fun c hc => by cases hc)⟩ ?_ ?_
    · rintro j σ H3 hj ⟨rfl, nm, z8, z9, rfl, hnm, hev⟩
      have hlen := hnm.len
      have hj8 : j < 8 := by lia
      refine ⟨_, rfl, _, rfl, _, _, rfl, rfl, (show CDiv _ 64 from ⟨by decide, by decide⟩), _, _, rfl, rfl, (show (0 : Int) < 5 by decide), _, _, rfl, rfl, .inl ⟨by lia, by lia⟩, ?_⟩
      refine ⟨_, rfl, _, rfl, _, rfl, rfl, _, rfl, _, _, rfl, rfl, .inl ⟨by lia, by lia⟩, _, _, rfl, rfl, ?_⟩
      generalize (if decide (V.int (0 + (j : Int)) = V.int at0) = true then (1 : Int) else 0) = d
      obtain ⟨c1, hc1, hm1⟩ := at_mod (xs := lettT.cps.toList) (m := 22) (i := c / 320 + ((0 + (j : Int)) * (c / 64 % 5) + (0 + (i : Int)) * d)) (by rw [hs22]; rfl) (by decide)
      obtain ⟨c2, hc2, hm2⟩ := at_mod (xs := figT.cps.toList) (m := 10) (i := c / 320 + ((0 + (j : Int)) * (c / 64 % 5) + (0 + (i : Int)) * d)) (by rw [hf10]; rfl) (by decide)
      have go1 : H3 = H3 ∧ ∃ (nm' : Str) (z8 z9 : Option V), [some (.int c), some (.int (n : Int)), some (.str lettT), some (.int at0), some (.ref l1), some (.int (0 + (i : Int))), some (.str (nm ++ ⟨#[c1]⟩)), some (.int (0 + (j : Int))), some (.int ((0 + (j : Int)) * (c / 64 % 5) + (0 + (i : Int)) * d))] = [some (.int c), some (.int (n : Int)), some (.str lettT), some (.int at0), some (.ref l1), some (.int (0 + (i : Int))), some (.str nm'), z8, z9] ∧ Nm (j + 1) nm' ∧ evenS nm' := ⟨rfl, _, _, _, rfl, hnm.app (nm_one ok_lett hm1), hev.app (List.mem_append.mpr (.inl hm1))⟩
      have go2 : H3 = H3 ∧ ∃ (nm' : Str) (z8 z9 : Option V), [some (.int c), some (.int (n : Int)), some (.str lettT), some (.int at0), some (.ref l1), some (.int (0 + (i : Int))), some (.str (nm ++ ⟨#[c2]⟩)), some (.int (0 + (j : Int))), some (.int ((0 + (j : Int)) * (c / 64 % 5) + (0 + (i : Int)) * d))] = [some (.int c), some (.int (n : Int)), some (.str lettT), some (.int at0), some (.ref l1), some (.int (0 + (i : Int))), some (.str nm'), z8, z9] ∧ Nm (j + 1) nm' ∧ evenS nm' := ⟨rfl, _, _, _, rfl, hnm.app (nm_one ok_fig hm2), hev.app (List.mem_append.mpr (.inr hm2))⟩
      refine ⟨_, rfl, _, _, rfl, rfl, _, rfl, iteB (fun _ => ?_) (fun _ => ?_)⟩
      · refine ⟨_, rfl, _, _, rfl, rfl, (show CDiv _ 7040 from ⟨by decide, by decide⟩), _, rfl, _, _, rfl, rfl, _, _, rfl, rfl, (show (0 : Int) < 3 by decide), rfl, _, rfl, iteB (fun _ => ?_) (fun _ => ?_)⟩
        · exact ⟨_, rfl, _, rfl, _, _, rfl, rfl, (show CDiv _ 320 from ⟨by decide, by decide⟩), _, rfl, _, _, rfl, rfl, _, _, rfl, rfl, (show (0 : Int) < 10 by decide), figT, _, c2, rfl, rfl, hfl, hc2, nm, _, rfl, rfl, le_line (by show nm.length + 1 ≤ 1000; lia), go2⟩
        · exact ⟨_, rfl, _, rfl, _, rfl, _, _, rfl, rfl, (show CDiv _ 320 from ⟨by decide, by decide⟩), _, rfl, _, _, rfl, rfl, _, _, rfl, rfl, (show (0 : Int) < 22 by decide), lettT, _, c1, rfl, rfl, hsl, hc1, nm, _, rfl, rfl, le_line (by show nm.length + 1 ≤ 1000; lia), go1⟩
      · exact ⟨_, rfl, _, rfl, _, rfl, _, _, rfl, rfl, (show CDiv _ 320 from ⟨by decide, by decide⟩), _, rfl, _, _, rfl, rfl, _, _, rfl, rfl, (show (0 : Int) < 22 by decide), lettT, _, c1, rfl, rfl, hsl, hc1, nm, _, rfl, rfl, le_line (by show nm.length + 1 ≤ 1000; lia), go1⟩
    rintro σ H3 ⟨rfl, nm, z8, z9, rfl, hnm, hev⟩
    refine ⟨_, rfl, (.inl ⟨rfl, _, SqL.of hL2⟩), _, rfl, l1, ns.map V.str, _, rfl, rfl, hL2, lt_line (by rw [List.length_map]; lia), ?_⟩
    refine ⟨c, at0, ns ++ [nm], _, _, _, _, rfl, ?_, ?_, ?_, ?_⟩
    · exact fun b o hb => by rw [upd_ne (ne_of_none hb hl1)]; exact e2 b o hb
    · rw [upd_same, List.map_append]; rfl
    · rw [List.length_append, List.length_singleton]; lia
    · intro x hx
      rcases List.mem_append.mp hx with hx | hx
      · exact hn2 x hx
      · rw [List.mem_singleton.mp hx]; exact ⟨hnm.mono (by lia), even_no hev⟩
  rintro σ H2 ⟨c, at0, ns, z6, z7, z8, z9, rfl, e2, hL2, hl2, hn2⟩
  exact ⟨_, rfl, q l1 ns _ e2 hL2 (by lia) hn2⟩
end
end K24
namespace L2
open PySem PySem.Spec PyProof.Rows PySem.Builtin
section
variable {prog : Program} {w : World} {d : Addr} {es : Array DictEntry} {ep : Nat} {od : Obj}
end
section
variable {X : Cx}
end
section
variable {prog : Program} {w : World} {A : Around} {E : Value → Shared → Prop} {s : Shared} {d : Addr} {es : Array DictEntry} {ep : Nat} {od : Obj}
end
end L2
namespace K24
open PySem PySem.Spec L2 Mir Kn
noncomputable abbrev sDrawn : Stmt := top 21
noncomputable def PoolRow (xs : List Str) (r : List Str) : Prop := ∃ k u v : Str, r = [k, u, v] ∧ (k = "is" ∨ k = "not") ∧ u ∈ xs ∧ v ∈ xs
noncomputable def PoolPart (xs : List Str) (r : List Str) : Prop := (∃ a f s, r = [("cell" : Str), a, f, s] ∧ a ∈ xs ∧ (f ∈ xs ∨ f = "any") ∧ (s ∈ xs ∨ s = "any")) ∨ (∃ a b, r = [("stretch" : Str), a, b] ∧ a ∈ xs ∧ b ∈ xs) ∨ ∃ a, r = [("tree" : Str), a] ∧ a ∈ xs
theorem word_at (xs : List Str) {n : Nat} {i : Int} (hl : xs.length = n) (h0 : 0 < n) : ∃ v : Str, atI (xs.map V.str) (i % (n : Int)) = some (.str v) ∧ v ∈ xs := by
  obtain ⟨v, h1, h2⟩ := at_mod (xs := xs.map V.str) (m := (n : Int)) (i := i) (by rw [List.length_map, hl]) (by lia)
  obtain ⟨x, hx, rfl⟩ := List.mem_map.mp h2
  exact ⟨x, h1, hx⟩
structure LW (K : PySem.W.Frag) (H0 Hc : Hp) (W : List Str → Prop) (fl : Addr) (n : Nat) : Prop where
  no : H0 fl = none
  at_ : ∃ as : List Addr, Hc fl = some (.lst (as.map V.ref)) ∧ as.length ≤ n ∧ ∀ c ∈ as, ∃ r, RowAt K Hc c r ∧ W r
theorem LW.grow {K : PySem.W.Frag} {H0 Hc H2 : Hp} {W : List Str → Prop} {fl : Addr} {n : Nat} (h : LW K H0 Hc W fl n) (e : Same Hc H2) : LW K H0 H2 W fl n := by
  obtain ⟨as, h1, h2, h3⟩ := h.at_
  exact ⟨h.no, as, e _ _ h1, h2, fun c hc => by obtain ⟨r, z1, z2⟩ := h3 c hc; exact ⟨r, e.seqT z1, z2⟩⟩
theorem LW.app {K : PySem.W.Frag} {H0 Hc : Hp} {W : List Str → Prop} {fl : Addr} {n m : Nat} {as : List Addr} {t : Addr} {r : List Str} (h : LW K H0 Hc W fl n) (ha : Hc fl = some (.lst (as.map V.ref))) (hm : as.length + 1 ≤ m) (ht : RowAt K Hc t r) (hr : W r) : LW K H0 (upd Hc fl (.lst (as.map V.ref ++ [.ref t]))) W fl m := by
  obtain ⟨as', h1, h2, h3⟩ := h.at_
  have e : as = as' := by
    have := HO.lst.inj (Option.some.inj (ha.symm.trans h1))
    exact (List.map_inj_right (fun _ _ z => V.ref.inj z)).mp this
  subst e
  refine ⟨h.no, as ++ [t], by rw [upd_same, List.map_append]; rfl, by rw [List.length_append, List.length_singleton]; lia, fun c hc => ?_⟩
  rcases List.mem_append.mp hc with z | z
  · obtain ⟨r, z1, z2⟩ := h3 c z
    exact ⟨r, sq_put ha z1, z2⟩
  · rw [List.mem_singleton.mp z]; exact ⟨r, sq_put ha ht, hr⟩
theorem LW.other {K : PySem.W.Frag} {H0 Hc : Hp} {W : List Str → Prop} {fl gl : Addr} {n : Nat} {us vs : List V} (h : LW K H0 Hc W fl n) (hg : Hc gl = some (.lst us)) (hne : fl ≠ gl) : LW K H0 (upd Hc gl (.lst vs)) W fl n := by
  obtain ⟨as, h1, h2, h3⟩ := h.at_
  exact ⟨h.no, as, by rw [upd_ne hne]; exact h1, h2, fun c hc => by obtain ⟨r, z1, z2⟩ := h3 c hc; exact ⟨r, sq_put hg z1, z2⟩⟩
theorem rows_of {K : PySem.W.Frag} {H : Hp} {W : List Str → Prop} : ∀ {as : List Addr}, (∀ c ∈ as, ∃ r, RowAt K H c r ∧ W r) → ∃ rs, Paired (fun b r => RowAt K H b r) as rs ∧ ∀ r ∈ rs, W r
  | [], _ => ⟨[], .nil, fun r hr => by simp at hr⟩
  | c :: as, h => by
    obtain ⟨r, h1, h2⟩ := h c (List.mem_cons_self ..)
    obtain ⟨rs, h3, h4⟩ := rows_of (as := as) fun c' hc => h c' (List.mem_cons_of_mem _ hc)
    exact ⟨r :: rs, .cons h1 h3, fun r' hr' => by
      rcases List.mem_cons.mp hr' with rfl | z
      · exact h2
      · exact h4 r' z⟩
theorem LW.rows {K : PySem.W.Frag} {H0 Hc : Hp} {W : List Str → Prop} {fl : Addr} {n : Nat} (h : LW K H0 Hc W fl n) : ∃ rs, RowsAt K Hc fl rs ∧ rs.length ≤ n ∧ ∀ r ∈ rs, W r := by
  obtain ⟨as, h1, h2, h3⟩ := h.at_
  obtain ⟨rs, h4, h5⟩ := rows_of h3
  exact ⟨rs, ⟨as, h1, h4⟩, by rw [← Paired.length h4]; exact h2, h5⟩
noncomputable def Tps (K : PySem.W.Frag) (Hc : Hp) (W : List Str → Prop) (ts : List Addr) : Prop := ∀ t ∈ ts, ∃ r, RowAt K Hc t r ∧ W r
theorem Tps.new {K : PySem.W.Frag} {Hc : Hp} {W : List Str → Prop} {ts : List Addr} (h : Tps K Hc W ts) {t : Addr} (ht : Hc t = none) (r : List Str) (hr : W r) : Tps K (upd Hc t (.tup (r.map V.str))) W (ts ++ [t]) := fun c hc => by
  rcases List.mem_append.mp hc with z | z
  · obtain ⟨r, z1, z2⟩ := h c z
    exact ⟨r, (same_new ht _).seqT z1, z2⟩
  · rw [List.mem_singleton.mp z]; exact ⟨r, SqT.of upd_same, hr⟩
theorem Tps.grow {K : PySem.W.Frag} {Hc H2 : Hp} {W : List Str → Prop} {ts : List Addr} (h : Tps K Hc W ts) (e : Same Hc H2) : Tps K H2 W ts := fun c hc => by
  obtain ⟨r, z1, z2⟩ := h c hc
  exact ⟨r, e.seqT z1, z2⟩
inductive spDrawnS (K : PySem.W.Frag) (vs : List V) (H : Hp) (Q : VK) : Prop
  | mk (a pl : Addr) (ns : List Int) (xs : List Str) (h0 : vs = [.ref a, .ref pl]) (h1 : SqL K H a (ns.map V.int)) (h2 : ns.length ≤ 14) (h3 : H pl = some (.lst (xs.map V.str))) (h4 : xs.length = 6) (h5 : ("nil" : Str) ∈ xs) (h6 : ∀ t fl ql F P H', Same H H' → SqT K H' t [.ref fl, .ref ql] → H' t = some (.tup [.ref fl, .ref ql]) → RowsAt K H' fl F → RowsAt K H' ql P → F.length ≤ 8 → P.length ≤ 6 → (∀ r ∈ F, PoolRow xs r) → (∀ r ∈ P, PoolPart xs r) → Q (.ref t) H') : spDrawnS K vs H Q
noncomputable def spDrawn (K : PySem.W.Frag) : Sp := fun vs H Q _ => spDrawnS K vs H Q
inductive tElifS (K : PySem.W.Frag) (D : Ends) (σ : St) (H : Hp) : Prop
  | mk (H0 : Hp) (a pl fl ql : Addr) (ns : List Int) (xs : List Str) (i : Nat) (m : Int) (u v : Str) (c : Int) (z8 z9 z10 z11 : Option V) (h0 : σ = [some (V.ref a), some (.ref pl), some (.ref fl), some (.ref ql), some (.int (i : Int)), some (.int m), some (.str u), some (.str v), z8, z9, z10, z11]) (h1 : Same H0 H) (h2 : SqL K H0 a (ns.map V.int)) (h3 : atI (ns.map V.int) (i : Int) = some (.int c)) (h4 : i ≤ 14) (h5 : H0 pl = some (.lst (xs.map V.str))) (h6 : xs.length = 6) (h7 : ("nil" : Str) ∈ xs) (h8 : u ∈ xs) (h9 : v ∈ xs) (h10 : LW K H0 H (PoolRow xs) fl 8) (h11 : LW K H0 H (PoolPart xs) ql 6) (h12 : fl ≠ ql) (h13 : ∀ H' (z8 z9 z10 z11 : Option V), Same H0 H' → LW K H0 H' (PoolRow xs) fl 8 → LW K H0 H' (PoolPart xs) ql 6 → D.nx [some (V.ref a), some (.ref pl), some (.ref fl), some (.ref ql), some (.int (i : Int)), some (.int m), some (.str u), some (.str v), z8, z9, z10, z11] H') : tElifS K D σ H
noncomputable def tElif (K : PySem.W.Frag) : TS := fun D σ H => tElifS K D σ H
section
variable {P : Program} {w : World} {K : PySem.W.Frag} {mg : Str → Option Value} {base : Heap} {f gM : Addr} {fd dM : FuncData}
theorem scDrawn : FnScope ["_law_cells", "_law_pool", "_law_facts", "_law_parts", "_law_k", "_law_m", "_law_a", "_law_b", "_law_some", "_law_f", "_law_s", "_law_row"] ["_law_cells", "_law_pool"] (defScope sDrawn) := ⟨rfl, rfl, rfl, by decide +kernel, rfl, by decide +kernel, by decide +kernel⟩
theorem ok_drawn (C : Con K mg w) (F : Fun K "_law_drawn" "_law_drawn" sDrawn f fd) (GM : FnOk P w K mg base CX0 1 gM dM ["_law_cell", "_law_k"] spMixed) (cM : Cal K mg "_law_mixed" gM dM ["_law_cell", "_law_k"]) : FnOk P w K mg base CX0 2 f fd ["_law_cells", "_law_pool"] (spDrawn K) := by
  refine F.okQ scDrawn (fun vs H Q E h => ?_) (fun cdv A outer s0 H vs Q E hr h => ?_)
  · obtain ⟨c, k, ns, xs, rfl, _⟩ := h; rfl
  obtain ⟨a, pl, ns, xs, rfl, hA, hns, hX, hx6, hnil, q⟩ := h
  have nd := scDrawn.nd
  refine ⟨_, qb_cons (qs_set (i := 2) nd rfl (Or.inl rfl) (qe_lst qa_nil))
    (qb_cons (qs_set (i := 3) nd rfl (Or.inl rfl) (qe_lst qa_nil))
    (qb_cons (qs_for PassesOwn.never rfl (qi_range1 rfl C.range (qa_call (qe_callB (lenKk (K := K) rfl) rfl C.len PySem.boot_len (qa_nm (qv 0) qa_nil)) qa_nil)) (qg_name (i := 4) nd rfl (Or.inl rfl)) (qb_cons (qs_set (i := 5) nd rfl (Or.inl rfl) (qe_call GM hr rfl cM.name cM.keep cM.bind .nil pass0 (qa_sub (qe_ix (ixKk (K := K) rfl) (qv 0) (qv 4) (fun _ _ => rfl)) (qa_nm (qv 4) qa_nil))))
    (qb_cons (qs_set (i := 6) nd rfl (Or.inl rfl) (qe_ix (ixKk (K := K) rfl) (qv 1) (qe_op op_mod (qe_op op_fdiv (qv 5) qe_int) (qe_callB (lenKk (K := K) rfl) rfl C.len PySem.boot_len (qa_nm (qv 1) qa_nil))) (fun _ _ => rfl)))
    (qb_cons (qs_set (i := 7) nd rfl (Or.inl rfl) (qe_ix (ixKk (K := K) rfl) (qv 1) (qe_op op_mod (qe_call GM hr rfl cM.name cM.keep cM.bind .nil pass0 (qa_sub (qe_ix (ixKk (K := K) rfl) (qv 0) (qv 4) (fun _ _ => rfl)) (qa_bop (qe_op op_add (qv 4) qe_int) qa_nil))) (qe_callB (lenKk (K := K) rfl) rfl C.len PySem.boot_len (qa_nm (qv 1) qa_nil))) (fun _ _ => rfl)))
    (qb_one (qs_if (QW.qt (qw_and (qt_cmpR op_lt (qe_op op_mod (qv 5) qe_int) qe_int (nomark _)) (qw_and1 (qt_cmpR op_lt (qe_callB (lenKk (K := K) rfl) rfl C.len PySem.boot_len (qa_nm (qv 2) qa_nil)) qe_int (nomark _))))) (qb_one (qs_expr (qe_bmK (K := K) rfl PySem.F.plainAttrs_list PySem.F.slot_list_append PySem.F.type_list_append mt_append (qv 2) (qa_tp (qa_sub (qe_ix (ixKk (K := K) rfl) (qe_lst (qa_str (qa_str (qa_str (qa_str (qa_str qa_nil)))))) (qe_op op_mod (qv 5) qe_int) (fun _ _ => rfl)) (qa_nm (qv 6) (qa_nm (qv 7) qa_nil))) qa_nil)))) (qb_one (qs_weak (t' := tElif K) (qs_if (QW.qt (qw_and (qt_cmpR op_gt (qe_op op_mod (qv 5) qe_int) qe_int (nomark _)) (qw_and1 (qt_cmpR op_lt (qe_callB (lenKk (K := K) rfl) rfl C.len PySem.boot_len (qa_nm (qv 3) qa_nil)) qe_int (nomark _))))) (qb_cons (qs_set (i := 8) nd rfl (Or.inl rfl) (qe_op op_cat (qv 1) (qe_lst (qa_str (qa_str qa_nil)))))
    (qb_cons (qs_set (i := 9) nd rfl (Or.inl rfl) (qe_ix (ixKk (K := K) rfl) (qv 8) (qe_op op_mod (qe_call GM hr rfl cM.name cM.keep cM.bind .nil pass0 (qa_sub (qe_ix (ixKk (K := K) rfl) (qv 0) (qv 4) (fun _ _ => rfl)) (qa_bop (qe_op op_add (qv 4) qe_int) qa_nil))) (qe_callB (lenKk (K := K) rfl) rfl C.len PySem.boot_len (qa_nm (qv 8) qa_nil))) (fun _ _ => rfl)))
    (qb_cons (qs_set (i := 10) nd rfl (Or.inl rfl) (qe_ix (ixKk (K := K) rfl) (qv 8) (qe_op op_mod (qe_call GM hr rfl cM.name cM.keep cM.bind .nil pass0 (qa_sub (qe_ix (ixKk (K := K) rfl) (qv 0) (qv 4) (fun _ _ => rfl)) (qa_bop (qe_op op_add (qv 4) qe_int) qa_nil))) (qe_callB (lenKk (K := K) rfl) rfl C.len PySem.boot_len (qa_nm (qv 8) qa_nil))) (fun _ _ => rfl)))
    (qb_cons (qs_set (i := 11) nd rfl (Or.inl rfl) (qe_lst (qa_tp (qa_str (qa_nm (qv 6) (qa_nm (qv 9) (qa_nm (qv 10) qa_nil)))) (qa_tp (qa_str (qa_nm (qv 6) (qa_nm (qv 7) qa_nil))) (qa_tp (qa_str (qa_nm (qv 6) qa_nil)) (qa_tp (qa_str (qa_nm (qv 6) (qa_nm (qv 9) (qa_nm (qv 10) qa_nil)))) (qa_tp (qa_str (qa_nm (qv 6) (qa_nm (qv 7) qa_nil))) qa_nil)))))))
    (qb_one (qs_expr (qe_bmK (K := K) rfl PySem.F.plainAttrs_list PySem.F.slot_list_append PySem.F.type_list_append mt_append (qv 3) (qa_sub (qe_ix (ixKk (K := K) rfl) (qe_op op_cat (qv 11) (qe_lst (qa_tp (qa_str (qa_nm (qv 6) (qa_nm (qv 7) qa_nil))) (qa_tp (qa_str (qa_nm (qv 6) (qa_str qa_nil))) qa_nil)))) (qe_op op_sub (qe_op op_mod (qv 5) qe_int) qe_int) (fun _ _ => rfl)) qa_nil)))))))) qb_nil) (fun D σ H hh => by
      obtain ⟨H0, a, pl, fl, ql, ns, xs, i, m, u, v, c, z8, z9, z10, z11, rfl, e, hA, hcell, hi, hX, hx6, hnil, hum, hvm, LF, LP, hfq, go⟩ := hh
      have b1 := Int.emod_nonneg m (show (12 : Int) ≠ 0 by decide)
      have b2 := Int.emod_lt_of_pos m (show (0 : Int) < 12 by decide)
      obtain ⟨pas, hpa, hpal, _⟩ := LP.at_
      have hpml : (pas.map V.ref).length = pas.length := List.length_map ..
      refine ⟨_, rfl, _, _, rfl, rfl, (show (0 : Int) < 12 by decide), _, _, rfl, rfl, _, rfl, iteB (fun c1 => ?_) (fun _ => go H _ _ _ _ e LF LP)⟩
      have c1' : 4 < m % 12 := of_decide_eq_true c1
      refine ⟨_, rfl, ql, _, rfl, .inl (SqL.of hpa), _, _, rfl, rfl, _, rfl, iteB (fun c2 => ?_) (fun _ => go H _ _ _ _ e LF LP)⟩
      have c2' : pas.length < 6 := by have := of_decide_eq_true c2; rw [hpml] at this; lia
      have hX' := e _ _ hX
      refine ⟨_, rfl, (show 2 ≤ sizeLine by decide), fun l1 hl1 => ?_⟩
      have s1 := same_new hl1 (.lst ([("any" : Str), "any"].map V.str))
      refine ⟨pl, l1, _, _, rfl, rfl, s1 _ _ hX', upd_same, (by rw [List.length_map, hx6]; decide), fun so hso => ?_⟩
      have s2 := s1.trans (same_new hso (.lst (xs.map V.str ++ [.str "any", .str "any"])))
      have hS : (upd (upd H l1 (.lst ([("any" : Str), "any"].map V.str))) so (.lst (xs.map V.str ++ [.str "any", .str "any"]))) so = some (.lst ((xs ++ [("any" : Str), "any"]).map V.str)) := by rw [upd_same, List.map_append]; rfl
      replace s2 : Same H (upd (upd H l1 (.lst ([("any" : Str), "any"].map V.str))) so (.lst (xs.map V.str ++ [.str "any", .str "any"]))) := s2
      have e2 := e.trans s2
      have LF2 := LF.grow s2
      have LP2 := LP.grow s2
      have hpa2 := s2 _ _ hpa
      clear s1 s2 hX'
      show gName _ _ _ (upd (upd H l1 (.lst ([("any" : Str), "any"].map V.str))) so (.lst (xs.map V.str ++ [.str "any", .str "any"]))) _
      generalize upd (upd H l1 (.lst ([("any" : Str), "any"].map V.str))) so (.lst (xs.map V.str ++ [.str "any", .str "any"])) = H2 at hS e2 LF2 LP2 hpa2 ⊢
      have hs8 : (xs ++ [("any" : Str), "any"]).length = 8 := by rw [List.length_append, hx6]; rfl
      have hs8' : (((xs ++ [("any" : Str), "any"]).map V.str).length : Int) = 8 := by rw [List.length_map, hs8]; rfl
      have hsm : ∀ {y : Str}, y ∈ xs ++ [("any" : Str), "any"] → y ∈ xs ∨ y = "any" := fun {y} hy => by
        rcases List.mem_append.mp hy with z | z
        · exact .inl z
        · simp only [List.mem_cons, List.not_mem_nil, or_false] at z
          exact .inr (z.elim id id)
      refine ⟨_, rfl, _, rfl, _, rfl, a, _, _, .int c, rfl, rfl, e2.seq hA, hcell, _, rfl, _, _, rfl, rfl, c, i + 140, rfl, by lia, fun m3 hm3 => ?_⟩
      refine ⟨_, rfl, so, _, rfl, .inl (SqL.of hS), ?_⟩
      rw [hs8']
      obtain ⟨fw, hfw, hfm⟩ := word_at _ (n := 8) (i := m3) hs8 (by decide)
      refine ⟨_, _, rfl, rfl, (show (0 : Int) < 8 by decide), so, _, _, .str fw, rfl, rfl, SqL.of hS, hfw, ?_⟩
      refine ⟨_, rfl, _, rfl, _, rfl, a, _, _, .int c, rfl, rfl, e2.seq hA, hcell, _, rfl, _, _, rfl, rfl, c, i + 210, rfl, by lia, fun m4 hm4 => ?_⟩
      refine ⟨_, rfl, so, _, rfl, .inl (SqL.of hS), ?_⟩
      rw [hs8']
      obtain ⟨sw, hsw, hsm'⟩ := word_at _ (n := 8) (i := m4) hs8 (by decide)
      refine ⟨_, _, rfl, rfl, (show (0 : Int) < 8 by decide), so, _, _, .str sw, rfl, rfl, SqL.of hS, hsw, ?_⟩
      have wc : PoolPart xs [("cell" : Str), u, fw, sw] := .inl ⟨u, fw, sw, rfl, hum, hsm hfm, hsm hsm'⟩
      have ws : PoolPart xs [("stretch" : Str), u, v] := .inr (.inl ⟨u, v, rfl, hum, hvm⟩)
      have wt : PoolPart xs [("tree" : Str), u] := .inr (.inr ⟨u, rfl, hum⟩)
      have wn : PoolPart xs [("stretch" : Str), u, "nil"] := .inr (.inl ⟨u, "nil", rfl, hum, hnil⟩)
      have T0 : Tps K H2 (PoolPart xs) [] := fun c hc => by simp at hc
      clear hS hfw hsw
      refine ⟨_, rfl, _, rfl, _, rfl, (show 4 ≤ sizeLine by decide), fun t1 ht1 => ?_⟩
      have x1 : Same H2 (upd H2 t1 (.tup [.str "cell", .str u, .str fw, .str sw])) := same_new ht1 _
      have T1 : Tps K (upd H2 t1 (.tup [.str "cell", .str u, .str fw, .str sw])) (PoolPart xs) ([t1]) := Tps.new T0 ht1 _ wc
      have E1 := e2.trans x1
      have A1 := LF2.grow x1
      have B1 := LP2.grow x1
      have P1 := x1 _ _ hpa2
      generalize upd H2 t1 (.tup [.str "cell", .str u, .str fw, .str sw]) = G1 at T1 E1 A1 B1 P1 ⊢
      clear x1
      refine ⟨_, rfl, _, rfl, (show 3 ≤ sizeLine by decide), fun t2 ht2 => ?_⟩
      have x2 : Same G1 (upd G1 t2 (.tup [.str "stretch", .str u, .str v])) := same_new ht2 _
      have T2 : Tps K (upd G1 t2 (.tup [.str "stretch", .str u, .str v])) (PoolPart xs) ([t1, t2]) := Tps.new T1 ht2 _ ws
      have E2 := E1.trans x2
      have A2 := A1.grow x2
      have B2 := B1.grow x2
      have P2 := x2 _ _ P1
      generalize upd G1 t2 (.tup [.str "stretch", .str u, .str v]) = G2 at T2 E2 A2 B2 P2 ⊢
      clear x2
      refine ⟨_, rfl, (show 2 ≤ sizeLine by decide), fun t3 ht3 => ?_⟩
      have x3 : Same G2 (upd G2 t3 (.tup [.str "tree", .str u])) := same_new ht3 _
      have T3 : Tps K (upd G2 t3 (.tup [.str "tree", .str u])) (PoolPart xs) ([t1, t2, t3]) := Tps.new T2 ht3 _ wt
      have E3 := E2.trans x3
      have A3 := A2.grow x3
      have B3 := B2.grow x3
      have P3 := x3 _ _ P2
      generalize upd G2 t3 (.tup [.str "tree", .str u]) = G3 at T3 E3 A3 B3 P3 ⊢
      clear x3
      refine ⟨_, rfl, _, rfl, _, rfl, (show 4 ≤ sizeLine by decide), fun t4 ht4 => ?_⟩
      have x4 : Same G3 (upd G3 t4 (.tup [.str "cell", .str u, .str fw, .str sw])) := same_new ht4 _
      have T4 : Tps K (upd G3 t4 (.tup [.str "cell", .str u, .str fw, .str sw])) (PoolPart xs) ([t1, t2, t3, t4]) := Tps.new T3 ht4 _ wc
      have E4 := E3.trans x4
      have A4 := A3.grow x4
      have B4 := B3.grow x4
      have P4 := x4 _ _ P3
      generalize upd G3 t4 (.tup [.str "cell", .str u, .str fw, .str sw]) = G4 at T4 E4 A4 B4 P4 ⊢
      clear x4
      refine ⟨_, rfl, _, rfl, (show 3 ≤ sizeLine by decide), fun t5 ht5 => ?_⟩
      have x5 : Same G4 (upd G4 t5 (.tup [.str "stretch", .str u, .str v])) := same_new ht5 _
      have T5 : Tps K (upd G4 t5 (.tup [.str "stretch", .str u, .str v])) (PoolPart xs) ([t1, t2, t3, t4, t5]) := Tps.new T4 ht5 _ ws
      have E5 := E4.trans x5
      have A5 := A4.grow x5
      have B5 := B4.grow x5
      have P5 := x5 _ _ P4
      generalize upd G4 t5 (.tup [.str "stretch", .str u, .str v]) = G5 at T5 E5 A5 B5 P5 ⊢
      clear x5
      refine ⟨(show 5 ≤ sizeLine by decide), fun l5 hl5 => ?_⟩
      have x0 : Same G5 (upd G5 l5 (.lst [.ref t1, .ref t2, .ref t3, .ref t4, .ref t5])) := same_new hl5 _
      have T5' := T5.grow x0
      have E5' := E5.trans x0
      have A5' := A5.grow x0
      have B5' := B5.grow x0
      have P5' := x0 _ _ P5
      have R5 : (upd G5 l5 (.lst [.ref t1, .ref t2, .ref t3, .ref t4, .ref t5])) l5 = some (.lst [.ref t1, .ref t2, .ref t3, .ref t4, .ref t5]) := upd_same
      generalize upd G5 l5 (.lst [.ref t1, .ref t2, .ref t3, .ref t4, .ref t5]) = G6 at T5' E5' A5' B5' P5' R5 ⊢
      clear x0
      refine ⟨_, rfl, .inl ⟨rfl, _, SqL.of P5'⟩, _, rfl, ?_⟩
      refine ⟨_, rfl, _, rfl, (show 3 ≤ sizeLine by decide), fun t6 ht6 => ?_⟩
      have x6 : Same G6 (upd G6 t6 (.tup [.str "stretch", .str u, .str v])) := same_new ht6 _
      have T6 : Tps K (upd G6 t6 (.tup [.str "stretch", .str u, .str v])) (PoolPart xs) ([t1, t2, t3, t4, t5, t6]) := Tps.new T5' ht6 _ ws
      have E6 := E5'.trans x6
      have A6 := A5'.grow x6
      have B6 := B5'.grow x6
      have P6 := x6 _ _ P5'
      have R6 := x6 _ _ R5
      generalize upd G6 t6 (.tup [.str "stretch", .str u, .str v]) = G7 at T6 E6 A6 B6 P6 R6 ⊢
      clear x6
      refine ⟨_, rfl, (show 3 ≤ sizeLine by decide), fun t7 ht7 => ?_⟩
      have x7 : Same G7 (upd G7 t7 (.tup [.str "stretch", .str u, .str "nil"])) := same_new ht7 _
      have T7 : Tps K (upd G7 t7 (.tup [.str "stretch", .str u, .str "nil"])) (PoolPart xs) ([t1, t2, t3, t4, t5, t6, t7]) := Tps.new T6 ht7 _ wn
      have E7 := E6.trans x7
      have A7 := A6.grow x7
      have B7 := B6.grow x7
      have P7 := x7 _ _ P6
      have R7 := x7 _ _ R6
      generalize upd G7 t7 (.tup [.str "stretch", .str u, .str "nil"]) = G8 at T7 E7 A7 B7 P7 R7 ⊢
      clear x7
      refine ⟨(show 2 ≤ sizeLine by decide), fun l6 hl6 => ?_⟩
      have x0 : Same G8 (upd G8 l6 (.lst [.ref t6, .ref t7])) := same_new hl6 _
      refine ⟨l5, l6, _, _, rfl, rfl, x0 _ _ R7, upd_same, (show 7 ≤ sizeLine by decide), fun l7 hl7 => ?_⟩
      have x1 := x0.trans (same_new hl7 (.lst ([t1, t2, t3, t4, t5, t6, t7].map V.ref)))
      obtain ⟨tv, htv, htm⟩ := at_in (xs := [t1, t2, t3, t4, t5, t6, t7].map V.ref) (i := m % 12 - 5) (by lia) (by show m % 12 - 5 < 7; lia)
      obtain ⟨t, ht, rfl⟩ := List.mem_map.mp htm
      obtain ⟨r, hr1, hr2⟩ := T7 t ht
      have P8 := x1 _ _ P7
      refine ⟨_, rfl, _, _, rfl, rfl, (show (0 : Int) < 12 by decide), _, _, rfl, rfl, l7, _, _, .ref t, rfl, rfl, SqL.of upd_same, htv, ql, _, .ref t, rfl, rfl, P8, by rw [hpml]; exact lt_line (by lia), ?_⟩
      exact go _ _ _ _ _ (same_put LP.no (E7.trans x1) _) ((A7.grow x1).other P8 hfq) ((B7.grow x1).app P8 (by lia) (x1.seqT hr1) hr2))))))))))
    (qb_one (qs_ret (qe_tup (qa_nm (qv 2) (qa_nm (qv 3) qa_nil))))))), ?_⟩
  refine ⟨Nat.zero_le _, fun fl hfl => ?_⟩
  have s1 := same_new hfl (.lst [])
  have hf1 : (upd H fl (.lst [])) fl = some (.lst []) := upd_same
  generalize upd H fl (.lst []) = H1 at s1 hf1 ⊢
  refine ⟨Nat.zero_le _, fun ql hql => ?_⟩
  have s2 := s1.trans (same_new hql (.lst []))
  have hfq : fl ≠ ql := ne_of_none hf1 hql
  have hql0 : H ql = none := by
    cases hz : H ql with
    | none => rfl
    | some o => rw [s1 _ _ hz] at hql; cases hql
  have LF0 : LW K H (upd H1 ql (.lst [])) (PoolRow xs) fl 8 := ⟨hfl, [], by rw [upd_ne hfq]; exact hf1, Nat.zero_le _, fun c hc => by simp at hc⟩
  have LP0 : LW K H (upd H1 ql (.lst [])) (PoolPart xs) ql 6 := ⟨hql0, [], upd_same, Nat.zero_le _, fun c hc => by simp at hc⟩
  generalize upd H1 ql (.lst []) = H2 at s2 LF0 LP0 ⊢
  have hml : (ns.map V.int).length = ns.length := List.length_map ..
  refine ⟨_, rfl, a, _, rfl, .inl (s2.seq hA), _, rfl, (by rw [hml]; lia), (by rw [hml]; lia), ?_⟩
  rw [hml]
  refine for_range (lo := 0) (n := (ns.length : Int).toNat) (fun i σ H' => Same H H' ∧ LW K H H' (PoolRow xs) fl 8 ∧ LW K H H' (PoolPart xs) ql 6 ∧ ∃ (z4 z5 z6 z7 z8 z9 z10 z11 : Option V), σ = [some (.ref a), some (.ref pl), some (.ref fl), some (.ref ql), z4, z5, z6, z7, z8, z9, z10, z11])
    ⟨s2, LF0, LP0, none, none, none, none, none, none, none, none, rfl⟩ ?_ ?_
  · rintro i σ H' hi ⟨e, LF, LP, z4, z5, z6, z7, z8, z9, z10, z11, rfl⟩
    rw [Int.zero_add]
    have hi' : i < ns.length := by lia
    have hcell : atI (ns.map V.int) (i : Int) = some (.int ns[i]) := atI_nat (by rw [List.getElem?_map, List.getElem?_eq_getElem hi']; rfl)
    refine ⟨_, rfl, _, rfl, a, _, _, .int ns[i], rfl, rfl, e.seq hA, hcell, _, rfl, ns[i], i, rfl, by lia, fun m hm => ?_⟩
    have hX' := e _ _ hX
    have hl6 : ((xs.map V.str).length : Int) = 6 := by rw [List.length_map, hx6]; rfl
    obtain ⟨u, hu, hum⟩ := word_at xs (n := 6) (i := m / 12) hx6 (by decide)
    refine ⟨_, rfl, _, rfl, _, _, rfl, rfl, (show CDiv _ 12 from ⟨by decide, by decide⟩), _, rfl, pl, _, rfl, .inl (SqL.of hX'), ?_⟩
    rw [hl6]
    refine ⟨_, _, rfl, rfl, (show (0 : Int) < 6 by decide), pl, _, _, .str u, rfl, rfl, SqL.of hX', hu, ?_⟩
    refine ⟨_, rfl, _, rfl, _, rfl, a, _, _, .int ns[i], rfl, rfl, e.seq hA, hcell, _, rfl, _, _, rfl, rfl, ns[i], i + 70, rfl, by lia, fun m2 hm2 => ?_⟩
    obtain ⟨v, hv, hvm⟩ := word_at xs (n := 6) (i := m2) hx6 (by decide)
    refine ⟨_, rfl, pl, _, rfl, .inl (SqL.of hX'), ?_⟩
    rw [hl6]
    refine ⟨_, _, rfl, rfl, (show (0 : Int) < 6 by decide), pl, _, _, .str v, rfl, rfl, SqL.of hX', hv, ?_⟩
    have b1 := Int.emod_nonneg m (show (12 : Int) ≠ 0 by decide)
    have b2 := Int.emod_lt_of_pos m (show (0 : Int) < 12 by decide)
    obtain ⟨fas, hfa, hfal, _⟩ := LF.at_
    obtain ⟨pas, hpa, hpal, _⟩ := LP.at_
    have hfml : (fas.map V.ref).length = fas.length := List.length_map ..
    have hpml : (pas.map V.ref).length = pas.length := List.length_map ..
    have go : ∀ H' (z8 z9 z10 z11 : Option V), Same H H' → LW K H H' (PoolRow xs) fl 8 → LW K H H' (PoolPart xs) ql 6 → (Same H H' ∧ LW K H H' (PoolRow xs) fl 8 ∧ LW K H H' (PoolPart xs) ql 6 ∧ ∃ (y4 y5 y6 y7 y8 y9 y10 y11 : Option V), [some (V.ref a), some (.ref pl), some (.ref fl), some (.ref ql), some (.int (i : Int)), some (.int m), some (.str u), some (.str v), z8, z9, z10, z11] = [some (.ref a), some (.ref pl), some (.ref fl), some (.ref ql), y4, y5, y6, y7, y8, y9, y10, y11]) := fun H' z8 z9 z10 z11 h1 h2 h3 => ⟨h1, h2, h3, _, _, _, _, _, _, _, _, rfl⟩
    have el : ∀ D : Ends, (∀ H' (z8 z9 z10 z11 : Option V), Same H H' → LW K H H' (PoolRow xs) fl 8 → LW K H H' (PoolPart xs) ql 6 → D.nx [some (V.ref a), some (.ref pl), some (.ref fl), some (.ref ql), some (.int (i : Int)), some (.int m), some (.str u), some (.str v), z8, z9, z10, z11] H') → tElif K D [some (V.ref a), some (.ref pl), some (.ref fl), some (.ref ql), some (.int (i : Int)), some (.int m), some (.str u), some (.str v), z8, z9, z10, z11] H' := fun D h => ⟨H, a, pl, fl, ql, ns, xs, i, m, u, v, ns[i], z8, z9, z10, z11, rfl, e, hA, hcell, by lia, hX, hx6, hnil, hum, hvm, LF, LP, hfq, h⟩
    refine ⟨_, rfl, _, _, rfl, rfl, (show (0 : Int) < 12 by decide), _, _, rfl, rfl, _, rfl, iteB (fun c1 => ?_) (fun _ => el _ fun H' z8 z9 z10 z11 => go H' z8 z9 z10 z11)⟩
    have c1' : m % 12 < 5 := of_decide_eq_true c1
    refine ⟨_, rfl, fl, _, rfl, .inl (SqL.of hfa), _, _, rfl, rfl, _, rfl, iteB (fun c2 => ?_) (fun _ => el _ fun H' z8 z9 z10 z11 => go H' z8 z9 z10 z11)⟩
    have c2' : fas.length < 8 := by have := of_decide_eq_true c2; rw [hfml] at this; lia
    refine ⟨_, rfl, .inl ⟨rfl, _, SqL.of hfa⟩, (show 5 ≤ sizeLine by decide), fun l2 hl2 => ?_⟩
    have s3 := same_new hl2 (.lst ([("is" : Str), "not", "not", "is", "not"].map V.str))
    obtain ⟨wv, hw, hwm⟩ := at_in (xs := [("is" : Str), "not", "not", "is", "not"].map V.str) (i := m % 12) b1 (by show m % 12 < 5; exact c1')
    obtain ⟨wd, rfl, hwd⟩ : ∃ wd : Str, wv = .str wd ∧ (wd = "is" ∨ wd = "not") := by
      obtain ⟨y, hy, rfl⟩ := List.mem_map.mp hwm
      refine ⟨y, rfl, ?_⟩
      simp only [List.mem_cons, List.not_mem_nil, or_false] at hy
      rcases hy with z | z | z | z | z
      · exact .inl z
      · exact .inr z
      · exact .inr z
      · exact .inl z
      · exact .inr z
    refine ⟨_, rfl, _, _, rfl, rfl, (show (0 : Int) < 12 by decide), l2, _, _, .str wd, rfl, rfl, SqL.of upd_same, hw, _, rfl, _, rfl, (show 3 ≤ sizeLine by decide), fun t ht => ?_⟩
    have s4 := s3.trans (same_new ht (.tup [.str wd, .str u, .str v]))
    have hfa4 := s4 _ _ hfa
    have hpa4 := s4 _ _ hpa
    refine ⟨fl, _, .ref t, rfl, rfl, hfa4, by rw [hfml]; exact lt_line (by lia), ?_⟩
    exact go _ _ _ _ _ (same_put hfl (e.trans s4) _) ((LF.grow s4).app hfa4 (by lia) (r := [wd, u, v]) (SqT.of upd_same) ⟨wd, u, v, rfl, hwd, hum, hvm⟩) ((LP.grow s4).other hfa4 (Ne.symm hfq))
  · rintro σ H' ⟨e, LF, LP, z4, z5, z6, z7, z8, z9, z10, z11, rfl⟩
    obtain ⟨F, hF, hF8, hFW⟩ := LF.rows
    obtain ⟨Pt, hP, hP6, hPW⟩ := LP.rows
    refine ⟨_, rfl, _, rfl, (show 2 ≤ sizeLine by decide), fun t ht => ?_⟩
    have s3 := same_new ht (.tup [.ref fl, .ref ql])
    exact q t fl ql F Pt _ (e.trans s3) (SqT.of upd_same) upd_same (hF.same s3) (hP.same s3) hF8 hP6 hFW hPW
end
end K24
namespace K24
open PySem PySem.Spec L2 Mir Kn
theorem ixK {X : Cx} {K : PySem.W.Frag} (h : X.K = K) : IxR X (rIxL K) := by subst h; exact ix_list
noncomputable abbrev sShares : Stmt := inClass (top 4) 10
noncomputable abbrev sOpenE : Stmt := inClass (top 4) 11
structure NeAt (C : Addr) (H : Hp) (p pl hd un fu D : Addr) (ns : List Nat) : Prop where
  at_ : ∃ dx fs, H p = some (.ins C dx fs) ∧ KFs fs pl hd un fu ∧ fs.lookup ("not_empty" : Str) = some (.ref D)
  lst : H D = some (.lst (ns.map natV))
theorem NeAt.same {C : Addr} {H H' : Hp} {p pl hd un fu D : Addr} {ns : List Nat} (h : NeAt C H p pl hd un fu D ns) (e : Same H H') : NeAt C H' p pl hd un fu D ns := by
  obtain ⟨⟨dx, fs, h1, h2⟩, h3⟩ := h
  exact ⟨⟨dx, fs, e _ _ h1, h2⟩, e _ _ h3⟩
noncomputable def SharesR (F P : List (List Str)) (ns : List Nat) (n : Nat) (r : List Str) : Prop := (∃ j ∈ ns, j ≠ n ∧ ∃ s, P[j]? = some s ∧ headF F (place r) = headF F (place s)) ∨ headF F (place r) = headF F "nil"
inductive spSharesS (K : PySem.W.Frag) (C : Addr) (vs : List V) (H : Hp) (Q : VK) : Prop
  | mk (p pl hd un fu D : Addr) (F P : List (List Str)) (L : List (Str × Str)) (ns : List Nat) (n : Nat) (r : List Str) (h0 : vs = [.ref p, .int (n : Int)]) (h1 : KnS K C H p pl hd un fu F P L) (h2 : NeAt C H p pl hd un fu D ns) (h3 : ns.length ≤ 15) (h4 : (∀ j ∈ ns, j < P.length)) (h5 : (∀ r ∈ P, PartRow r)) (h6 : P[n]? = some r) (h7 : ∀ (b : Bool) H', Same H H' → (b = true ↔ SharesR F P ns n r) → Q (.bl b) H') : spSharesS K C vs H Q
noncomputable def spShares (K : PySem.W.Frag) (C : Addr) : Sp := fun vs H Q _ => spSharesS K C vs H Q
section
variable {P : Program} {w : World} {K : PySem.W.Frag} {mg : Str → Option Value} {base : Heap} {f C fI gA : Addr} {fd dA : FuncData}
theorem scShares : FnScope ["self", "number", "place", "others"] ["self", "number"] (defScope sShares) := ⟨rfl, rfl, rfl, by decide +kernel, rfl, by decide +kernel, by decide +kernel⟩
theorem ok_shares (Cn : Con K mg w) (T : Txt K mg C fI) (F : Fun K "shares_place" "Knowledge.shares_place" sShares f fd) (GA : FnOk P w K mg base CX0 2 gA dA ["self", "one", "other"] (spAlike C)) (cA : MCal K C "alike" gA dA ["self", "one", "other"]) : FnOk P w K mg base CX0 3 f fd ["self", "number"] (spShares K C) := by
  refine F.okQ scShares (fun vs H Q E h => ?_) (fun cdv A outer s0 H vs Q E hr h => ?_)
  · obtain ⟨p, pl, hd, un, fu, D, F, P, L, ns, n, r, rfl, _⟩ := h; rfl
  obtain ⟨p, pl, hd, un, fu, D, Fs, Ps, L, ns, n, r, rfl, hK, hN, hn15, hnl, hpr, hn, q⟩ := h
  have nd := scShares.nd
  have hu1 := hu_of hr
  refine ⟨_, qb_cons (qs_set (i := 2) nd rfl (Or.inr rfl) (qe_ix (ixTk (K := K) rfl) (qe_ix (ixKk (K := K) rfl) (qe_fldK (K := K) rfl (qv 0)) (qv 1) (fun _ _ => rfl)) qe_int (fun _ _ => rfl)))
    (qb_cons (qs_setCG ["other", "self", "number"] [0, 1] (i := 3) nd rfl (Or.inl rfl) (qi_listK (K := K) rfl (qe_fldK (K := K) rfl (qv 0))) (fun _ _ _ _ => (qts_one (qt_cmpR op_ne (qv 0) (qv 2) (nomark _)))) (fun _ _ _ _ => (qe_ix (ixTK (K := K) rfl) (qe_ix (ixK (K := K) rfl) (qe_fldK (K := K) rfl (qv 1)) (qv 0) (fun _ _ => rfl)) qe_int (fun _ _ => rfl))))
    (qb_one (qs_ret (qe_callB (call_any rfl) rfl Cn.any PyProof.Rows.boot_any (qa_cons (qe_compG ["word", "self", "place"] [0, 2] (qi_listK (K := K) rfl (qe_op op_cat (qv 3) (qe_lst (qa_str qa_nil)))) (fun _ _ _ _ => qts_nil) (fun _ _ _ _ => (qe_meth (qv 1) T.cl cA.meth GA hr cA.bind .nil pass0 (qa_nm (qv 2) (qa_nm (qv 0) qa_nil))))) qa_nil))))), ?_⟩
  have hp := hpr r (List.mem_of_getElem? hn)
  obtain ⟨⟨hm, uk, hk, hok, hU⟩, hrows, hne⟩ := id hK
  obtain ⟨⟨dx, fs, h1, h2, hnf⟩, hnl'⟩ := id hN
  obtain ⟨as, b, hpl, hat, hR⟩ := part_at hrows hn
  refine ⟨_, rfl, p, C, dx, fs, .ref pl, rfl, h1, T.cl, T.nP, h2.parts, _, rfl, pl, _, _, .ref b, rfl, rfl, SqL.of hpl, hat, b, _, 1, _, rfl, rfl, hR, hp.at1, ?_⟩
  refine ⟨_, rfl, p, C, dx, fs, .ref D, rfl, h1, T.cl, T.nE, hnf, D, rfl, ⟨_, SqL.of hnl'⟩, ?_⟩
  obtain ⟨p', hp'⟩ : ∃ p' : V → Bool, p' = fun v => match v with | .int i => !decide (V.int i = V.int (n : Int)) | _ => false := ⟨_, rfl⟩
  obtain ⟨f', hf'⟩ : ∃ f' : V → V, f' = fun v => match v with | .int i => .str (place (Ps.getD i.toNat [])) | _ => .non := ⟨_, rfl⟩
  have pv : ∀ j : Nat, p' (natV j) = !decide (j = n) := fun j => by
    rw [hp']
    show (!decide (V.int (j : Int) = V.int (n : Int))) = _
    congr 1
    refine decide_eq_decide.mpr ⟨fun z => ?_, fun z => by rw [z]⟩
    have := V.int.inj z
    lia
  have fv : ∀ j : Nat, f' (natV j) = .str (place (Ps.getD j [])) := fun j => by
    rw [hf']
    show V.str (place (Ps.getD ((j : Int)).toNat [])) = _
    rw [Int.toNat_natCast]
  refine comp_map (ns.map natV) p' f' jseq_list (SqL.of hnl') (by rw [List.length_map]; exact le_line (by lia)) (fun x hx H2 e2 Q' q' => ?_) (fun x hx _ H2 e2 Q' q' => ?_) fun Do H1 hDo e1 hd1 => ?_
  · obtain ⟨j, hj, rfl⟩ := List.mem_map.mp hx
    have := q' H2 (Same.refl _)
    have e : p' (natV j) = !decide (V.int (j : Int) = V.int (n : Int)) := by rw [hp']; rfl
    rw [e] at this
    exact ⟨_, rfl, _, rfl, rfl, _, rfl, this⟩
  · obtain ⟨j, hj, rfl⟩ := List.mem_map.mp hx
    have hjl := hnl j hj
    have hs : Ps[j]? = some Ps[j] := List.getElem?_eq_getElem hjl
    obtain ⟨as2, b2, hpl2, hat2, hR2⟩ := part_at (hrows.same e2) hs
    have := q' H2 (Same.refl _)
    have e : f' (natV j) = .str (place Ps[j]) := by rw [fv, List.getD_eq_getElem?_getD, hs]; rfl
    rw [e] at this
    exact ⟨_, rfl, p, C, dx, fs, .ref pl, rfl, e2 _ _ h1, T.cl, T.nP, h2.parts, _, rfl, pl, _, _, .ref b2, rfl, rfl, SqL.of hpl2, hat2, b2, _, 1, _, rfl, rfl, hR2, (hpr _ (List.getElem_mem hjl)).at1, this⟩
  obtain ⟨ws, hws⟩ : ∃ ws : List Str, ws = (ns.filter fun j => !decide (j = n)).map fun j => place (Ps.getD j []) := ⟨_, rfl⟩
  have hd1' : H1 Do = some (.lst (ws.map V.str)) := by
    rw [hd1, hws, List.filter_map, List.map_map, List.map_map]
    rw [show (List.filter (p' ∘ natV) ns) = ns.filter fun j => !decide (j = n) from List.filter_congr fun j _ => pv j]
    congr 2
    exact List.map_congr_left fun j _ => fv j
  have hwl : ws.length ≤ 15 := by
    rw [hws, List.length_map]
    exact Nat.le_trans (List.length_filter_le _ _) hn15
  refine ⟨_, rfl, (show 1 ≤ sizeLine by decide), fun l1 hl1 => ?_⟩
  have s2 := same_new hl1 (.lst [.str "nil"])
  refine ⟨Do, l1, _, _, rfl, rfl, s2 _ _ hd1', upd_same, ?_, fun l2 hl2 => ⟨l2, rfl, ⟨_, SqL.of upd_same⟩, ?_⟩⟩
  · rw [List.length_map]; exact le_line (show ws.length + 1 ≤ 1000 by lia)
  have s3 := e1.trans (s2.trans (same_new hl2 (.lst (ws.map V.str ++ [.str "nil"]))))
  have hl2' : (upd (upd H1 l1 (.lst [.str "nil"])) l2 (.lst (ws.map V.str ++ [.str "nil"]))) l2 = some (.lst ((ws ++ [("nil" : Str)]).map V.str)) := by rw [upd_same, List.map_append]; rfl
  generalize upd (upd H1 l1 (.lst [.str "nil"])) l2 (.lst (ws.map V.str ++ [.str "nil"])) = H3 at s3 hl2' ⊢
  refine comp_all ((ws ++ [("nil" : Str)]).map V.str) (ws ++ [("nil" : Str)]) (fun x => decide (headF Fs (place r) = headF Fs x)) jseq_list (SqL.of hl2') (by rw [List.length_map, List.length_append, List.length_singleton]; lia) (by rw [List.length_map]) (fun i x y hx hy H4 e4 Q' q' => ?_) fun D4 H4 hD4 e4 hd4 => ?_
  · obtain rfl : x = .str y := by
      rw [List.getElem?_map, hy] at hx
      exact (Option.some.inj hx).symm
    have e34 := s3.trans e4
    refine ⟨_, rfl, p, dx, fs, rfl, e34 _ _ h1, h2.meth "alike" (by decide +kernel), _, rfl, _, rfl, p, pl, hd, un, fu, hm, uk, place r, y, rfl, hk.same e34, ?_⟩
    rw [hok.hd, hok.hd]
    exact q' H4 (Same.refl _)
  refine ⟨D4, (ws ++ [("nil" : Str)]).map (fun x => decide (headF Fs (place r) = headF Fs x)), rfl, SqL.of hd4, ?_⟩
  refine q _ H4 (s3.trans e4) ?_
  rw [List.any_map, List.any_eq_true]
  constructor
  · rintro ⟨x, hx, hc⟩
    have hc' := of_decide_eq_true hc
    rcases List.mem_append.mp hx with z | z
    · rw [hws] at z
      obtain ⟨j, hj, rfl⟩ := List.mem_map.mp z
      obtain ⟨hj1, hj2⟩ := List.mem_filter.mp hj
      have hjl := hnl j hj1
      have hs : Ps[j]? = some Ps[j] := List.getElem?_eq_getElem hjl
      refine .inl ⟨j, hj1, by simpa using hj2, _, hs, ?_⟩
      rw [hc', List.getD_eq_getElem?_getD, hs]; rfl
    · rw [List.mem_singleton.mp z] at hc'
      exact .inr hc'
  · rintro (⟨j, hj1, hj2, s, hs, hc⟩ | hc)
    · refine ⟨place s, List.mem_append.mpr (.inl ?_), decide_eq_true hc⟩
      rw [hws]
      exact List.mem_map.mpr ⟨j, List.mem_filter.mpr ⟨hj1, by simpa using hj2⟩, by rw [List.getD_eq_getElem?_getD, hs]; rfl⟩
    · exact ⟨"nil", List.mem_append.mpr (.inr (List.mem_singleton.mpr rfl)), decide_eq_true hc⟩
end
end K24
namespace K24
open PySem PySem.Spec L2 Mir Kn
noncomputable abbrev sOpenP : Stmt := top 7
inductive spEndsTS (K : PySem.W.Frag) (vs : List V) (H : Hp) (Q : VK) : Prop
  | mk (b : Addr) (r : List Str) (h0 : vs = [.ref b]) (h1 : RowAt K H b r) (h2 : PartRow r) (h3 : ∀ t H', Same H H' → H' t = some (.tup [.str (place r), .str (end2 r)]) → Q (.ref t) H') : spEndsTS K vs H Q
noncomputable def spEndsT (K : PySem.W.Frag) : Sp := fun vs H Q _ => spEndsTS K vs H Q
inductive spOpenES (K : PySem.W.Frag) (C : Addr) (vs : List V) (H : Hp) (Q : VK) : Prop
  | mk (p pl hd un fu D : Addr) (F P : List (List Str)) (L : List (Str × Str)) (Fl ns : List Nat) (h0 : vs = [.ref p]) (h1 : KnS K C H p pl hd un fu F P L) (h2 : NeAt C H p pl hd un fu D ns) (h3 : H fu = some (.dK (fk Fl))) (h4 : ns.length ≤ 15) (h5 : (∀ j ∈ ns, j < P.length)) (h6 : (∀ r ∈ P, PartRow r)) (h7 : (∀ H', Same H H' → (∀ j ∈ ns, ∀ r, P[j]? = some r → ¬ j ∈ Fl → ¬ SharesR F P ns j r) → Q .non H')) (h8 : ∀ j r t H', Same H H' → j ∈ ns → P[j]? = some r → (¬ j ∈ Fl) → SharesR F P ns j r → H' t = some (.tup [.str (place r), .str (end2 r)]) → Q (.ref t) H') : spOpenES K C vs H Q
noncomputable def spOpenE (K : PySem.W.Frag) (C : Addr) : Sp := fun vs H Q _ => spOpenES K C vs H Q
section
variable {P : Program} {w : World} {K : PySem.W.Frag} {mg : Str → Option Value} {base : Heap} {f C fI gE gS : Addr} {fd dE dS : FuncData}
theorem ok_endsT (F : Fun K "ends_of" "ends_of" sEndsOf f fd) : FnOk P w K mg base CX0 1 f fd ["part"] (spEndsT K) := by
  refine F.okQ scEnds (fun vs H Q E h => ?_) (fun cdv A outer s0 H vs Q E hr h => ?_)
  · obtain ⟨b, r, rfl, _⟩ := h; rfl
  obtain ⟨b, r, rfl, hR, hp, q⟩ := h
  refine ⟨_, (qb_one (qs_ret (qe_ifExp (qt_cmpR op_eq (qe_ix (ixTk (K := K) rfl) (qv 0) qe_int (fun _ _ => rfl)) qe_str (nomark _)) (qe_tup (qa_sub (qe_ix (ixTk (K := K) rfl) (qv 0) qe_int (fun _ _ => rfl)) (qa_sub (qe_ix (ixTk (K := K) rfl) (qv 0) qe_int (fun _ _ => rfl)) qa_nil))) (qe_tup (qa_sub (qe_ix (ixTk (K := K) rfl) (qv 0) qe_int (fun _ _ => rfl)) (qa_str qa_nil)))))), ?_⟩
  refine ⟨_, rfl, b, _, 0, _, rfl, rfl, hR, hp.at0, rfl, _, rfl, iteB (fun c => ?_) (fun c => ?_)⟩
  · have c' : r.getD 0 "" = "stretch" := by simpa using c
    obtain ⟨x, y, rfl⟩ : ∃ x y, r = [("stretch" : Str), x, y] := by
      rcases hp with ⟨a, f, s, rfl⟩ | z | ⟨a, rfl⟩
      · exact absurd c' (by show ¬ ("cell" : Str) = "stretch"; decide +kernel)
      · exact z
      · exact absurd c' (by show ¬ ("tree" : Str) = "stretch"; decide +kernel)
    refine ⟨_, rfl, b, _, 1, .str x, rfl, rfl, hR, rfl, _, rfl, b, _, 2, .str y, rfl, rfl, hR, rfl, (show 2 ≤ sizeLine by decide), fun t ht => ?_⟩
    exact q t _ (same_new ht _) upd_same
  · have c' : ¬ r.getD 0 "" = "stretch" := by simpa using c
    refine ⟨_, rfl, b, _, 1, _, rfl, rfl, hR, hp.at1, (show 2 ≤ sizeLine by decide), fun t ht => ?_⟩
    have e : end2 r = "nil" := by unfold end2; rw [if_neg c']
    refine q t _ (same_new ht _) ?_
    rw [e]
    exact upd_same
theorem scOpenE : FnScope ["self", "number"] ["self"] (defScope sOpenE) := ⟨rfl, rfl, rfl, by decide +kernel, rfl, by decide +kernel, by decide +kernel⟩
theorem ok_openE (T : Txt K mg C fI) (F : Fun K "open_ends" "Knowledge.open_ends" sOpenE f fd) (GE : FnOk P w K mg base CX0 1 gE dE ["part"] (spEndsT K)) (cE : Cal K mg "ends_of" gE dE ["part"])
    (GS : FnOk P w K mg base CX0 3 gS dS ["self", "number"] (spShares K C)) (cS : MCal K C "shares_place" gS dS ["self", "number"]) : FnOk P w K mg base CX0 4 f fd ["self"] (spOpenE K C) := by
  refine F.okQ scOpenE (fun vs H Q E h => ?_) (fun cdv A outer s0 H vs Q E hr h => ?_)
  · obtain ⟨p, pl, hd, un, fu, D, F, P, L, Fl, ns, rfl, _⟩ := h; rfl
  obtain ⟨p, pl, hd, un, fu, D, Fs, Ps, L, Fl, ns, rfl, hK, hN, hfu, hn15, hnl, hpr, qn, qt⟩ := h
  have nd := scOpenE.nd
  have hu1 := hu_of hr
  have hr1 := hr.mono (j := 1) (by lia)
  refine ⟨_, qb_cons (qs_for PassesOwn.never rfl (qi_listK (K := K) rfl (qe_fldK (K := K) rfl (qv 0))) (qg_name (i := 1) nd rfl (Or.inl rfl)) (qb_one (qs_if (QW.qt (qw_and (qt_dnotin hu1 (qv 1) (qe_fldK (K := K) rfl (qv 0))) (qw_and1 (qt_val (qe_meth (qv 0) T.cl cS.meth GS hr cS.bind .nil pass0 (qa_nm (qv 1) qa_nil)))))) (qb_one (qs_ret (qe_call GE hr1 rfl cE.name cE.keep cE.bind .nil pass0 (qa_sub (qe_ix (ixKk (K := K) rfl) (qe_fldK (K := K) rfl (qv 0)) (qv 1) (fun _ _ => rfl)) qa_nil)))) qb_nil)))
    (qb_one (qs_ret qe_non)), ?_⟩
  obtain ⟨⟨dx, fs, h1, h2, hnf⟩, hD⟩ := id hN
  refine ⟨_, rfl, p, C, dx, fs, .ref D, rfl, h1, T.cl, T.nE, hnf, D, rfl, ⟨_, SqL.of hD⟩, ?_⟩
  refine for_list (xs := ns.map natV) (fun i σ H2 => Same H H2 ∧ (∀ j ∈ ns.take i, ∀ r, Ps[j]? = some r → ¬ j ∈ Fl → ¬ SharesR Fs Ps ns j r) ∧ ∃ z1 : Option V, σ = [some (.ref p), z1])
    ⟨Same.refl _, (fun j hj => by simp at hj), none, rfl⟩ (fun i σ H2 _ pv => SqL.of (pv.1 _ _ hD)) ?_ ?_
  · rintro i x σ H2 hx ⟨e2, hno, z1, rfl⟩
    have hil : i < ns.length := by have := (List.getElem?_eq_some_iff.mp hx).1; rw [List.length_map] at this; exact this
    obtain rfl : x = .int ((ns[i] : Nat) : Int) := by
      rw [List.getElem?_map, List.getElem?_eq_getElem hil] at hx
      exact (Option.some.inj hx).symm
    have hin := List.getElem_mem hil
    have hjl := hnl _ hin
    have hs : Ps[ns[i]]? = some Ps[ns[i]] := List.getElem?_eq_getElem hjl
    have et : ns.take (i + 1) = ns.take i ++ [ns[i]] := by rw [List.take_add_one, List.getElem?_eq_getElem hil]; rfl
    have nxt : ∀ H3, Same H H3 → (¬ ns[i] ∈ Fl → ¬ SharesR Fs Ps ns ns[i] Ps[ns[i]]) → (Same H H3 ∧ (∀ j ∈ ns.take (i + 1), ∀ r, Ps[j]? = some r → ¬ j ∈ Fl → ¬ SharesR Fs Ps ns j r) ∧ ∃ z1 : Option V, [some (V.ref p), some (.int ((ns[i] : Nat) : Int))] = [some (.ref p), z1]) := fun H3 e3 h => by
      refine ⟨e3, fun j hj r hr hf => ?_, _, rfl⟩
      rw [et] at hj
      rcases List.mem_append.mp hj with z | z
      · exact hno j z r hr hf
      · have ej := List.mem_singleton.mp z
        subst ej
        rw [hs] at hr
        cases hr
        exact h hf
    have g := DGet.k (k := Sum.inl ((ns[i] : Nat) : Int)) (e2 _ _ hfu)
    refine ⟨_, rfl, _, rfl, p, C, dx, fs, .ref fu, rfl, e2 _ _ h1, T.cl, T.nF, h2.fulls, fu, _, rfl, g, _, rfl, ?_⟩
    rw [fk_val]
    refine iteB (fun c => ?_) (fun c => ?_)
    · have c' : ¬ ns[i] ∈ Fl := by simpa using c
      refine ⟨_, rfl, p, dx, fs, rfl, e2 _ _ h1, h2.meth "shares_place" (by decide +kernel), _, rfl, p, pl, hd, un, fu, D, Fs, Ps, L, ns, ns[i], _, rfl, hK.same e2, hN.same e2, hn15, hnl, hpr, hs, fun b H3 e3 hb => ⟨b, rfl, iteB (fun cb => ?_) (fun cb => nxt H3 (e2.trans e3) fun _ z => by have := hb.mpr z; rw [cb] at this; cases this)⟩⟩
      have e23 := e2.trans e3
      obtain ⟨as4, b4, hpl4, hat4, hR4⟩ := part_at (hK.parts.same e23) hs
      exact ⟨_, rfl, p, C, dx, fs, .ref pl, rfl, e23 _ _ h1, T.cl, T.nP, h2.parts, _, rfl, pl, _, _, .ref b4, rfl, rfl, SqL.of hpl4, hat4, b4, _, rfl, hR4, hpr _ (List.getElem_mem hjl), fun t H4 e4 hT => qt ns[i] _ t H4 (e23.trans e4) hin hs c' (hb.mp cb) hT⟩
    · have c' : ns[i] ∈ Fl := by simpa using c
      exact nxt H2 e2 fun z => absurd c' z
  · rintro σ H2 ⟨e2, hno, z1, rfl⟩
    rw [List.length_map, List.take_length] at hno
    exact qn H2 e2 hno
end
end K24
namespace K24
open PySem PySem.Spec L2 Mir Kn
noncomputable def neOf (F P : List (List Str)) : List Nat := (List.range P.length).filter fun n => !emptyB P (headF F) n
theorem neOf_mem {F P : List (List Str)} {j : Nat} {r : List Str} (h : P[j]? = some r) : j ∈ neOf F P ↔ ¬ EmptyR r (headF F) [] := by
  unfold neOf
  rw [List.mem_filter]
  constructor
  · rintro ⟨_, h2⟩ he
    have := emptyB_iff.mpr ⟨r, h, he⟩
    rw [this] at h2; cases h2
  · intro hn
    refine ⟨List.mem_range.mpr (List.getElem?_eq_some_iff.mp h).1, ?_⟩
    cases hz : emptyB P (headF F) j with
    | false => rfl
    | true =>
      obtain ⟨r', h1, h2⟩ := emptyB_iff.mp hz
      rw [h] at h1
      cases h1
      exact absurd h2 hn
inductive spOpenPS (K : PySem.W.Frag) (vs : List V) (H : Hp) (Q : VK) : Prop
  | mk (fl pl0 : Addr) (F P : List (List Str)) (h0 : vs = [.ref fl, .ref pl0]) (h1 : RowsAt K H fl F) (h2 : F.length ≤ 100) (h3 : (∀ r ∈ F, FactRow r)) (h4 : RowsAt K H pl0 P) (h5 : P.length ≤ 15) (h6 : (∀ r ∈ P, PartRow r)) (h7 : (∀ H', Same H H' → (∀ j r, P[j]? = some r → ¬ EmptyR r (headF F) [] → ¬ FullR (Un F P) r → ¬ SharesR F P (neOf F P) j r) → Q .non H')) (h8 : ∀ j r t H', Same H H' → P[j]? = some r → (¬ EmptyR r (headF F) []) → (¬ FullR (Un F P) r) → SharesR F P (neOf F P) j r → H' t = some (.tup [.str (place r), .str (end2 r)]) → Q (.ref t) H') : spOpenPS K vs H Q
noncomputable def spOpenP (K : PySem.W.Frag) : Sp := fun vs H Q _ => spOpenPS K vs H Q
section
variable {P : Program} {w : World} {K : PySem.W.Frag} {mg : Str → Option Value} {base : Heap} {f C fI gO : Addr} {fd dI dO : FuncData}
theorem scOpenP : FnScope ["facts", "parts"] ["facts", "parts"] (defScope sOpenP) := ⟨rfl, rfl, rfl, by decide +kernel, rfl, by decide +kernel, by decide +kernel⟩
theorem ok_openP (Cn : Con K mg w) (T : Txt K mg C fI) (F : Fun K "open_pair" "open_pair" sOpenP f fd) (GI : FnOk P w K mg base CX0 5 fI dI ["self", "facts", "parts"] (spInitP K C)) (bI : Binds K dI ["self", "facts", "parts"] [])
    (GO : FnOk P w K mg base CX0 4 gO dO ["self"] (spOpenE K C)) (cO : MCal K C "open_ends" gO dO ["self"]) : FnOk P w K mg base CX0 7 f fd ["facts", "parts"] (spOpenP K) := by
  refine F.okQ scOpenP (fun vs H Q E h => ?_) (fun cdv A outer s0 H vs Q E hr h => ?_)
  · obtain ⟨fl, pl0, F, P, rfl, _⟩ := h; rfl
  obtain ⟨fl, pl0, Fs, Ps, rfl, hF, hFl, hrow, hPP, hP15, hPr, qn, qt⟩ := h
  have hr4 := hr.mono (j := 4) (by lia)
  refine ⟨_, (qb_one (qs_ret (qe_meth0 (qe_make T.mkC GI hr rfl T.mgC bI .nil pass0 (qa_nm (qv 0) (qa_nm (qv 1) qa_nil))) T.cl cO.meth GO hr4 cO.bind .nil pass0))), ?_⟩
  refine ⟨_, rfl, _, rfl, fun x dx hx hdx hne => ?_⟩
  have s1 : Same H (upd (upd H dx (.own x)) x (.ins C dx [])) := fun b o hb => by rw [upd_ne (ne_of_none hb hx), upd_ne (ne_of_none hb hdx)]; exact hb
  refine ⟨x, dx, fl, pl0, Fs, Ps, rfl, upd_same, hF.same s1, hFl, hrow, hPP.same s1, hP15, hPr, fun pl hd un fu L Fl D dxx fss H2 k2 KS hfu A G hpx hnf KF hD hL => ⟨rfl, ?_⟩⟩
  have e2 : Same H H2 := fun b o hb => k2 b o (s1 _ _ hb) (fun z => by have z' : b = x := z; rw [z', hx] at hb; cases hb)
  have full : ∀ {j : Nat} {r : List Str}, Ps[j]? = some r → (j ∈ Fl ↔ FullR (Un Fs Ps) r) := fun {j r} h => ⟨fun z => by
    obtain ⟨r', h1, h2⟩ := G.isf j z
    rw [h] at h1
    cases h1
    exact h2, fun z => A.full j r h (z.mono fun a b u => un_told hrow A u)⟩
  have hne : neOf Fs Ps = (List.range Ps.length).filter fun n => !emptyB Ps (headF Fs) n := rfl
  have hNl : ∀ j ∈ neOf Fs Ps, j < Ps.length := fun j hj => List.mem_range.mp (List.mem_filter.mp hj).1
  have hN15 : (neOf Fs Ps).length ≤ 15 := by
    have := List.length_filter_le (fun n => !emptyB Ps (headF Fs) n) (List.range Ps.length)
    rw [List.length_range, ← hne] at this
    lia
  refine ⟨x, dxx, fss, rfl, hpx, KF.meth "open_ends" (by decide +kernel), x, pl, hd, un, fu, D, Fs, Ps, L, Fl, neOf Fs Ps, rfl, KS, ⟨⟨dxx, fss, hpx, KF, hnf⟩, hD⟩, hfu, hN15, hNl, hPr, fun H3 e3 hno => ?_, fun j r t H3 e3 hj hr hf hs hT => ?_⟩
  · exact qn H3 (e2.trans e3) fun j r hjr hem hfu' => hno j ((neOf_mem hjr).mpr hem) r hjr (fun z => hfu' ((full hjr).mp z))
  · exact qt j r t H3 (e2.trans e3) hr ((neOf_mem hr).mp hj) (fun z => hf ((full hr).mpr z)) hs hT
end
end K24
namespace L2
open PySem PySem.Spec
end L2
namespace L2
open PySem PySem.Spec
section
variable {X : Cx} {pins : List (Addr × Obj)} {σ : St} {H : Hp} {s : Shared} {a b : Addr} {A : Around} {E : Value → Shared → Prop}
theorem d_update {kvs more : List (Key × V)} {Q : Value → Shared → Prop} (I : Inv X pins σ H s) (e : H a = some (.dK kvs)) (e2 : H b = some (.dK more)) (hne : a ≠ b) (hl : kvs.length + more.length ≤ sizeLine)
    (h : ∀ s', Inv X pins σ (upd H a (.dK (mergeK kvs more))) s' → Q .none s') : wpAny (model X.prog X.w) A (call (.builtin "dict.update") [.ref a, .ref b]) Q E s := by
  obtain ⟨z, hd, vs, rel, dd⟩ := dk_of I.hok e
  obtain ⟨z2, hd2, vs2, rel2, dd2⟩ := dk_of I.hok e2
  refine call_meetsIn PySem.F.slot_dict_update dd.typeIs PySem.F.entry_dict_update (PySem.F.args_dict_update_2 _ _) (meets_dict_update (mixKind X.prog X.w) a b hne hd2) ⟨vs, vs2, dd, dd2, by rw [← rel.length, ← rel2.length]; exact hl, fun h' dd' _ hs => ?_⟩
  refine h _ ?_
  have he : ∃ q, h'.get? a = some q := let ⟨q, _, _, hq, _⟩ := dd'; ⟨q, hq⟩
  have hl2 : (mergeK kvs more).length ≤ sizeLine := by have := length_mergeK more kvs; lia
  exact d_write I (by rw [e]; exact True.intro) hs he (dk_new hl2 hd (rel2.merge rel) dd')
end
noncomputable def tDUpd (td ty : TE) : TE := fun σ H Q => td σ H fun x H1 => ∃ a, x = .ref a ∧ IsD H1 a ∧ ty σ H1 fun y H2 => ∃ b kvs more, y = .ref b ∧ H2 a = some (.dK kvs) ∧ H2 b = some (.dK more) ∧ a ≠ b ∧ kvs.length + more.length ≤ sizeLine ∧ Q .non (upd H2 a (.dK (mergeK kvs more)))
section
variable {X : Cx} {o e f : Expr} {apos cpos : Pos} {td ty tx : TE}
theorem pe_dupd (ho : PE X o td) (he : PE X e ty) (m : M1 X o "update" apos e cpos) : PE X (.Call (.Attribute o "update" apos) [e] [] cpos) (tDUpd td ty) := by
  intro pins s σ H Q I h
  refine wpAny_Call_method m.base m.few m.line PySem.F.plainAttrs_dict PySem.F.slot_dict_update PySem.F.type_dict_update (thn (ho pins s σ H _ I h) fun u s1 zq => ?_)
  obtain ⟨x, H1, I1, rx, a, ex, d, q1⟩ := zq
  subst ex
  obtain rfl : u = Value.ref a := rx
  obtain ⟨t1, t2, _⟩ := isD_at I1 d
  refine ⟨t1, t2, ?_⟩
  rw [m.trees]
  refine Calls.callWith_builtin rfl (Calls.evalArgs_plain (Calls.spliced_cons (thn (he pins s1 σ H1 _ I1 q1) fun iv s2 ⟨y, H2, I2, ry, b, kvs, more, ey, ea, eb, hne, hl, q2⟩ => Calls.spliced_nil ?_)))
  subst ey
  obtain rfl : iv = Value.ref b := ry
  exact d_update I2 ea eb hne hl fun s3 I3 => ⟨.non, _, I3, rfl, q2⟩
theorem qe_dupd (ho : QE X o td) (he : QE X e ty) (m : M1 X o "update" apos e cpos := by exact ⟨rfl, rfl, rfl, rfl⟩) : QE X (.Call (.Attribute o "update" apos) [e] [] cpos) (tDUpd td ty) := ⟨pe_dupd ho.run he.run m⟩
theorem qe_disp3 {pos : Pos} {k v k' v' k2 v2 : Expr} {tk tv tk' tv' tk2 tv2 : TE} (hk : QE X k tk) (hv : QE X v tv) (hk' : QE X k' tk') (hv' : QE X v' tv') (hk2 : QE X k2 tk2) (hv2 : QE X v2 tv2) : QE X (.Dict [some k, some k', some k2] [v, v', v2] pos) (tDisp [(tk, tv), (tk', tv'), (tk2, tv2)]) := ⟨pe_disp (pps_cons hk.run hv.run (pps_cons hk'.run hv'.run (pps_cons hk2.run hv2.run pps_nil))) rfl rfl (by simp) (by simp)⟩
end
end L2
namespace K24
open PySem PySem.Spec L2 Mir Kn
noncomputable abbrev sNumbered : Stmt := top 12
noncomputable abbrev sCellsOf : Stmt := top 13
noncomputable abbrev sStateOf : Stmt := top 14
noncomputable abbrev sExample : Stmt := top 15
noncomputable def ival (o : Option V) : Int := match o with | some (.int n) => n | _ => 0
noncomputable def Dom (zs : List Str) (x : Str) : Prop := x = "nil" ∨ x ∈ zs
structure NumOk (h : Str → Str) (zs : List Str) (kv : List (Key × V)) : Prop where
  at_ : ∀ x, Dom zs x → valV kv (Sum.inr x) = some (.int (ival (valV kv (Sum.inr x))))
  no : ∀ k, (valV kv k).isSome = true → ∃ x, k = Sum.inr x ∧ Dom zs x
  nil : valV kv (Sum.inr "nil") = some (.int 0)
  inj : ∀ x y, Dom zs x → Dom zs y → (valV kv (Sum.inr x) = valV kv (Sum.inr y) ↔ h x = h y)
  lt : ∀ x, Dom zs x → 0 ≤ ival (valV kv (Sum.inr x)) ∧ ival (valV kv (Sum.inr x)) ≤ zs.length
  len : kv.length ≤ zs.length + 1
structure NumI (h : Str → Str) (zs : List Str) (n : Nat) (kv kn : List (Key × V)) : Prop where
  s : ∀ x, Dom zs x → valV kv (Sum.inr x) = valV kn (Sum.inr (h x)) ∧ (valV kn (Sum.inr (h x))).isSome = true
  z : valV kn (Sum.inr (h "nil")) = some (.int 0)
  n1 : ∀ k v, valV kn k = some v → ∃ m : Nat, v = .int (m : Int) ∧ m < kn.length
  n2 : ∀ k k' v, valV kn k = some v → valV kn k' = some v → k = k'
  d : ∀ k, (valV kv k).isSome = true → ∃ x, k = Sum.inr x ∧ Dom zs x
  ln : kn.length ≤ n + 1
  lv : kv.length ≤ n + 1
theorem putK_new {kn : List (Key × V)} {k : Key} {v : V} (h : valV kn k = none) : putK kn k v = kn ++ [(k, v)] := by
  unfold putK
  rw [valV_any, h]
  rfl
theorem NumI.ok {h : Str → Str} {zs : List Str} {kv kn : List (Key × V)} (I : NumI h zs zs.length kv kn) : NumOk h zs kv := by
  have at0 : ∀ x, Dom zs x → ∃ m : Nat, valV kv (Sum.inr x) = some (.int (m : Int)) ∧ m ≤ zs.length := fun x hx => by
    obtain ⟨h1, h2⟩ := I.s x hx
    obtain ⟨v, hv⟩ := Option.isSome_iff_exists.mp h2
    obtain ⟨m, rfl, hm⟩ := I.n1 _ _ hv
    exact ⟨m, h1.trans hv, by have := I.ln; lia⟩
  refine ⟨fun x hx => ?_, I.d, ?_, fun x y hx hy => ?_, fun x hx => ?_, I.lv⟩
  · obtain ⟨m, hm, _⟩ := at0 x hx
    rw [hm]; rfl
  · rw [(I.s "nil" (.inl rfl)).1]; exact I.z
  · obtain ⟨h1, h2⟩ := I.s x hx
    obtain ⟨h3, h4⟩ := I.s y hy
    rw [h1, h3]
    constructor
    · intro e
      obtain ⟨v, hv⟩ := Option.isSome_iff_exists.mp h2
      exact Sum.inr.inj (I.n2 _ _ v hv (e ▸ hv))
    · intro e; rw [e]
  · obtain ⟨m, hm, hl⟩ := at0 x hx
    rw [hm]
    exact ⟨Int.natCast_nonneg m, Int.ofNat_le.mpr hl⟩
theorem NumI.step {h : Str → Str} {zs : List Str} {n : Nat} {kv kn : List (Key × V)} (I : NumI h zs n kv kn) (x : Str) (v : V) (hv : valV kn (Sum.inr (h x)) = some v) : NumI h (zs ++ [x]) (n + 1) (putK kv (Sum.inr x) v) kn := by
  refine ⟨fun y hy => ?_, I.z, I.n1, I.n2, fun k hk => ?_, by have := I.ln; lia, by have := length_putK kv (Sum.inr x) v; have := I.lv; lia⟩
  · rw [valV_put]
    by_cases e : y = x
    · subst e
      rw [if_pos rfl, hv]
      exact ⟨rfl, rfl⟩
    · rw [if_neg (fun z => e (Sum.inr.inj z))]
      refine I.s y ?_
      rcases hy with z | z
      · exact .inl z
      · rcases List.mem_append.mp z with w | w
        · exact .inr w
        · exact absurd (List.mem_singleton.mp w) e
  · rw [valV_put] at hk
    by_cases e : k = Sum.inr x
    · exact ⟨x, e, .inr (List.mem_append.mpr (.inr (List.mem_singleton.mpr rfl)))⟩
    · rw [if_neg e] at hk
      obtain ⟨y, h1, h2⟩ := I.d k hk
      exact ⟨y, h1, h2.imp id fun z => List.mem_append.mpr (.inl z)⟩
theorem NumI.more {h : Str → Str} {zs : List Str} {n : Nat} {kv kn : List (Key × V)} (I : NumI h zs n kv kn) (x : Str) (hv : valV kn (Sum.inr (h x)) = none) : NumI h zs (n + 1) kv (putK kn (Sum.inr (h x)) (.int (kn.length : Int))) := by
  have hl : (putK kn (Sum.inr (h x)) (.int (kn.length : Int))).length = kn.length + 1 := by rw [putK_new hv, List.length_append]; rfl
  have old : ∀ {k : Key} {v : V}, valV kn k = some v → valV (putK kn (Sum.inr (h x)) (.int (kn.length : Int))) k = some v := fun {k v} hk => by
    rw [valV_put, if_neg (fun z => by rw [z, hv] at hk; cases hk)]
    exact hk
  refine ⟨fun y hy => ?_, old I.z, fun k v hk => ?_, fun k k' v hk hk' => ?_, I.d, by have := I.ln; lia, by have := I.lv; lia⟩
  · obtain ⟨h1, h2⟩ := I.s y hy
    obtain ⟨v, hv'⟩ := Option.isSome_iff_exists.mp h2
    rw [old hv', h1]
    exact ⟨hv', rfl⟩
  · rw [valV_put] at hk
    by_cases e : k = Sum.inr (h x)
    · rw [if_pos e] at hk
      cases hk
      exact ⟨kn.length, rfl, by lia⟩
    · rw [if_neg e] at hk
      obtain ⟨m, h1, h2⟩ := I.n1 k v hk
      exact ⟨m, h1, by lia⟩
  · rw [valV_put] at hk hk'
    have no : ∀ k'', valV kn k'' ≠ some (.int (kn.length : Int)) := fun k'' z => by
      obtain ⟨m, h1, h2⟩ := I.n1 _ _ z
      have := V.int.inj h1
      lia
    by_cases e : k = Sum.inr (h x)
    · rw [if_pos e] at hk
      cases hk
      by_cases e' : k' = Sum.inr (h x)
      · rw [e, e']
      · rw [if_neg e'] at hk'
        exact absurd hk' (no k')
    · rw [if_neg e] at hk
      by_cases e' : k' = Sum.inr (h x)
      · rw [if_pos e'] at hk'
        cases hk'
        exact absurd hk (no k)
      · rw [if_neg e'] at hk'
        exact I.n2 k k' v hk hk'
inductive spNumberedS (C : Addr) (vs : List V) (H : Hp) (Q : VK) : Prop
  | mk (p nl pl hd un fu : Addr) (hm : List (Str × Str)) (uk : List (List Key × V)) (zs : List Str) (h : Str → Str) (h0 : vs = [.ref p, .ref nl]) (h1 : KnAt C H p pl hd un fu hm uk) (h2 : HeadsOk hm h) (h3 : H nl = some (.lst (zs.map V.str))) (h4 : zs.length ≤ 200) (h5 : ∀ d kv H', H d = none → Same H H' → H' d = some (.dK kv) → NumOk h zs kv → Q (.ref d) H') : spNumberedS C vs H Q
noncomputable def spNumbered (C : Addr) : Sp := fun vs H Q _ => spNumberedS C vs H Q
section
variable {P : Program} {w : World} {K : PySem.W.Frag} {mg : Str → Option Value} {base : Heap} {f C fI gH : Addr} {fd dH : FuncData}
theorem scNumbered : FnScope ["knowledge", "names", "numbers", "values", "name"] ["knowledge", "names"] (defScope sNumbered) := ⟨rfl, rfl, rfl, by decide +kernel, rfl, by decide +kernel, by decide +kernel⟩
theorem ok_numbered (Cn : Con K mg w) (T : Txt K mg C fI) (F : Fun K "numbered" "numbered" sNumbered f fd) (GH : FnOk P w K mg base CX0 1 gH dH ["self", "word"] (spHead C)) (cH : MCal K C "head" gH dH ["self", "word"]) : FnOk P w K mg base CX0 2 f fd ["knowledge", "names"] (spNumbered C) := by
  refine F.okQ scNumbered (fun vs H Q E h => ?_) (fun cdv A outer s0 H vs Q E hr h => ?_)
  · obtain ⟨p, nl, pl, hd, un, fu, hm, uk, zs, h, rfl, _⟩ := h; rfl
  obtain ⟨p, nl, pl, hd, un, fu, hm, uk, zs, h, rfl, hK, hok, hN, hz, q⟩ := h
  have nd := scNumbered.nd
  have hu1 := hu_of hr
  refine ⟨_, qb_cons (qs_set (i := 2) nd rfl (Or.inl rfl) (qe_disp1 (qe_meth (qv 0) T.cl cH.meth GH hr cH.bind .nil pass0 (qa_str qa_nil)) qe_int))
    (qb_cons (qs_set (i := 3) nd rfl (Or.inl rfl) (qe_disp1 qe_str qe_int))
    (qb_cons (qs_for PassesOwn.never rfl (qi_listK (K := K) rfl (qv 1)) (qg_name (i := 4) nd rfl (Or.inl rfl)) (qb_one (qs_dput hu1 (qv 3) (qv 4) (qe_dset (qv 2) (qe_meth (qv 0) T.cl cH.meth GH hr cH.bind .nil pass0 (qa_nm (qv 4) qa_nil)) (qe_callB call_lenD rfl Cn.len PySem.boot_len (qa_nm (qv 2) qa_nil))))))
    (qb_one (qs_ret (qv 3))))), ?_⟩
  obtain ⟨⟨dx, fs, h1, h2⟩, h3, h4⟩ := id hK
  intro dn hdn
  have s1 := same_new hdn (.dK [])
  refine ⟨_, rfl, p, dx, fs, rfl, s1 _ _ h1, h2.meth "head" (by decide +kernel), p, pl, hd, un, fu, hm, uk, "nil", rfl, hK.same s1, ?_⟩
  refine ⟨upd_same, [(Sum.inr (hdS hm "nil"), .int 0)], rfl, (show 1 ≤ 15 by decide), ?_⟩
  have s2 : Same H (upd (upd H dn (.dK [])) dn (.dK (mergeK [] [(Sum.inr (hdS hm "nil"), .int 0)]))) := same_put hdn s1 _
  have hn2 : (upd (upd H dn (.dK [])) dn (.dK (mergeK [] [(Sum.inr (hdS hm "nil"), .int 0)]))) dn = some (.dK [(Sum.inr (h "nil"), .int 0)]) := by
    rw [upd_same, hok.hd "nil"]; rfl
  generalize upd (upd H dn (.dK [])) dn (.dK (mergeK [] [(Sum.inr (hdS hm "nil"), .int 0)])) = H2 at s2 hn2 ⊢
  intro dv hdv
  have hne : dn ≠ dv := ne_of_none hn2 hdv
  have hdv0 : H dv = none := s2.free hdv
  refine ⟨upd_same, [(Sum.inr "nil", .int 0)], rfl, (show 1 ≤ 15 by decide), ?_⟩
  have s3 : Same H (upd (upd H2 dv (.dK [])) dv (.dK (mergeK [] [(Sum.inr "nil", .int 0)]))) := same_put hdv0 (same_put hdv0 s2 _) _
  have hv3 : (upd (upd H2 dv (.dK [])) dv (.dK (mergeK [] [(Sum.inr "nil", .int 0)]))) dv = some (.dK [(Sum.inr "nil", .int 0)]) := by rw [upd_same]; rfl
  have hn3 : (upd (upd H2 dv (.dK [])) dv (.dK (mergeK [] [(Sum.inr "nil", .int 0)]))) dn = some (.dK [(Sum.inr (h "nil"), .int 0)]) := by rw [upd_ne hne, upd_ne hne]; exact hn2
  generalize upd (upd H2 dv (.dK [])) dv (.dK (mergeK [] [(Sum.inr "nil", .int 0)])) = H3 at s3 hv3 hn3 ⊢
  have I0 : NumI h [] 0 [(Sum.inr "nil", .int 0)] [(Sum.inr (h "nil"), .int 0)] := by
    have one : ∀ {k j : Key} {v : V}, valV [(k, V.int 0)] j = some v → j = k ∧ v = .int 0 := fun {k j v} e => by
      by_cases c : k = j
      · rw [valV_pos (p := (k, V.int 0)) c] at e
        exact ⟨c.symm, (Option.some.inj e).symm⟩
      · rw [valV_neg (p := (k, V.int 0)) c] at e
        cases e
    have self : ∀ k : Key, valV [(k, V.int 0)] k = some (.int 0) := fun k => valV_pos (p := (k, V.int 0)) rfl
    refine ⟨fun x hx => ?_, self _, fun k v e => ?_, fun k k' v e e' => (one e).1.trans (one e').1.symm, fun k hk => ?_, Nat.le_refl _, Nat.le_refl _⟩
    · rcases hx with rfl | z
      · rw [self, self]; exact ⟨rfl, rfl⟩
      · cases z
    · exact ⟨0, (one e).2, Nat.zero_lt_one⟩
    · obtain ⟨v, hv⟩ := Option.isSome_iff_exists.mp hk
      exact ⟨"nil", (one hv).1, .inl rfl⟩
  refine ⟨_, rfl, nl, rfl, ⟨_, SqL.of (s3 _ _ hN)⟩, ?_⟩
  refine for_list (xs := zs.map V.str) (fun i σ H4 => Same H H4 ∧ Ex3 fun kv kn z4 => And4 (H4 dn = some (.dK kn)) (H4 dv = some (.dK kv)) (NumI h (zs.take i) i kv kn) (σ = [some (.ref p), some (.ref nl), some (.ref dn), some (.ref dv), z4]))
    ⟨s3, _, _, none, hn3, hv3, I0, rfl⟩ (fun i σ H4 _ pv => SqL.of (pv.1 _ _ hN)) ?_ ?_
  · rintro i x σ H4 hx ⟨e4, kv, kn, z4, hn4, hv4, I, rfl⟩
    have hil : i < zs.length := by have := (List.getElem?_eq_some_iff.mp hx).1; rw [List.length_map] at this; exact this
    obtain rfl : x = .str zs[i] := by
      rw [List.getElem?_map, List.getElem?_eq_getElem hil] at hx
      exact (Option.some.inj hx).symm
    have et : zs.take (i + 1) = zs.take i ++ [zs[i]] := by rw [List.take_add_one, List.getElem?_eq_getElem hil]; rfl
    have hkl : kn.length ≤ 1000 := by have := I.ln; lia
    have hvl : kv.length ≤ 1000 := by have := I.lv; lia
    have hK4 := hK.same e4
    refine ⟨_, rfl, dn, rfl, .inl ⟨_, .inl hn4⟩, _, rfl, p, dx, fs, rfl, e4 _ _ h1, h2.meth "head" (by decide +kernel), _, rfl, p, pl, hd, un, fu, hm, uk, zs[i], rfl, hK4, ?_⟩
    rw [hok.hd]
    refine ⟨_, rfl, dn, kn, rfl, hn4, kn, Sum.inr (h zs[i]), hn4, rfl, lt_line hkl, fun v hv => ?_, fun hv => ?_⟩
    · refine ⟨_, rfl, _, rfl, dv, _, rfl, DPut.k (k := Sum.inr zs[i]) hv4 (lt_line hvl), same_put hdv0 e4 _, _, kn, _, by rw [upd_ne hne]; exact hn4, upd_same, ?_, rfl⟩
      rw [et]
      exact I.step zs[i] v hv
    · have hdn0 : H dn = none := hdn
      have hv5 : (upd H4 dn (.dK (putK kn (Sum.inr (h zs[i])) (.int (kn.length : Int))))) dv = some (.dK kv) := by rw [upd_ne (Ne.symm hne)]; exact hv4
      refine ⟨_, rfl, _, rfl, dv, _, rfl, DPut.k (k := Sum.inr zs[i]) hv5 (lt_line hvl), same_put hdv0 (same_put hdn0 e4 _) _, _, _, _, by rw [upd_ne hne, upd_same], upd_same, ?_, rfl⟩
      rw [et]
      have J := I.more zs[i] hv
      have J2 := J.step zs[i] (.int (kn.length : Int)) (by rw [valV_put, if_pos rfl])
      exact ⟨J2.s, J2.z, J2.n1, J2.n2, J2.d, by have := I.ln; rw [putK_new hv, List.length_append, List.length_singleton]; lia, by have := I.lv; have := length_putK kv (Sum.inr zs[i]) (.int (kn.length : Int)); lia⟩
  · rintro σ H4 ⟨e4, kv, kn, z4, hn4, hv4, I, rfl⟩
    rw [List.length_map, List.take_length] at I
    exact ⟨_, rfl, q dv kv H4 hdv0 e4 hv4 I.ok⟩
end
end K24
namespace K24
open PySem PySem.Spec L2 Mir Kn
noncomputable def hv (hp : List (Int × Addr)) : List (Key × V) := hp.map fun p => (Sum.inl p.1, V.ref p.2)
abbrev Cells := List (Int × Int × Int)
noncomputable def CellsAt (K : PySem.W.Frag) (H : Hp) (hp : List (Int × Addr)) (cs : Cells) : Prop := Paired (fun p c => p.1 = c.1 ∧ SqT K H p.2 [.int c.2.1, .int c.2.2]) hp cs
theorem CellsAt.same {K : PySem.W.Frag} {H H' : Hp} {hp : List (Int × Addr)} {cs : Cells} (h : CellsAt K H hp cs) (e : Same H H') : CellsAt K H' hp cs := Paired.mapP h fun _ _ z => ⟨z.1, e.seqT z.2⟩
noncomputable def vI (kv : List (Key × V)) (x : Str) : Int := ival (valV kv (Sum.inr x))
noncomputable def gI (kv : List (Key × V)) (bs : Int) (x : Str) : Int := if (valV kv (Sum.inr x)).isSome = true then vI kv x else bs
noncomputable def IntsAt (kv : List (Key × V)) : Prop := ∀ x, valV kv (Sum.inr x) = none ∨ valV kv (Sum.inr x) = some (.int (vI kv x))
theorem IntsAt.get {kv : List (Key × V)} (h : IntsAt kv) (bs : Int) (x : Str) : (valV kv (Sum.inr x)).getD (.int bs) = .int (gI kv bs x) := by
  unfold gI
  rcases h x with z | z
  · rw [z]; rfl
  · rw [z]; rfl
theorem IntsAt.at_ {kv : List (Key × V)} (h : IntsAt kv) {x : Str} (hx : (valV kv (Sum.inr x)).isSome = true) : valV kv (Sum.inr x) = some (.int (vI kv x)) := by
  rcases h x with z | z
  · rw [z] at hx; cases hx
  · exact z
noncomputable def cellsF (kv : List (Key × V)) (bs s0 s1 : Int) (r : List Str) : Cells :=
  if r.getD 0 "" = "cell" then [(vI kv (place r), gI kv bs (r.getD 2 ""), gI kv bs (r.getD 3 ""))]
  else if r.getD 0 "" = "stretch" then [(vI kv (place r), bs, s0), (s0, bs, vI kv (r.getD 2 ""))]
  else [(vI kv (place r), s0, s1), (s0, 0, 0), (s1, 0, 0)]
theorem mergeK_new : ∀ (more kvs : List (Key × V)), ((kvs ++ more).map (·.1)).Nodup → mergeK kvs more = kvs ++ more
  | [], kvs, _ => (List.append_nil _).symm
  | p :: r, kvs, h => by
    have hn : valV kvs p.1 = none := by
      cases hz : valV kvs p.1 with
      | none => rfl
      | some v =>
        have hm := valV_in hz
        rw [List.map_append, List.nodup_append] at h
        exact absurd rfl (h.2.2 _ hm _ (List.mem_map.mpr ⟨p, List.mem_cons_self .., rfl⟩))
    show mergeK (putK kvs p.1 p.2) r = _
    rw [putK_new hn, mergeK_new r (kvs ++ [(p.1, p.2)]) (by rw [List.append_assoc]; exact h), List.append_assoc]
    rfl
inductive spCellsOfS (K : PySem.W.Frag) (vs : List V) (H : Hp) (Q : VK) : Prop
  | mk (b d sl : Addr) (bs s0 s1 : Int) (r : List Str) (kv : List (Key × V)) (h0 : vs = [.ref b, .ref d, .ref sl, .int bs]) (h1 : RowAt K H b r) (h2 : PartRow r) (h3 : H d = some (.dK kv)) (h4 : IntsAt kv) (h5 : H sl = some (.lst [.int s0, .int s1])) (h6 : (valV kv (Sum.inr (place r))).isSome = true) (h7 : (r.getD 0 "" = "stretch" → (valV kv (Sum.inr (r.getD 2 ""))).isSome = true)) (h8 : vI kv (place r) ≠ s0) (h9 : vI kv (place r) ≠ s1) (h10 : s0 ≠ s1) (h11 : ∀ D hp H', H D = none → Same H H' → H' D = some (.dK (hv hp)) → CellsAt K H' hp (cellsF kv bs s0 s1 r) → Q (.ref D) H') : spCellsOfS K vs H Q
noncomputable def spCellsOf (K : PySem.W.Frag) : Sp := fun vs H Q _ => spCellsOfS K vs H Q
section
variable {P : Program} {w : World} {K : PySem.W.Frag} {mg : Str → Option Value} {base : Heap} {f : Addr} {fd : FuncData}
theorem scCellsOf : FnScope ["part", "values", "spares", "beside", "place"] ["part", "values", "spares", "beside"] (defScope sCellsOf) := ⟨rfl, rfl, rfl, by decide +kernel, rfl, by decide +kernel, by decide +kernel⟩
theorem ok_cellsOf (F : Fun K "cells_of" "cells_of" sCellsOf f fd) : FnOk P w K mg base CX0 1 f fd ["part", "values", "spares", "beside"] (spCellsOf K) := by
  refine F.okQ scCellsOf (fun vs H Q E h => ?_) (fun cdv A outer s0 H vs Q E hr h => ?_)
  · obtain ⟨b, d, sl, bs, s0, s1, r, kv, rfl, _⟩ := h; rfl
  obtain ⟨b, d, sl, bs, s0, s1, r, kv, rfl, hR, hp, hD, hI, hS, hpl, hen, n0, n1, n2, q⟩ := h
  have nd := scCellsOf.nd
  have hu1 := hu_of hr
  refine ⟨_, qb_cons (qs_set (i := 4) nd rfl (Or.inl rfl) (qe_dget hu1 (qv 1) (qe_ix (ixTk (K := K) rfl) (qv 0) qe_int (fun _ _ => rfl)) (fun _ _ => rfl)))
    (qb_cons (qs_if (qt_cmpR op_eq (qe_ix (ixTk (K := K) rfl) (qv 0) qe_int (fun _ _ => rfl)) qe_str (nomark _)) (qb_one (qs_ret (qe_disp1 (qv 4) (qe_tup (qa_call (qe_dget2 hu1 (qv 1) (qe_ix (ixTk (K := K) rfl) (qv 0) qe_int (fun _ _ => rfl)) (qv 3)) (qa_call (qe_dget2 hu1 (qv 1) (qe_ix (ixTk (K := K) rfl) (qv 0) qe_int (fun _ _ => rfl)) (qv 3)) qa_nil)))))) qb_nil)
    (qb_cons (qs_if (qt_cmpR op_eq (qe_ix (ixTk (K := K) rfl) (qv 0) qe_int (fun _ _ => rfl)) qe_str (nomark _)) (qb_one (qs_ret (qe_disp2 (qv 4) (qe_tup (qa_nm (qv 3) (qa_sub (qe_ix (ixKk (K := K) rfl) (qv 2) qe_int (fun _ _ => rfl)) qa_nil))) (qe_ix (ixKk (K := K) rfl) (qv 2) qe_int (fun _ _ => rfl)) (qe_tup (qa_nm (qv 3) (qa_sub (qe_dget hu1 (qv 1) (qe_ix (ixTk (K := K) rfl) (qv 0) qe_int (fun _ _ => rfl)) (fun _ _ => rfl)) qa_nil)))))) qb_nil)
    (qb_one (qs_ret (qe_disp3 (qv 4) (qe_tup (qa_sub (qe_ix (ixKk (K := K) rfl) (qv 2) qe_int (fun _ _ => rfl)) (qa_sub (qe_ix (ixKk (K := K) rfl) (qv 2) qe_int (fun _ _ => rfl)) qa_nil))) (qe_ix (ixKk (K := K) rfl) (qv 2) qe_int (fun _ _ => rfl)) (qe_tup (qa_int (qa_int qa_nil))) (qe_ix (ixKk (K := K) rfl) (qv 2) qe_int (fun _ _ => rfl)) (qe_tup (qa_int (qa_int qa_nil)))))))), ?_⟩
  refine ⟨_, rfl, _, rfl, b, _, 1, _, rfl, rfl, hR, hp.at1, ?_⟩
  refine ⟨d, _, rfl, (hI.at_ hpl) ▸ DGet.k (k := Sum.inr (place r)) hD, ?_⟩
  refine ⟨_, rfl, b, _, 0, _, rfl, rfl, hR, hp.at0, rfl, _, rfl, iteB (fun c => ?_) (fun c => ?_)⟩
  · have c' : r.getD 0 "" = "cell" := by simpa using c
    obtain ⟨x, y, z, rfl⟩ : ∃ x y z, r = [("cell" : Str), x, y, z] := by
      rcases hp with z | ⟨x, y, rfl⟩ | ⟨a, rfl⟩
      · exact z
      · exact absurd c' (by show ¬ ("stretch" : Str) = "cell"; decide +kernel)
      · exact absurd c' (by show ¬ ("tree" : Str) = "cell"; decide +kernel)
    intro D hDn
    have e1 := same_new hDn (.dK [])
    refine ⟨_, rfl, _, rfl, d, rfl, .inl ⟨_, .inl (e1 _ _ hD)⟩, _, rfl, b, _, 2, .str y, rfl, rfl, e1.seqT hR, rfl, _, rfl, _, DGet.k (k := Sum.inr y) (e1 _ _ hD), ?_⟩
    refine ⟨_, rfl, d, rfl, .inl ⟨_, .inl (e1 _ _ hD)⟩, _, rfl, b, _, 3, .str z, rfl, rfl, e1.seqT hR, rfl, _, rfl, _, DGet.k (k := Sum.inr z) (e1 _ _ hD), ?_⟩
    rw [hI.get, hI.get]
    refine ⟨(show 2 ≤ sizeLine by decide), fun t ht => ?_⟩
    have e2 := same_new ht (.tup [.int (gI kv bs y), .int (gI kv bs z)])
    refine ⟨e2 _ _ upd_same, [(Sum.inl (vI kv (place [("cell" : Str), x, y, z])), .ref t)], rfl, (show 1 ≤ 15 by decide), ?_⟩
    refine q D [(vI kv (place [("cell" : Str), x, y, z]), t)] _ hDn (same_put hDn (e1.trans e2) _) (by rw [upd_same]; rfl) ?_
    have hcf : cellsF kv bs s0 s1 [("cell" : Str), x, y, z] = [(vI kv (place [("cell" : Str), x, y, z]), gI kv bs y, gI kv bs z)] := if_pos rfl
    rw [hcf]
    have htD : t ≠ D := fun w => by rw [w, upd_same] at ht; cases ht
    exact .cons ⟨rfl, SqT.of (by rw [upd_ne htD]; exact upd_same)⟩ .nil
  have c' : ¬ r.getD 0 "" = "cell" := by simpa using c
  refine ⟨_, rfl, b, _, 0, _, rfl, rfl, hR, hp.at0, rfl, _, rfl, iteB (fun c2 => ?_) (fun c2 => ?_)⟩
  · have c2' : r.getD 0 "" = "stretch" := by simpa using c2
    obtain ⟨x, y, rfl⟩ : ∃ x y, r = [("stretch" : Str), x, y] := by
      rcases hp with ⟨a, f, s, rfl⟩ | z | ⟨a, rfl⟩
      · exact absurd rfl c'
      · exact z
      · exact absurd c2' (by show ¬ ("tree" : Str) = "stretch"; decide +kernel)
    intro D hDn
    have e1 := same_new hDn (.dK [])
    refine ⟨_, rfl, _, rfl, _, rfl, sl, _, 0, .int s0, rfl, rfl, SqL.of (e1 _ _ hS), rfl, (show 2 ≤ sizeLine by decide), fun t1 ht1 => ?_⟩
    have e2 := same_new ht1 (.tup [.int bs, .int s0])
    have e12 := e1.trans e2
    refine ⟨_, rfl, sl, _, 0, .int s0, rfl, rfl, SqL.of (e12 _ _ hS), rfl, _, rfl, _, rfl, _, rfl, b, _, 2, .str y, rfl, rfl, e12.seqT hR, rfl, d, _, rfl, (hI.at_ (hen rfl)) ▸ DGet.k (k := Sum.inr y) (e12 _ _ hD), (show 2 ≤ sizeLine by decide), fun t2 ht2 => ?_⟩
    have e3 := same_new ht2 (.tup [.int bs, .int (vI kv y)])
    have e13 := e12.trans e3
    have hDD : H D = none := hDn
    have t1D : t1 ≠ D := fun z => by rw [z, upd_same] at ht1; cases ht1
    have t2D : t2 ≠ D := fun z => by rw [z, e2 _ _ upd_same] at ht2; cases ht2
    refine ⟨e3 _ _ (e2 _ _ upd_same), [(Sum.inl (vI kv x), .ref t1), (Sum.inl s0, .ref t2)], rfl, (show 2 ≤ 15 by decide), ?_⟩
    refine q D [(vI kv x, t1), (s0, t2)] _ hDn (same_put hDn e13 _) ?_ ?_
    · rw [upd_same, mergeK_new]
      · rfl
      · refine List.nodup_cons.mpr ⟨fun z => ?_, List.nodup_cons.mpr ⟨(by simp), .nil⟩⟩
        have z' : (Sum.inl (vI kv x) : Key) ∈ [(Sum.inl s0 : Key)] := z
        exact n0 (Sum.inl.inj (List.mem_singleton.mp z'))
    · have hcf : cellsF kv bs s0 s1 [("stretch" : Str), x, y] = [(vI kv x, bs, s0), (s0, bs, vI kv y)] := by
        unfold cellsF
        rw [if_neg c', if_pos c2']
        rfl
      rw [hcf]
      exact .cons ⟨rfl, SqT.of (by rw [upd_ne t1D]; exact e3 _ _ upd_same)⟩ (.cons ⟨rfl, SqT.of (by rw [upd_ne t2D]; exact upd_same)⟩ .nil)
  · have c2' : ¬ r.getD 0 "" = "stretch" := by simpa using c2
    intro D hDn
    have e1 := same_new hDn (.dK [])
    refine ⟨_, rfl, _, rfl, sl, _, 0, .int s0, rfl, rfl, SqL.of (e1 _ _ hS), rfl, _, rfl, sl, _, 1, .int s1, rfl, rfl, SqL.of (e1 _ _ hS), rfl, (show 2 ≤ sizeLine by decide), fun t1 ht1 => ?_⟩
    have e2 := same_new ht1 (.tup [.int s0, .int s1])
    have e12 := e1.trans e2
    refine ⟨_, rfl, sl, _, 0, .int s0, rfl, rfl, SqL.of (e12 _ _ hS), rfl, (show 2 ≤ sizeLine by decide), fun t2 ht2 => ?_⟩
    have e3 := same_new ht2 (.tup [.int 0, .int 0])
    have e13 := e12.trans e3
    refine ⟨_, rfl, sl, _, 1, .int s1, rfl, rfl, SqL.of (e13 _ _ hS), rfl, (show 2 ≤ sizeLine by decide), fun t3 ht3 => ?_⟩
    have e4 := same_new ht3 (.tup [.int 0, .int 0])
    have e14 := e13.trans e4
    have t1D : t1 ≠ D := fun z => by rw [z, upd_same] at ht1; cases ht1
    have t2D : t2 ≠ D := fun z => by rw [z, e2 _ _ upd_same] at ht2; cases ht2
    have t3D : t3 ≠ D := fun z => by rw [z, e3 _ _ (e2 _ _ upd_same)] at ht3; cases ht3
    refine ⟨e4 _ _ (e3 _ _ (e2 _ _ upd_same)), [(Sum.inl (vI kv (place r)), .ref t1), (Sum.inl s0, .ref t2), (Sum.inl s1, .ref t3)], rfl, (show 3 ≤ 15 by decide), ?_⟩
    refine q D [(vI kv (place r), t1), (s0, t2), (s1, t3)] _ hDn (same_put hDn e14 _) ?_ ?_
    · rw [upd_same, mergeK_new]
      · rfl
      · refine List.nodup_cons.mpr ⟨fun z => ?_, List.nodup_cons.mpr ⟨fun z => ?_, List.nodup_cons.mpr ⟨(by simp), .nil⟩⟩⟩
        · have z' : (Sum.inl (vI kv (place r)) : Key) ∈ [(Sum.inl s0 : Key), Sum.inl s1] := z
          rcases List.mem_cons.mp z' with y | y
          · exact n0 (Sum.inl.inj y)
          · exact n1 (Sum.inl.inj (List.mem_singleton.mp y))
        · have z' : (Sum.inl s0 : Key) ∈ [(Sum.inl s1 : Key)] := z
          exact n2 (Sum.inl.inj (List.mem_singleton.mp z'))
    · have hcf : cellsF kv bs s0 s1 r = [(vI kv (place r), s0, s1), (s0, 0, 0), (s1, 0, 0)] := by
        unfold cellsF
        rw [if_neg c', if_neg c2']
      rw [hcf]
      exact .cons ⟨rfl, SqT.of (by rw [upd_ne t1D]; exact e4 _ _ (e3 _ _ upd_same))⟩ (.cons ⟨rfl, SqT.of (by rw [upd_ne t2D]; exact e4 _ _ upd_same)⟩ (.cons ⟨rfl, SqT.of (by rw [upd_ne t3D]; exact upd_same)⟩ .nil))
end
end K24
namespace K24
open PySem PySem.Spec L2 Mir Kn
noncomputable def cellsN (kv : List (Key × V)) (bs : Int) (P : List (List Str)) (j : Nat) : Cells := cellsF kv bs (bs + 2 * (j : Int) + 1) (bs + 2 * (j : Int) + 2) (P.getD j [])
noncomputable def heapF (kv : List (Key × V)) (bs : Int) (P : List (List Str)) (ns : List Nat) : Cells := (ns.map (cellsN kv bs P)).flatten
theorem heapF_snoc (kv : List (Key × V)) (bs : Int) (P : List (List Str)) (ns : List Nat) (j : Nat) : heapF kv bs P (ns ++ [j]) = heapF kv bs P ns ++ cellsN kv bs P j := by
  unfold heapF
  rw [List.map_append, List.flatten_append]
  simp
theorem cellsF_mem {kv : List (Key × V)} {bs s0 s1 : Int} {r : List Str} {a : Int} (h : a ∈ (cellsF kv bs s0 s1 r).map (·.1)) : a = vI kv (place r) ∨ a = s0 ∨ a = s1 := by
  unfold cellsF at h
  split at h
  · exact .inl (List.mem_singleton.mp h)
  · split at h
    · rcases List.mem_cons.mp h with z | z
      · exact .inl z
      · exact .inr (.inl (List.mem_singleton.mp z))
    · rcases List.mem_cons.mp h with z | z
      · exact .inl z
      · rcases List.mem_cons.mp z with y | y
        · exact .inr (.inl y)
        · exact .inr (.inr (List.mem_singleton.mp y))
theorem cellsF_nodup {kv : List (Key × V)} {bs s0 s1 : Int} {r : List Str} (h0 : vI kv (place r) ≠ s0) (h1 : vI kv (place r) ≠ s1) (h2 : s0 ≠ s1) : ((cellsF kv bs s0 s1 r).map (·.1)).Nodup := by
  unfold cellsF
  split
  · simp
  · split
    · simp [h0]
    · simp [h0, h1, h2]
theorem cellsF_len (kv : List (Key × V)) (bs s0 s1 : Int) (r : List Str) : (cellsF kv bs s0 s1 r).length ≤ 3 := by
  unfold cellsF
  split
  · exact (show 1 ≤ 3 by decide)
  · split <;> simp
structure Places (kv : List (Key × V)) (bs : Int) (P : List (List Str)) (ns : List Nat) : Prop where
  nd : ns.Nodup
  lt : ∀ j ∈ ns, vI kv (place (P.getD j [])) < bs
  ne : ∀ i ∈ ns, ∀ j ∈ ns, i ≠ j → vI kv (place (P.getD i [])) ≠ vI kv (place (P.getD j []))
theorem heapF_nodup {kv : List (Key × V)} {bs : Int} {P : List (List Str)} : ∀ {ns : List Nat}, Places kv bs P ns → ((heapF kv bs P ns).map (·.1)).Nodup
  | [], _ => .nil
  | j :: ns, h => by
    have e : heapF kv bs P (j :: ns) = cellsN kv bs P j ++ heapF kv bs P ns := rfl
    have hj := List.mem_cons_self (a := j) (l := ns)
    obtain ⟨hd, hn⟩ := List.nodup_cons.mp h.nd
    have hl := h.lt j hj
    rw [e, List.map_append, List.nodup_append]
    refine ⟨cellsF_nodup (by lia) (by lia) (by lia), heapF_nodup ⟨hn, fun i hi => h.lt i (List.mem_cons_of_mem _ hi), fun i hi k hk => h.ne i (List.mem_cons_of_mem _ hi) k (List.mem_cons_of_mem _ hk)⟩, fun a ha b hb => ?_⟩
    obtain ⟨c, hc, rfl⟩ := List.mem_map.mp hb
    obtain ⟨l, hl', hc'⟩ := List.mem_flatten.mp hc
    obtain ⟨i, hi, rfl⟩ := List.mem_map.mp hl'
    have hij : i ≠ j := fun z => hd (z ▸ hi)
    have h1 := cellsF_mem ha
    have h2 := cellsF_mem (List.mem_map.mpr ⟨c, hc', rfl⟩)
    have h3 := h.ne j hj i (List.mem_cons_of_mem _ hi) (Ne.symm hij)
    have h4 := h.lt i (List.mem_cons_of_mem _ hi)
    lia
theorem heapF_len (kv : List (Key × V)) (bs : Int) (P : List (List Str)) : ∀ ns : List Nat, (heapF kv bs P ns).length ≤ 3 * ns.length
  | [] => Nat.le_refl _
  | j :: ns => by
    have e : heapF kv bs P (j :: ns) = cellsN kv bs P j ++ heapF kv bs P ns := rfl
    have h1 := heapF_len kv bs P ns
    have h2 := cellsF_len kv bs (bs + 2 * (j : Int) + 1) (bs + 2 * (j : Int) + 2) (P.getD j [])
    rw [e, List.length_append, List.length_cons]
    unfold cellsN
    lia
theorem CellsAt.keys {K : PySem.W.Frag} {H : Hp} {hp : List (Int × Addr)} {cs : Cells} (h : CellsAt K H hp cs) : hp.map (·.1) = cs.map (·.1) := by
  unfold CellsAt at h
  induction h with
  | nil => rfl
  | cons h t ih => rw [List.map_cons, List.map_cons, h.1, ih]
theorem hv_merge {hp hq : List (Int × Addr)} (h : ((hp ++ hq).map (·.1)).Nodup) : mergeK (hv hp) (hv hq) = hv (hp ++ hq) := by
  rw [mergeK_new]
  · unfold hv
    rw [List.map_append]
  · have e : ((hv hp ++ hv hq).map (·.1)) = ((hp ++ hq).map (·.1)).map (Sum.inl : Int → Key) := by
      unfold hv
      rw [← List.map_append, List.map_map, List.map_map]
      rfl
    rw [e]
    exact List.pairwise_map.mpr (List.Pairwise.imp (fun hab z => hab (Sum.inl.inj z)) h)
theorem sq_putD {K : PySem.W.Frag} {H : Hp} {l b : Addr} {kv kv' : List (Key × V)} {zs : List V} (hl : H l = some (.dK kv)) (h : SqT K H b zs) : SqT K (upd H l (.dK kv')) b zs := by
  rcases h with (h | ⟨o, h⟩) | h
  · exact .inl (.inl (by rw [upd_ne (fun z => by rw [z, hl] at h; cases h)]; exact h))
  · exact .inl (.inr ⟨o, by rw [upd_ne (fun z => by rw [z, hl] at h; cases h)]; exact h⟩)
  · exact .inr h
inductive spStateOfS (K : PySem.W.Frag) (C : Addr) (vs : List V) (H : Hp) (Q : VK) : Prop
  | mk (p nl am pl hd un fu D : Addr) (F P : List (List Str)) (L : List (Str × Str)) (ns : List Nat) (zs : List Str) (h0 : vs = [.ref p, .ref nl, .ref am]) (h1 : KnS K C H p pl hd un fu F P L) (h2 : NeAt C H p pl hd un fu D ns) (h3 : ns.length ≤ 15) (h4 : H nl = some (.lst (zs.map V.str))) (h5 : zs.length ≤ 200) (h6 : H am = some (.dK [])) (h7 : (∀ r ∈ P, PartRow r)) (h8 : (∀ j ∈ ns, j < P.length)) (h9 : ns.Nodup) (h10 : (∀ j ∈ ns, Dom zs (place (P.getD j [])) ∧ ((P.getD j []).getD 0 "" = "stretch" → Dom zs ((P.getD j []).getD 2 "")))) (h11 : (∀ i ∈ ns, ∀ j ∈ ns, i ≠ j → headF F (place (P.getD i [])) ≠ headF F (place (P.getD j [])))) (h12 : ∀ t d h kv hp H', Same H H' → H d = none → H h = none → d ≠ h → H' t = some (.tup [.ref d, .ref h]) → NumOk (headF F) zs kv → H' d = some (.dK (dropK kv (Sum.inr "nil"))) → H' h = some (.dK (hv hp)) → CellsAt K H' hp (heapF kv ((zs.length : Int) + 1) P ns) → Q (.ref t) H') : spStateOfS K C vs H Q
noncomputable def spStateOf (K : PySem.W.Frag) (C : Addr) : Sp := fun vs H Q _ => spStateOfS K C vs H Q
section
variable {P : Program} {w : World} {K : PySem.W.Frag} {mg : Str → Option Value} {base : Heap} {f C fI gN gO : Addr} {fd dN dO : FuncData}
theorem scStateOf : FnScope ["knowledge", "names", "amid", "values", "beside", "heap", "number", "spares"] ["knowledge", "names", "amid"] (defScope sStateOf) := ⟨rfl, rfl, rfl, by decide +kernel, rfl, by decide +kernel, by decide +kernel⟩
theorem ok_stateOf (Cn : Con K mg w) (T : Txt K mg C fI) (F : Fun K "state_of" "state_of" sStateOf f fd) (GN : FnOk P w K mg base CX0 2 gN dN ["knowledge", "names"] (spNumbered C)) (cN : Cal K mg "numbered" gN dN ["knowledge", "names"])
    (GO : FnOk P w K mg base CX0 1 gO dO ["part", "values", "spares", "beside"] (spCellsOf K)) (cO : Cal K mg "cells_of" gO dO ["part", "values", "spares", "beside"]) : FnOk P w K mg base CX0 3 f fd ["knowledge", "names", "amid"] (spStateOf K C) := by
  refine F.okQ scStateOf (fun vs H Q E h => ?_) (fun cdv A outer s0 H vs Q E hr h => ?_)
  · obtain ⟨p, nl, am, pl, hd, un, fu, D, F, P, L, ns, zs, rfl, _⟩ := h; rfl
  obtain ⟨p, nl, am, pl, hd, un, fu, D, Fs, Ps, L, ns, zs, rfl, hK, hN, hn15, hNl, hz, hA, hpr, hnl, hnd, hdom, hdis, q⟩ := h
  have nd := scStateOf.nd
  have hu1 := hu_of hr
  have hr1 := hr.mono (j := 1) (by lia)
  refine ⟨_, qb_cons (qs_set (i := 3) nd rfl (Or.inl rfl) (qe_call GN hr rfl cN.name cN.keep cN.bind .nil pass0 (qa_nm (qv 0) (qa_nm (qv 1) qa_nil))))
    (qb_cons (qs_set (i := 4) nd rfl (Or.inl rfl) (qe_op op_add (qe_callB (lenKk (K := K) rfl) rfl Cn.len PySem.boot_len (qa_nm (qv 1) qa_nil)) qe_int))
    (qb_cons (qs_set (i := 5) nd rfl (Or.inl rfl) qe_dnew)
    (qb_cons (qs_for PassesOwn.never rfl (qi_listK (K := K) rfl (qe_fldK (K := K) rfl (qv 0))) (qg_name (i := 6) nd rfl (Or.inl rfl)) (qb_cons (qs_set (i := 7) nd rfl (Or.inl rfl) (qe_lst (qa_bop (qe_op op_add (qe_op op_add (qv 4) (qe_op op_mul qe_int (qv 6))) qe_int) (qa_bop (qe_op op_add (qe_op op_add (qv 4) (qe_op op_mul qe_int (qv 6))) qe_int) qa_nil))))
    (qb_cons (qs_if (qt_din hu1 (qv 6) (qv 2)) (qb_one (qs_asg (qe_dget hu1 (qv 3) (qe_dget hu1 (qv 2) (qv 6) (fun _ _ => rfl)) (fun _ _ => rfl)) (qg_sub (qv 7) qe_int set_list))) qb_nil)
    (qb_one (qs_expr (qe_dupd (qv 5) (qe_call GO hr1 rfl cO.name cO.keep cO.bind .nil pass0 (qa_sub (qe_ix (ixKk (K := K) rfl) (qe_fldK (K := K) rfl (qv 0)) (qv 6) (fun _ _ => rfl)) (qa_nm (qv 3) (qa_nm (qv 7) (qa_nm (qv 4) qa_nil)))))))))))
    (qb_cons (qs_expr (qe_dpop1 (qv 3) qe_str))
    (qb_one (qs_ret (qe_tup (qa_nm (qv 3) (qa_nm (qv 5) qa_nil))))))))), ?_⟩
  obtain ⟨⟨hm, uk, hkn, hho, hU⟩, hrows, hne⟩ := id hK
  refine ⟨_, rfl, _, rfl, p, nl, pl, hd, un, fu, hm, uk, zs, headF Fs, rfl, hkn, hho, hNl, hz, fun d kv H1 hd0 e1 hd1 hok => ?_⟩
  have hzl : ((zs.map V.str).length : Int) = (zs.length : Int) := by rw [List.length_map]
  refine ⟨_, rfl, nl, _, rfl, .inl (SqL.of (e1 _ _ hNl)), _, _, rfl, rfl, ?_⟩
  rw [hzl]
  obtain ⟨bs, hbs⟩ : ∃ bs : Int, (zs.length : Int) + 1 = bs := ⟨_, rfl⟩
  rw [hbs] at q
  show gName 4 (V.int ((zs.length : Int) + 1)) _ H1 _
  rw [hbs]
  intro h hh
  have hdh : d ≠ h := ne_of_none hd1 hh
  have hh0 : H h = none := e1.free hh
  have s2 := same_new hh (.dK [])
  have e2 := e1.trans s2
  have hd2 : (upd H1 h (.dK [])) d = some (.dK kv) := s2 _ _ hd1
  have hh2 : (upd H1 h (.dK [])) h = some (.dK (hv [])) := upd_same
  generalize upd H1 h (.dK []) = H2 at e2 hd2 hh2 ⊢
  have hIn : IntsAt kv := fun x => by
    cases hz : valV kv (Sum.inr x) with
    | none => exact .inl rfl
    | some v =>
      obtain ⟨y, h1, h2⟩ := hok.no (Sum.inr x) (by rw [hz]; rfl)
      cases Sum.inr.inj h1
      have := hok.at_ x h2
      unfold vI
      rw [← hz]
      exact .inr this
  have hlt : ∀ x, Dom zs x → vI kv x < bs := fun x hx => by have := (hok.lt x hx).2; unfold vI; lia
  have hPl : Places kv bs Ps ns := ⟨hnd, fun j hj => hlt _ (hdom j hj).1, fun i hi j hj hij z => hdis i hi j hj hij (by
    have h1 := hok.at_ _ (hdom i hi).1
    have h2 := hok.at_ _ (hdom j hj).1
    refine (hok.inj _ _ (hdom i hi).1 (hdom j hj).1).mp ?_
    rw [h1, h2]
    unfold vI at z
    rw [z])⟩
  obtain ⟨⟨dx, fs, h1, h2, hnf⟩, hD⟩ := id hN
  refine ⟨_, rfl, p, C, dx, fs, .ref D, rfl, e2 _ _ h1, T.cl, T.nE, hnf, D, rfl, ⟨_, SqL.of (e2 _ _ hD)⟩, ?_⟩
  refine for_list (xs := ns.map natV) (fun i σ H3 => Same H H3 ∧ H3 d = some (.dK kv) ∧ Ex3 fun hp z6 z7 => And3 (H3 h = some (.dK (hv hp))) (CellsAt K H3 hp (heapF kv bs Ps (ns.take i))) (σ = [some (.ref p), some (.ref nl), some (.ref am), some (.ref d), some (.int bs), some (.ref h), z6, z7]))
    ⟨e2, hd2, [], none, none, hh2, .nil, rfl⟩ (fun i σ H3 _ pv => SqL.of (pv.1 _ _ hD)) ?_ ?_
  · rintro i x σ H3 hx ⟨e3, hd3, hp, z6, z7, hh3, hC3, rfl⟩
    have hil : i < ns.length := by have := (List.getElem?_eq_some_iff.mp hx).1; rw [List.length_map] at this; exact this
    obtain rfl : x = .int ((ns[i] : Nat) : Int) := by
      rw [List.getElem?_map, List.getElem?_eq_getElem hil] at hx
      exact (Option.some.inj hx).symm
    have hin := List.getElem_mem hil
    have hjl := hnl _ hin
    have hs : Ps[ns[i]]? = some Ps[ns[i]] := List.getElem?_eq_getElem hjl
    have hg : Ps.getD ns[i] [] = Ps[ns[i]] := by rw [List.getD_eq_getElem?_getD, hs]; rfl
    have et : ns.take (i + 1) = ns.take i ++ [ns[i]] := by rw [List.take_add_one, List.getElem?_eq_getElem hil]; rfl
    refine ⟨_, rfl, _, rfl, _, _, rfl, rfl, .inl (by decide), _, _, rfl, rfl, _, _, rfl, rfl, _, rfl, _, rfl, _, _, rfl, rfl, .inl (by decide), _, _, rfl, rfl, _, _, rfl, rfl, (show 2 ≤ sizeLine by decide), fun sl hsl => ?_⟩
    have s4 := same_new hsl (.lst [.int (bs + 2 * ((ns[i] : Nat) : Int) + 1), .int (bs + 2 * ((ns[i] : Nat) : Int) + 2)])
    have e4 := e3.trans s4
    have hd4 := s4 _ _ hd3
    have hh4 := s4 _ _ hh3
    have hS4 : (upd H3 sl (.lst [.int (bs + 2 * ((ns[i] : Nat) : Int) + 1), .int (bs + 2 * ((ns[i] : Nat) : Int) + 2)])) sl = some (.lst [.int (bs + 2 * ((ns[i] : Nat) : Int) + 1), .int (bs + 2 * ((ns[i] : Nat) : Int) + 2)]) := upd_same
    have hC4 := hC3.same s4
    clear hd3 hh3 hC3
    generalize upd H3 sl (.lst [.int (bs + 2 * ((ns[i] : Nat) : Int) + 1), .int (bs + 2 * ((ns[i] : Nat) : Int) + 2)]) = H4 at e4 hd4 hh4 hS4 hC4 ⊢
    refine ⟨_, rfl, _, rfl, am, _, rfl, DGet.k (k := Sum.inl ((ns[i] : Nat) : Int)) (e4 _ _ hA), _, rfl, iteN rfl ?_⟩
    obtain ⟨as5, b5, hpl5, hat5, hR5⟩ := part_at (hrows.same e4) hs
    have hdm := hdom _ hin
    have hlt' := hPl.lt _ hin
    rw [hg] at hdm hlt'
    have hsm : ∀ x, Dom zs x → (valV kv (Sum.inr x)).isSome = true := fun x hx => by rw [hok.at_ x hx]; rfl
    refine ⟨_, rfl, h, rfl, .inl ⟨_, .inl hh4⟩, _, rfl, p, C, dx, fs, .ref pl, rfl, e4 _ _ h1, T.cl, T.nP, h2.parts, _, rfl, pl, _, _, .ref b5, rfl, rfl, SqL.of hpl5, hat5, _, rfl, _, rfl, _, rfl, b5, d, sl, bs, _, _, _, kv, rfl, hR5, hpr _ (List.getElem_mem hjl), hd4, hIn, hS4, hsm _ hdm.1, (fun z => hsm _ (hdm.2 z)), (by lia), (by lia), (by lia), fun D5 hq H5 hD5 e5 hd5 hC5 => ?_⟩
    have hcn : cellsN kv bs Ps ns[i] = cellsF kv bs (bs + 2 * ((ns[i] : Nat) : Int) + 1) (bs + 2 * ((ns[i] : Nat) : Int) + 2) Ps[ns[i]] := by unfold cellsN; rw [hg]
    have hC45 : CellsAt K H5 (hp ++ hq) (heapF kv bs Ps (ns.take (i + 1))) := by
      rw [et, heapF_snoc, hcn]
      exact Paired.app (hC4.same e5) hC5
    have hnd5 : ((hp ++ hq).map (·.1)).Nodup := by
      rw [hC45.keys]
      exact heapF_nodup ⟨List.Sublist.nodup (List.take_sublist _ _) hnd, fun j hj => hPl.lt j (List.mem_of_mem_take hj), fun a ha b hb => hPl.ne a (List.mem_of_mem_take ha) b (List.mem_of_mem_take hb)⟩
    have hl5 : (hv hp).length + (hv hq).length ≤ 1000 := by
      have z1 := Paired.length hC45
      have z2 := heapF_len kv bs Ps (ns.take (i + 1))
      have z3 : (ns.take (i + 1)).length ≤ 15 := by rw [List.length_take]; lia
      unfold hv
      rw [List.length_map, List.length_map]
      rw [List.length_append] at z1
      lia
    have hhD : h ≠ D5 := ne_of_none hh4 hD5
    refine ⟨D5, _, _, rfl, e5 _ _ hh4, hd5, hhD, Nat.le_of_lt (lt_line hl5), ?_⟩
    rw [hv_merge hnd5]
    refine ⟨same_put hh0 (e4.trans e5) _, by rw [upd_ne hdh]; exact e5 _ _ hd4, _, _, _, upd_same, ?_, rfl⟩
    exact Paired.mapP hC45 fun a c z => ⟨z.1, sq_putD (e5 _ _ hh4) z.2⟩
  · rintro σ H3 ⟨e3, hd3, hp, z6, z7, hh3, hC3, rfl⟩
    rw [List.length_map, List.take_length] at hC3
    refine ⟨_, rfl, d, rfl, .inl ⟨_, .inl hd3⟩, kv, Sum.inr "nil", .int 0, hd3, rfl, hok.nil, ?_⟩
    refine ⟨_, rfl, _, rfl, (show 2 ≤ sizeLine by decide), fun t ht => ?_⟩
    have hh4 : (upd H3 d (.dK (dropK kv (Sum.inr "nil")))) h = some (.dK (hv hp)) := by rw [upd_ne (Ne.symm hdh)]; exact hh3
    have e4 : Same H (upd H3 d (.dK (dropK kv (Sum.inr "nil")))) := same_put hd0 e3 _
    have hC4 : CellsAt K (upd H3 d (.dK (dropK kv (Sum.inr "nil")))) hp (heapF kv bs Ps ns) := Paired.mapP hC3 fun a c z => ⟨z.1, sq_putD hd3 z.2⟩
    have s5 := same_new ht (.tup [.ref d, .ref h])
    exact q t d h kv hp _ (e4.trans s5) hd0 hh0 hdh upd_same hok (s5 _ _ upd_same) (s5 _ _ hh4) (hC4.same s5)
end
end K24
namespace K24
open PySem PySem.Spec L2 Mir Kn
noncomputable def Apart (F P : List (List Str)) : Prop := ∀ i ∈ neOf F P, ∀ j ∈ neOf F P, i ≠ j → headF F (place (P.getD i [])) ≠ headF F (place (P.getD j []))
noncomputable def Word (x : Str) : Prop := x = "nil" ∨ ¬ x ∈ Mir.noNames
structure Ex (K : PySem.W.Frag) (H : Hp) (F P : List (List Str)) (zs : List Str) (d h : Addr) (kv : List (Key × V)) (ws : List Str) (hp : List (Int × Addr)) : Prop where
  ok : NumOk (headF F) ws kv
  mem : ∀ y, y ∈ ws ↔ y ∈ words (F ++ P) ∨ y ∈ zs
  vals : H d = some (.dK (dropK kv (Sum.inr "nil")))
  heap : H h = some (.dK (hv hp))
  cells : CellsAt K H hp (heapF kv ((ws.length : Int) + 1) P (neOf F P))
  few : ws.length ≤ 200
inductive spExampleS (K : PySem.W.Frag) (vs : List V) (H : Hp) (Q : VK) : Prop
  | mk (fl pl0 nl : Addr) (F P : List (List Str)) (zs : List Str) (h0 : vs = [.ref fl, .ref pl0, .ref nl]) (h1 : RowsAt K H fl F) (h2 : F.length ≤ 100) (h3 : (∀ r ∈ F, FactRow r)) (h4 : RowsAt K H pl0 P) (h5 : P.length ≤ 15) (h6 : (∀ r ∈ P, PartRow r)) (h7 : ShortRows F) (h8 : ShortRows P) (h9 : (∀ ss : List Str, ss.Nodup → (∀ y ∈ ss, y ∈ words (F ++ P)) → ss.length < 64)) (h10 : H nl = some (.lst (zs.map V.str))) (h11 : zs.length ≤ 100) (h12 : Apart F P) (h13 : (∀ r ∈ P, Word (place r) ∧ (r.getD 0 "" = "stretch" → Word (r.getD 2 "")))) (h14 : ∀ t d h kv ws hp H', Same H H' → H d = none → H h = none → d ≠ h → H' t = some (.tup [.ref d, .ref h]) → Ex K H' F P zs d h kv ws hp → Q (.ref t) H') : spExampleS K vs H Q
noncomputable def spExample (K : PySem.W.Frag) : Sp := fun vs H Q _ => spExampleS K vs H Q
section
variable {P : Program} {w : World} {K : PySem.W.Frag} {mg : Str → Option Value} {base : Heap} {f C fI gN gS : Addr} {fd dI dN dS : FuncData}
theorem scExample : FnScope ["facts", "parts", "names"] ["facts", "parts", "names"] (defScope sExample) := ⟨rfl, rfl, rfl, by decide +kernel, rfl, by decide +kernel, by decide +kernel⟩
theorem ok_example (Cn : Con K mg w) (T : Txt K mg C fI) (F : Fun K "example" "example" sExample f fd) (GI : FnOk P w K mg base CX0 5 fI dI ["self", "facts", "parts"] (spInitP K C)) (bI : Binds K dI ["self", "facts", "parts"] [])
    (GN : FnOk P w K mg base CX0 1 gN dN ["telling"] (spNmOf K)) (cN : Cal K mg "names_of" gN dN ["telling"])
    (GS : FnOk P w K mg base CX0 3 gS dS ["knowledge", "names", "amid"] (spStateOf K C)) (cS : Cal K mg "state_of" gS dS ["knowledge", "names", "amid"]) : FnOk P w K mg base CX0 7 f fd ["facts", "parts", "names"] (spExample K) := by
  refine F.okQ scExample (fun vs H Q E h => ?_) (fun cdv A outer s0 H vs Q E hr h => ?_)
  · obtain ⟨fl, pl0, nl, F, P, zs, rfl, _⟩ := h; rfl
  obtain ⟨fl, pl0, nl, Fs, Ps, zs, rfl, hF, hFl, hrow, hPP, hP15, hPr, hsF, hsP, h64, hN, hz, hAp, hwd, q⟩ := h
  have hr1 := hr.mono (j := 1) (by lia)
  have hr3 := hr.mono (j := 3) (by lia)
  refine ⟨_, (qb_one (qs_ret (qe_call GS hr3 rfl cS.name cS.keep cS.bind .nil pass0 (qa_call (qe_make T.mkC GI hr rfl T.mgC bI .nil pass0 (qa_nm (qv 0) (qa_nm (qv 1) qa_nil))) (qa_bop (qe_op op_cat (qe_call GN hr1 rfl cN.name cN.keep cN.bind .nil pass0 (qa_tp (qa_nm (qv 0) (qa_nm (qv 1) qa_nil)) qa_nil)) (qv 2)) (qa_cons qe_dnew qa_nil)))))), ?_⟩
  refine ⟨_, rfl, _, rfl, fun x dx hx hdx hne => ?_⟩
  have s1 : Same H (upd (upd H dx (.own x)) x (.ins C dx [])) := fun b o hb => by rw [upd_ne (ne_of_none hb hx), upd_ne (ne_of_none hb hdx)]; exact hb
  refine ⟨x, dx, fl, pl0, Fs, Ps, rfl, upd_same, hF.same s1, hFl, hrow, hPP.same s1, hP15, hPr, fun pl hd un fu L Fl D dxx fss H2 k2 KS hfu A G hpx hnf KF hD hL => ⟨rfl, ?_⟩⟩
  have e2 : Same H H2 := fun b o hb => k2 b o (s1 _ _ hb) (fun z => by have z' : b = x := z; rw [z', hx] at hb; cases hb)
  refine ⟨_, rfl, _, rfl, (show 2 ≤ sizeLine by decide), fun t2 ht2 => ?_⟩
  have s3 := same_new ht2 (.tup [.ref fl, .ref pl0])
  have e3 := e2.trans s3
  have hT3 : TellAt K (upd H2 t2 (.tup [.ref fl, .ref pl0])) t2 [Fs, Ps] := ⟨[fl, pl0], SqT.of upd_same, .cons (hF.same e3) (.cons (hPP.same e3) .nil)⟩
  generalize upd H2 t2 (.tup [.ref fl, .ref pl0]) = H3 at s3 e3 hT3 ⊢
  have hnee : ∀ r ∈ Fs ++ Ps, r ≠ [] := fun r hr' => by
    rcases List.mem_append.mp hr' with z | z
    · obtain ⟨k, u, v, rfl, _⟩ := hrow r z
      exact List.cons_ne_nil _ _
    · rcases hPr r z with ⟨a, b, c, rfl⟩ | ⟨a, b, rfl⟩ | ⟨a, rfl⟩ <;> exact List.cons_ne_nil _ _
  refine ⟨t2, Fs, Ps, rfl, hT3, hsF, hsP, hnee, h64, fun p ys H4 hp0 e4 hp4 hnd hys _ => ?_⟩
  have e34 := e3.trans e4
  have hy64 := h64 ys hnd fun y hy => (hys y).mp hy
  refine ⟨_, rfl, p, nl, _, _, rfl, rfl, hp4, e34 _ _ hN, ?_, fun p2 hp2 => ?_⟩
  · rw [List.length_map, List.length_map]; exact Nat.le_of_lt (lt_line (by lia))
  intro am ham
  have s5 := same_new hp2 (.lst (ys.map V.str ++ zs.map V.str))
  have s6 := same_new ham (.dK [])
  have hp6 : (upd (upd H4 p2 (.lst (ys.map V.str ++ zs.map V.str))) am (.dK [])) p2 = some (.lst ((ys ++ zs).map V.str)) := by rw [List.map_append]; exact s6 _ _ upd_same
  have ha6 : (upd (upd H4 p2 (.lst (ys.map V.str ++ zs.map V.str))) am (.dK [])) am = some (.dK []) := upd_same
  have e26 := ((s3.trans e4).trans s5).trans s6
  have e6 := e2.trans e26
  generalize upd (upd H4 p2 (.lst (ys.map V.str ++ zs.map V.str))) am (.dK []) = H6 at hp6 ha6 e26 e6 ⊢
  have hNe : NeAt C H6 x pl hd un fu D (neOf Fs Ps) := ⟨⟨dxx, fss, e26 _ _ hpx, KF, hnf⟩, e26 _ _ hD⟩
  have hNl : ∀ j ∈ neOf Fs Ps, j < Ps.length := fun j hj => List.mem_range.mp (List.mem_filter.mp hj).1
  have hN15 : (neOf Fs Ps).length ≤ 15 := by
    have := List.length_filter_le (fun n => !emptyB Ps (headF Fs) n) (List.range Ps.length)
    rw [List.length_range] at this
    unfold neOf
    lia
  have hNd : (neOf Fs Ps).Nodup := List.Sublist.nodup List.filter_sublist List.nodup_range
  have hyz : (ys ++ zs).length ≤ 200 := by rw [List.length_append]; lia
  have dom : ∀ r ∈ Ps, ∀ y ∈ r.drop 1, Word y → Dom (ys ++ zs) y := fun r hr' y hy hw => by
    rcases hw with z | z
    · exact .inl z
    · exact .inr (List.mem_append.mpr (.inl ((hys y).mpr (mem_words.mpr ⟨r, List.mem_append.mpr (.inr hr'), hy, z⟩))))
  refine ⟨x, p2, am, pl, hd, un, fu, D, Fs, Ps, L, neOf Fs Ps, ys ++ zs, rfl, KS.same e26, hNe, hN15, hp6, hyz, ha6, hPr, hNl, hNd, fun j hj => ?_, hAp, fun t d h kv hp H7 e7 hd0 hh0 hdh hT hok hd7 hh7 hC7 => ?_⟩
  · have hjl := hNl j hj
    have hg : Ps.getD j [] = Ps[j] := by rw [List.getD_eq_getElem?_getD, List.getElem?_eq_getElem hjl]; rfl
    rw [hg]
    have hm := List.getElem_mem hjl
    obtain ⟨w1, w2⟩ := hwd _ hm
    have hpr := hPr _ hm
    refine ⟨dom _ hm _ ?_ w1, fun c => dom _ hm _ ?_ (w2 c)⟩
    · rcases hpr with ⟨a, b, c, e⟩ | ⟨a, b, e⟩ | ⟨a, e⟩ <;> (rw [e]; exact List.mem_cons_self ..)
    · rcases hpr with ⟨a, b, c', e⟩ | ⟨a, b, e⟩ | ⟨a, e⟩
      · rw [e] at c; exact absurd c (by show ¬ ("cell" : Str) = "stretch"; decide +kernel)
      · rw [e]; exact List.mem_cons_of_mem _ (List.mem_cons_self ..)
      · rw [e] at c; exact absurd c (by show ¬ ("tree" : Str) = "stretch"; decide +kernel)
  · refine q t d h kv (ys ++ zs) hp H7 (e6.trans e7) (e6.free hd0) (e6.free hh0) hdh hT ⟨hok, fun y => ?_, hd7, hh7, hC7, hyz⟩
    rw [List.mem_append, hys]
end
end K24
namespace K24
open PySem PySem.Spec L2 Mir Kn
noncomputable abbrev sTaken : Stmt := top 22
noncomputable abbrev sCover : Stmt := top 23
noncomputable abbrev sFits : Stmt := top 24
noncomputable def lookC (cs : Cells) (x : Int) : Option (Int × Int) := (cs.find? fun c => decide (c.1 = x)).map (·.2)
theorem CellsAt.look {K : PySem.W.Frag} {H : Hp} {hp : List (Int × Addr)} {cs : Cells} (h : CellsAt K H hp cs) (x : Int) : (valV (hv hp) (Sum.inl x) = none ∧ lookC cs x = none) ∨ ∃ t f s, valV (hv hp) (Sum.inl x) = some (.ref t) ∧ lookC cs x = some (f, s) ∧ SqT K H t [.int f, .int s] := by
  unfold CellsAt at h
  induction h with
  | nil => exact .inl ⟨rfl, rfl⟩
  | @cons p c ps cs h t ih =>
    by_cases e : p.1 = x
    · refine .inr ⟨p.2, c.2.1, c.2.2, valV_pos (p := ((Sum.inl p.1, V.ref p.2) : Key × V)) (show (Sum.inl p.1 : Key) = Sum.inl x by rw [e]), ?_, h.2⟩
      unfold lookC
      simp [List.find?_cons, ← h.1, e]
    · have e1 : valV (hv (p :: ps)) (Sum.inl x) = valV (hv ps) (Sum.inl x) := valV_neg (p := ((Sum.inl p.1, V.ref p.2) : Key × V)) (show ¬ (Sum.inl p.1 : Key) = Sum.inl x from fun z => e (Sum.inl.inj z))
      have e2 : lookC (c :: cs) x = lookC cs x := by unfold lookC; simp [List.find?_cons, ← h.1, e]
      rw [e1, e2]
      exact ih
inductive Walk (cs : Cells) (stop : Int → Prop) (isS : Bool) : Nat → List Int → List Int → Option (List Int) → Prop
  | done (n : Nat) (row : List Int) : Walk cs stop isS n [] row (some row)
  | stop (n : Nat) (x : Int) (rest row : List Int) (res : Option (List Int)) : stop x → Walk cs stop isS n rest row res → Walk cs stop isS (n + 1) (x :: rest) row res
  | fail (n : Nat) (x : Int) (rest row : List Int) : ¬ stop x → (lookC cs x = none ∨ x ∈ row) → Walk cs stop isS (n + 1) (x :: rest) row none
  | step (n : Nat) (x f s : Int) (rest row : List Int) (res : Option (List Int)) : ¬ stop x → lookC cs x = some (f, s) → ¬ x ∈ row → Walk cs stop isS n ((if isS = true then [s] else [f, s]) ++ rest) (row ++ [x]) res → Walk cs stop isS (n + 1) (x :: rest) row res
noncomputable def mayW (kv : List (Key × V)) (x : Str) (n : Int) : Bool := decide (x = "any") || decide (vI kv x = n)
noncomputable def stopR (kv : List (Key × V)) (r : List Str) (x : Int) : Prop := (r.getD 0 "" = "stretch" ∧ x = vI kv (r.getD 2 "")) ∨ (r.getD 0 "" = "tree" ∧ x = 0)
noncomputable def TakenR (kv : List (Key × V)) (cs : Cells) (r : List Str) (res : Option (List Int)) : Prop :=
  (r.getD 0 "" = "cell" → res = match lookC cs (vI kv (place r)) with | none => none | some (f, s) => if (mayW kv (r.getD 2 "") f && mayW kv (r.getD 3 "") s) = true then some [vI kv (place r)] else none) ∧
  (¬ r.getD 0 "" = "cell" → ∃ N, N ≤ 400 ∧ Walk cs (stopR kv r) (decide (r.getD 0 "" = "stretch")) N [vI kv (place r)] [] res)
noncomputable def Vals (kv : List (Key × V)) (r : List Str) : Prop := ∀ x ∈ r.drop 1, x = "any" ∨ (valV kv (Sum.inr x)).isSome = true
inductive spTakenS (K : PySem.W.Frag) (vs : List V) (H : Hp) (Q : VK) : Prop
  | mk (d h b : Addr) (kv : List (Key × V)) (hp : List (Int × Addr)) (cs : Cells) (r : List Str) (res : Option (List Int)) (h0 : vs = [.ref d, .ref h, .ref b]) (h1 : H d = some (.dK kv)) (h2 : IntsAt kv) (h3 : H h = some (.dK (hv hp))) (h4 : CellsAt K H hp cs) (h5 : RowAt K H b r) (h6 : PartRow r) (h7 : (valV kv (Sum.inr (place r))).isSome = true) (h8 : (r.getD 0 "" = "stretch" → (valV kv (Sum.inr (r.getD 2 ""))).isSome = true)) (h9 : Vals kv r) (h10 : TakenR kv cs r res) (h11 : (res = none → ∀ H', Same H H' → Q .non H')) (h12 : ∀ row, res = some row → ∀ D H', H D = none → Same H H' → H' D = some (.lst (row.map V.int)) → Q (.ref D) H') : spTakenS K vs H Q
noncomputable def spTaken (K : PySem.W.Frag) : Sp := fun vs H Q _ => spTakenS K vs H Q
theorem dp_ints {K : PySem.W.Frag} {H : Hp} : ∀ ns : List Int, DpAll K H (ns.map V.int) (ns.map PyData.int)
  | [] => .nil
  | x :: r => .cons (.int x) (dp_ints r)
theorem lay_ints : ∀ ns : List Int, PyData.canLayAll0 (ns.map PyData.int) = true
  | [] => by simp only [List.map_nil, PyData.canLayAll0]
  | x :: r => by simp only [List.map_cons, PyData.canLayAll0, PyData.canLay0, Bool.true_and, lay_ints r]
theorem depth_ints : ∀ ns : List Int, PyData.depthAll (ns.map PyData.int) ≤ 0
  | [] => by simp only [List.map_nil, PyData.depthAll]; exact Nat.le_refl _
  | x :: r => by simp only [List.map_cons, PyData.depthAll, PyData.depth]; exact Nat.max_le.mpr ⟨Nat.le_refl _, depth_ints r⟩
theorem eqOk_ints (ns : List Int) : EqOk (.list (ns.map PyData.int)) := by
  constructor
  · simp only [PyData.canLay0]; exact lay_ints ns
  · have := depth_ints ns
    simp only [PyData.depth]; lia
theorem eqv_nil (l : List PyData) : PyData.eqv (.list l) (.list []) = l.isEmpty := by
  cases l with
  | nil => rfl
  | cons x l => rfl
theorem cut01 (c : Bool) (f s : Int) : cutV [.int f, .int s] (some (if c = true then 1 else 0)) none = (if c = true then [s] else [f, s]).map V.int := by
  cases c <;> rfl
inductive tStopS (K : PySem.W.Frag) (D : Ends) (σ : St) (H : Hp) : Prop
  | mk (d b : Addr) (kv : List (Key × V)) (r : List Str) (x : Int) (h0 : σ[0]? = some (some (.ref d))) (h1 : σ[2]? = some (some (.ref b))) (h2 : σ[3]? = some (some (.int x))) (h3 : H d = some (.dK kv)) (h4 : IntsAt kv) (h5 : RowAt K H b r) (h6 : PartRow r) (h7 : (r.getD 0 "" = "stretch" → (valV kv (Sum.inr (r.getD 2 ""))).isSome = true)) (h8 : (stopR kv r x → D.ct σ H)) (h9 : (¬ stopR kv r x → D.nx σ H)) : tStopS K D σ H
noncomputable def tStop (K : PySem.W.Frag) : TS := fun D σ H => tStopS K D σ H
inductive tFailS (K : PySem.W.Frag) (D : Ends) (σ : St) (H : Hp) : Prop
  | mk (h rl : Addr) (hp : List (Int × Addr)) (cs : Cells) (row : List Int) (x : Int) (h0 : σ[1]? = some (some (.ref h))) (h1 : σ[3]? = some (some (.int x))) (h2 : σ[4]? = some (some (.ref rl))) (h3 : H h = some (.dK (hv hp))) (h4 : CellsAt K H hp cs) (h5 : H rl = some (.lst (row.map V.int))) (h6 : (lookC cs x = none ∨ x ∈ row → D.rt .non H)) (h7 : (∀ f s, lookC cs x = some (f, s) → ¬ x ∈ row → D.nx σ H)) : tFailS K D σ H
noncomputable def tFail (K : PySem.W.Frag) : TS := fun D σ H => tFailS K D σ H
theorem inV_ints (x : Int) (l : List Int) : inV (.int x) (l.map V.int) = decide (x ∈ l) := by
  unfold inV
  rw [Bool.eq_iff_iff, List.any_eq_true, decide_eq_true_eq]
  constructor
  · rintro ⟨y, hy, e⟩
    obtain ⟨z, hz, rfl⟩ := List.mem_map.mp hy
    have : z = x := by
      have e' : (z == x) = true := e
      simpa using e'
    exact this ▸ hz
  · intro h
    exact ⟨.int x, List.mem_map.mpr ⟨x, h, rfl⟩, by show (x == x) = true; simp⟩
theorem PartRow.at2s {r : List Str} (h : PartRow r) (hs : r.getD 0 "" = "stretch") : atI (r.map V.str) 2 = some (.str (r.getD 2 "")) := by
  rcases h with ⟨a, f, s, rfl⟩ | ⟨a, b, rfl⟩ | ⟨a, rfl⟩
  · exact absurd hs (by show ¬ ("cell" : Str) = "stretch"; decide +kernel)
  · rfl
  · exact absurd hs (by show ¬ ("tree" : Str) = "stretch"; decide +kernel)
section
variable {P : Program} {w : World} {K : PySem.W.Frag} {mg : Str → Option Value} {base : Heap} {f : Addr} {fd : FuncData}
theorem scTaken : FnScope ["_law_values", "_law_heap", "_law_part", "_law_here", "_law_row", "_law_word", "_law_number", "_law_coming"] ["_law_values", "_law_heap", "_law_part"] (defScope sTaken) := ⟨rfl, rfl, rfl, by decide +kernel, rfl, by decide +kernel, by decide +kernel⟩
theorem ok_taken (C : Con K mg w) (F : Fun K "_law_taken" "_law_taken" sTaken f fd) : FnOk P w K mg base CX0 1 f fd ["_law_values", "_law_heap", "_law_part"] (spTaken K) := by
  refine F.okQ scTaken (fun vs H Q E h => ?_) (fun cdv A outer s0 H vs Q E hr h => ?_)
  · obtain ⟨d, h, b, kv, hp, cs, r, res, rfl, _⟩ := h; rfl
  obtain ⟨d, h, b, kv, hp, cs, r, res, rfl, hD, hI, hH, hC, hR, hp', hpl, hen, hvs, hT, qn, qs⟩ := h
  have nd := scTaken.nd
  have hu1 := hu_of hr
  have hu := Nat.lt_of_le_of_lt (Nat.add_le_add_left (show 32 ≤ 64 by decide) _) hr.units
  refine ⟨_, qb_cons (qs_set (i := 3) nd rfl (Or.inl rfl) (qe_dget hu1 (qv 0) (qe_ix (ixTk (K := K) rfl) (qv 2) qe_int (fun _ _ => rfl)) (fun _ _ => rfl)))
    (qb_cons (qs_set (i := 4) nd rfl (Or.inl rfl) (qe_lst qa_nil))
    (qb_cons (qs_if (qt_cmpR op_eq (qe_ix (ixTk (K := K) rfl) (qv 2) qe_int (fun _ _ => rfl)) qe_str (nomark _)) (qb_cons (qs_if (qt_dnotin hu1 (qv 3) (qv 1)) (qb_one (qs_ret qe_non)) qb_nil)
    (qb_cons (qs_for PassesOwn.never rfl (qi_zipTK (K := K) rfl rfl C.zip (qa_sub (qe_slice (slTk (K := K) rfl) (qv 2) (qo_some qe_int) qo_none) (qa_sub (qe_dget hu1 (qv 1) (qv 3) (fun _ _ => rfl)) qa_nil))) (qg_tup2K (K := K) rfl (qg_name (i := 5) nd rfl (Or.inl rfl)) (qg_name (i := 6) nd rfl (Or.inl rfl))) (qb_one (qs_if (QW.qt (qw_and (qt_cmpR op_ne (qv 5) qe_str (nomark _)) (qw_and1 (qt_cmpR op_ne (qe_dget hu1 (qv 0) (qv 5) (fun _ _ => rfl)) (qv 6) (nomark _))))) (qb_one (qs_ret qe_non)) qb_nil)))
    (qb_one (qs_ret (qe_lst (qa_nm (qv 3) qa_nil)))))) qb_nil)
    (qb_cons (qs_set (i := 7) nd rfl (Or.inl rfl) (qe_lst (qa_nm (qv 3) qa_nil)))
    (qb_cons (qs_while PassesOwn.never (qt_cmpR (neDk (K := K) rfl hu) (qv 7) (qe_lst qa_nil) (nomark _)) (qb_cons (qs_set (i := 3) nd rfl (Or.inl rfl) (qe_bmK (K := K) rfl PySem.F.plainAttrs_list PySem.F.slot_list_pop PySem.F.type_list_pop mt_popAt (qv 7) (qa_int qa_nil)))
    (qb_cons (qs_weak (t' := tStop K) (qs_if (QW.qt (qw_or (QW.qt (qw_and (qt_cmpR op_eq (qe_ix (ixTk (K := K) rfl) (qv 2) qe_int (fun _ _ => rfl)) qe_str (nomark _)) (qw_and1 (qt_cmpR op_eq (qv 3) (qe_dget hu1 (qv 0) (qe_ix (ixTk (K := K) rfl) (qv 2) qe_int (fun _ _ => rfl)) (fun _ _ => rfl)) (nomark _))))) (qw_or1 (QW.qt (qw_and (qt_cmpR op_eq (qe_ix (ixTk (K := K) rfl) (qv 2) qe_int (fun _ _ => rfl)) qe_str (nomark _)) (qw_and1 (qt_cmpR op_eq (qv 3) qe_int (nomark _)))))))) (qb_one qs_continue) qb_nil) (fun D σ H hh => by
      obtain ⟨d, b, kv, r, x, g0, g2, g3, hD, hI, hR, hp, hen, yes, no⟩ := hh
      refine ⟨_, g2, b, _, 0, _, rfl, rfl, hR, hp.at0, rfl, _, rfl, iteB (fun c => ?_) (fun c => ?_)⟩
      · have c' : r.getD 0 "" = "stretch" := by simpa using c
        refine ⟨_, g3, _, g0, _, g2, b, _, 2, _, rfl, rfl, hR, hp.at2s c', d, _, rfl, (hI.at_ (hen c')) ▸ DGet.k (k := Sum.inr (r.getD 2 "")) hD, rfl, _, rfl, iteB (fun c2 => ?_) (fun c2 => ?_)⟩
        · exact iteB (fun _ => yes (.inl ⟨c', by simpa using c2⟩)) (fun z => by cases z)
        · refine ⟨_, g2, b, _, 0, _, rfl, rfl, hR, hp.at0, rfl, _, rfl, iteB (fun c3 => ?_) (fun c3 => ?_)⟩
          · have c3' : r.getD 0 "" = "tree" := by simpa using c3
            rw [c'] at c3'
            exact absurd c3' (by decide +kernel)
          · refine iteN rfl (no (fun z => ?_))
            rcases z with z | z
            · have c2' : ¬ x = vI kv (r.getD 2 "") := by simpa using c2
              exact c2' z.2
            · have c3' : ¬ r.getD 0 "" = "tree" := by simpa using c3
              exact c3' z.1
      · have c' : ¬ r.getD 0 "" = "stretch" := by simpa using c
        refine iteN rfl ⟨_, g2, b, _, 0, _, rfl, rfl, hR, hp.at0, rfl, _, rfl, iteB (fun c3 => ?_) (fun c3 => ?_)⟩
        · have c3' : r.getD 0 "" = "tree" := by simpa using c3
          refine ⟨_, g3, rfl, _, rfl, iteB (fun c4 => ?_) (fun c4 => ?_)⟩
          · exact yes (.inr ⟨c3', by simpa using c4⟩)
          · refine no (fun z => ?_)
            rcases z with z | z
            · exact c' z.1
            · have c4' : ¬ x = 0 := by simpa using c4
              exact c4' z.2
        · refine iteN rfl (no (fun z => ?_))
          rcases z with z | z
          · exact c' z.1
          · have c3' : ¬ r.getD 0 "" = "tree" := by simpa using c3
            exact c3' z.1))
    (qb_cons (qs_weak (t' := tFail K) (qs_if (QW.qt (qw_or (qt_dnotin hu1 (qv 3) (qv 1)) (qw_or1 (qt_cmpR (inSk (K := K) rfl) (qv 3) (qv 4) (by with_unfolding_all rfl))))) (qb_one (qs_ret qe_non)) qb_nil) (fun D σ H hh => by
      obtain ⟨h, rl, hp, cs, row, x, g1, g3, g4, hH, hC, hL, yes, no⟩ := hh
      rcases hC.look x with ⟨z1, z2⟩ | ⟨t, f, s, z1, z2, z3⟩
      · refine ⟨_, g3, _, g1, h, _, rfl, DGet.k (k := Sum.inl x) hH, _, rfl, ?_⟩
        rw [z1]
        exact iteB (fun _ => yes (.inl z2)) (fun c => by cases c)
      · refine ⟨_, g3, _, g1, h, _, rfl, DGet.k (k := Sum.inl x) hH, _, rfl, ?_⟩
        rw [z1]
        refine iteN rfl ⟨_, g3, _, g4, rl, _, rfl, .inl (SqL.of hL), rfl, (by rw [List.all_map]; exact List.all_eq_true.mpr fun _ _ => rfl), _, rfl, ?_⟩
        refine iteB (fun c => yes (.inr (of_decide_eq_true ((inV_ints x row).symm.trans c)))) (fun c => no f s z2 (fun z => ?_))
        have z' : inV (.int x) (row.map V.int) = true := (inV_ints x row).trans (decide_eq_true z)
        exact absurd (z'.symm.trans c) (by decide)))
    (qb_cons (qs_expr (qe_bmK (K := K) rfl PySem.F.plainAttrs_list PySem.F.slot_list_append PySem.F.type_list_append mt_append (qv 4) (qa_nm (qv 3) qa_nil)))
    (qb_one (qs_set (i := 7) nd rfl (Or.inl rfl) (qe_op op_cat (qe_slice (slLk (K := K) rfl) (qe_callTy (lstKk (K := K) rfl) rfl C.list PyProof.Rows.boot_list (qa_sub (qe_dget hu1 (qv 1) (qv 3) (fun _ _ => rfl)) qa_nil)) (qo_some (qe_callTy call_int_bl rfl C.int PyProof.Rows.boot_int (qa_cons (qe_cmpR op_eq (qe_ix (ixTk (K := K) rfl) (qv 2) qe_int (fun _ _ => rfl)) qe_str (nomark _)) qa_nil))) qo_none) (qv 7)))))))))
    (qb_one (qs_ret (qv 4))))))), ?_⟩
  refine ⟨_, rfl, _, rfl, b, _, 1, _, rfl, rfl, hR, hp'.at1, d, _, rfl, (hI.at_ hpl) ▸ DGet.k (k := Sum.inr (place r)) hD, ?_⟩
  refine ⟨Nat.zero_le _, fun rl hrl => ?_⟩
  have s1 := same_new hrl (.lst [])
  have hL1 : (upd H rl (.lst [])) rl = some (.lst (([] : List Int).map V.int)) := upd_same
  have hD1 := s1 _ _ hD
  have hH1 := s1 _ _ hH
  have hC1 := hC.same s1
  have hR1 := RowAt.same hR s1
  generalize upd H rl (.lst []) = H1 at s1 hL1 hD1 hH1 hC1 hR1 ⊢
  refine ⟨_, rfl, b, _, 0, _, rfl, rfl, hR1, hp'.at0, rfl, _, rfl, iteB (fun c => ?_) (fun c => ?_)⟩
  · have c' : r.getD 0 "" = "cell" := by simpa using c
    have hres := hT.1 c'
    obtain ⟨x, y, z, rfl⟩ : ∃ x y z, r = [("cell" : Str), x, y, z] := by
      rcases hp' with z | ⟨x, y, rfl⟩ | ⟨a, rfl⟩
      · exact z
      · exact absurd c' (by show ¬ ("stretch" : Str) = "cell"; decide +kernel)
      · exact absurd c' (by show ¬ ("tree" : Str) = "cell"; decide +kernel)
    rcases hC1.look (vI kv (place [("cell" : Str), x, y, z])) with ⟨z1, z2⟩ | ⟨t, f, s, z1, z2, z3⟩
    · refine ⟨_, rfl, _, rfl, h, _, rfl, DGet.k (k := Sum.inl _) hH1, _, rfl, ?_⟩
      rw [z1]
      refine iteB (fun _ => ?_) (fun c => by cases c)
      exact qn (by rw [hres, z2]) _ s1
    · refine ⟨_, rfl, _, rfl, h, _, rfl, DGet.k (k := Sum.inl _) hH1, _, rfl, ?_⟩
      rw [z1]
      refine iteB (fun c => by cases c) (fun _ => ?_)
      refine ⟨_, rfl, _, rfl, b, _, rfl, hR1, (show ¬ (min 2 4 = 0 ∧ 4 = 4) by decide), fun t2 ht2 => ?_⟩
      have s2 := same_new ht2 (.tup [.str y, .str z])
      have hcv : cutV (([("cell" : Str), x, y, z] : List Str).map V.str) (some 2) none = [.str y, .str z] := rfl
      rw [hcv]
      have s12 := s1.trans s2
      have hT2 : (upd H1 t2 (.tup [.str y, .str z])) t2 = some (.tup [.str y, .str z]) := upd_same
      have hH2 := s2 _ _ hH1
      have z32 := s2.seqT z3
      generalize upd H1 t2 (.tup [.str y, .str z]) = H2 at s2 s12 hT2 hH2 z32 ⊢
      refine ⟨_, rfl, _, rfl, h, .ref t, rfl, z1 ▸ DGet.k (k := Sum.inl _) hH2, t2, t, _, _, rfl, SqT.of hT2, z32, ?_⟩
      have word : ∀ u, u ∈ [y, z] → u = "any" ∨ valV kv (Sum.inr u) = some (.int (vI kv u)) := fun u hu => by
        rcases hvs u (List.mem_cons_of_mem _ hu) with w | w
        · exact .inl w
        · exact .inr (hI.at_ w)
      refine for_zipT (K := K) (xs := [.str y, .str z]) (ys := [.int f, .int s]) (fun i σ H3 => Same H2 H3 ∧ (0 < i → mayW kv y f = true) ∧ (1 < i → mayW kv z s = true) ∧ ∃ z5 z6 z7 : Option V, σ = [some (.ref d), some (.ref h), some (.ref b), some (.int (vI kv (place [("cell" : Str), x, y, z]))), some (.ref rl), z5, z6, z7])
        ⟨Same.refl _, (fun c => absurd c (Nat.lt_irrefl _)), (fun c => absurd c (by decide)), none, none, none, rfl⟩ (fun i σ H3 pv => ⟨SqT.of (pv.1 _ _ hT2), pv.1.seqT z32⟩) rfl ?_ ?_
      · rintro i v1 v2 σ H3 p hv1 hv2 ⟨e3, m1, m2, z5, z6, z7, rfl⟩ hp3
        obtain ⟨u, n, rfl, rfl, hu2, hun⟩ : ∃ (u : Str) (n : Int), v1 = .str u ∧ v2 = .int n ∧ u ∈ [y, z] ∧ ((i = 0 ∧ u = y ∧ n = f) ∨ (i = 1 ∧ u = z ∧ n = s)) := by
          match i, hv1, hv2 with
          | 0, h1, h2 => exact ⟨y, f, (Option.some.inj h1).symm, (Option.some.inj h2).symm, List.mem_cons_self .., .inl ⟨rfl, rfl, rfl⟩⟩
          | 1, h1, h2 => exact ⟨z, s, (Option.some.inj h1).symm, (Option.some.inj h2).symm, List.mem_cons_of_mem _ (List.mem_cons_self ..), .inr ⟨rfl, rfl, rfl⟩⟩
          | (i + 2), h1, h2 => cases h1
        have s3 := same_new hp3 (.tup [.str u, .int n])
        have e4 := e3.trans s3
        have hD4 := (s12.trans e4) _ _ hD
        have bad : mayW kv u n = false → res = none := fun hb => by
          rw [hres, z2]
          rcases hun with ⟨_, rfl, rfl⟩ | ⟨_, rfl, rfl⟩
          · show (if (mayW kv u n && mayW kv z s) = true then _ else _) = _
            rw [hb]; rfl
          · show (if (mayW kv y f && mayW kv u n) = true then _ else _) = _
            rw [hb, Bool.and_false]; rfl
        have good : mayW kv u n = true → (0 < i + 1 → mayW kv y f = true) ∧ (1 < i + 1 → mayW kv z s = true) := fun hg => by
          rcases hun with ⟨rfl, rfl, rfl⟩ | ⟨rfl, rfl, rfl⟩
          · exact ⟨fun _ => hg, fun c => absurd c (Nat.lt_irrefl _)⟩
          · exact ⟨fun _ => m1 (by decide), fun _ => hg⟩
        refine ⟨p, _, rfl, SqT.of upd_same, rfl, _, _, rfl, _, _, rfl, rfl, ?_⟩
        generalize upd H3 p (.tup [.str u, .int n]) = H4 at s3 e4 hD4 ⊢
        refine ⟨_, rfl, rfl, _, rfl, iteB (fun c1 => ?_) (fun c1 => ?_)⟩
        · have c1' : ¬ u = "any" := by simpa using c1
          have hv := (word u hu2).resolve_left c1'
          refine ⟨_, rfl, _, rfl, d, _, rfl, hv ▸ DGet.k (k := Sum.inr u) hD4, _, rfl, rfl, _, rfl, iteB (fun c2 => ?_) (fun c2 => ?_)⟩
          · have c2' : ¬ vI kv u = n := by simpa using c2
            exact qn (bad (by unfold mayW; rw [decide_eq_false c1', decide_eq_false c2']; rfl)) _ (s12.trans e4)
          · have c2' : vI kv u = n := by simpa using c2
            obtain ⟨g1, g2⟩ := good (by unfold mayW; rw [decide_eq_true c2', Bool.or_true])
            exact ⟨e4, g1, g2, _, _, _, rfl⟩
        · have c1' : u = "any" := by simpa using c1
          obtain ⟨g1, g2⟩ := good (by unfold mayW; rw [decide_eq_true c1']; rfl)
          exact iteB (fun w => by cases w) (fun _ => ⟨e4, g1, g2, _, _, _, rfl⟩)
      · rintro σ H3 ⟨e3, m1, m2, z5, z6, z7, rfl⟩
        refine ⟨_, rfl, (show 1 ≤ sizeLine by decide), fun D hD9 => ?_⟩
        have e9 := s12.trans e3
        have hr9 : res = some [vI kv (place [("cell" : Str), x, y, z])] := by
          rw [hres, z2]
          show (if (mayW kv y f && mayW kv z s) = true then _ else _) = _
          rw [m1 (show 0 < 2 by decide), m2 (show 1 < 2 by decide)]; rfl
        exact qs _ hr9 D _ (e9.free hD9) (e9.trans (same_new hD9 _)) upd_same
  · have c' : ¬ r.getD 0 "" = "cell" := by simpa using c
    obtain ⟨N, hN4, hW⟩ := hT.2 c'
    refine ⟨_, rfl, (show 1 ≤ sizeLine by decide), fun cl hcl => ?_⟩
    have hcr : cl ≠ rl := fun z => by rw [z, hL1] at hcl; cases hcl
    have hcl0 : H cl = none := s1.free hcl
    have s2 := same_new hcl (.lst [.int (vI kv (place r))])
    have hK2 : (upd H1 cl (.lst [.int (vI kv (place r))])) cl = some (.lst (([vI kv (place r)] : List Int).map V.int)) := upd_same
    have hL2 := s2 _ _ hL1
    have e2 := s1.trans s2
    generalize upd H1 cl (.lst [.int (vI kv (place r))]) = H2 at s2 hK2 hL2 e2 ⊢
    refine ⟨fun m σ H3 => Same H H3 ∧ ∃ (cl : Addr) (co row : List Int) (x3 : Int) (z5 z6 : Option V), H cl = none ∧ cl ≠ rl ∧ H3 cl = some (.lst (co.map V.int)) ∧ H3 rl = some (.lst (row.map V.int)) ∧ co.length + m ≤ 401 ∧ row.length + m ≤ 400 ∧ Walk cs (stopR kv r) (decide (r.getD 0 "" = "stretch")) m co row res ∧ σ = [some (.ref d), some (.ref h), some (.ref b), some (.int x3), some (.ref rl), z5, z6, some (.ref cl)],
      ⟨N, e2, cl, _, [], _, none, none, hcl0, hcr, hK2, hL2, (show 1 + N ≤ 401 by lia), (by simpa using hN4), hW, rfl⟩, ?_⟩
    clear hcl0 hcr hK2 hL2 e2 s2 hcl hW hL1 hD1 hH1 hC1 hR1
    rintro m σ H3 ⟨e3, cl, co, row, x3, z5, z6, hcl0, hcr, hK3, hL3, hco, hro, hW, rfl⟩
    refine ⟨_, rfl, Nat.zero_le _, fun ln hln => ?_⟩
    have s4 := same_new hln (.lst [])
    refine ⟨.list (co.map PyData.int), .list [], .lst (SqL.of (s4 _ _ hK3)) (dp_ints co), .lst (SqL.of upd_same) .nil, eqOk_ints co, eqOk_ints [], _, rfl, ?_⟩
    rw [eqv_nil]
    have e4 := e3.trans s4
    have hK4 := s4 _ _ hK3
    have hL4 := s4 _ _ hL3
    clear hK3 hL3 e3
    generalize upd H3 ln (.lst []) = H4 at s4 e4 hK4 hL4 ⊢
    cases co with
    | nil =>
      refine iteB (fun w => by cases w) (fun _ => ?_)
      cases hW
      exact ⟨_, rfl, qs row rfl rl H4 hrl e4 hL4⟩
    | cons x co =>
      refine iteB (fun _ => ⟨_, fun _ _ z => z, ?_⟩) (fun w => by cases w)
      refine ⟨_, rfl, .inl ⟨rfl, _, SqL.of hK4⟩, cl, _, 0, 0, .int x, rfl, rfl, hK4, (by decide), (by decide), (by simp [seqIndex?]), rfl, ?_⟩
      have hK5 : (upd H4 cl (.lst (((x :: co).map V.int).eraseIdx 0))) cl = some (.lst (co.map V.int)) := upd_same
      have hL5 : (upd H4 cl (.lst (((x :: co).map V.int).eraseIdx 0))) rl = some (.lst (row.map V.int)) := by rw [upd_ne (Ne.symm hcr)]; exact hL4
      have e5 : Same H (upd H4 cl (.lst (((x :: co).map V.int).eraseIdx 0))) := same_put hcl0 e4 _
      clear hK4 hL4 e4 s4 hln
      generalize upd H4 cl (.lst (((x :: co).map V.int).eraseIdx 0)) = H5 at hK5 hL5 e5 ⊢
      refine ⟨d, b, kv, r, x, rfl, rfl, rfl, e5 _ _ hD, hI, RowAt.same hR e5, hp', hen, fun hst => ?_, fun hst => ?_⟩
      · cases hW with
        | stop n _ _ _ _ _ hW2 => exact ⟨n, Nat.lt_succ_self n, e5, cl, co, row, x, z5, z6, hcl0, hcr, hK5, hL5, (by rw [List.length_cons] at hco; lia), (by lia), hW2, rfl⟩
        | fail n _ _ _ hns _ => exact absurd hst hns
        | step n _ f s _ _ _ hns _ _ _ => exact absurd hst hns
      refine ⟨h, rl, hp, cs, row, x, rfl, rfl, rfl, e5 _ _ hH, hC.same e5, hL5, fun hb => ?_, fun f s hlk hnr => ?_⟩
      · cases hW with
        | stop n _ _ _ _ hs2 _ => exact absurd hs2 hst
        | fail n _ _ _ _ _ => exact qn rfl _ e5
        | step n _ f s _ _ _ _ hl2 hn2 _ => exact absurd hb (fun z => z.elim (fun y => by rw [hl2] at y; cases y) hn2)
      · cases hW with
        | stop n _ _ _ _ hs2 _ => exact absurd hs2 hst
        | fail n _ _ _ _ hb => exact absurd hb (fun z => z.elim (fun y => by rw [hlk] at y; cases y) hnr)
        | step n _ f' s' _ _ _ _ hl2 hn2 hW2 =>
          rw [hlk] at hl2
          cases hl2
          refine ⟨_, rfl, .inl ⟨rfl, _, SqL.of hL5⟩, _, rfl, rl, _, _, rfl, rfl, hL5, lt_line (by rw [List.length_map]; lia), ?_⟩
          have hL6 : (upd H5 rl (.lst (row.map V.int ++ [.int x]))) rl = some (.lst ((row ++ [x]).map V.int)) := by rw [upd_same, List.map_append]; rfl
          have hK6 : (upd H5 rl (.lst (row.map V.int ++ [.int x]))) cl = some (.lst (co.map V.int)) := by rw [upd_ne hcr]; exact hK5
          have e6 : Same H (upd H5 rl (.lst (row.map V.int ++ [.int x]))) := same_put hrl e5 _
          clear hL5 hK5 e5
          generalize upd H5 rl (.lst (row.map V.int ++ [.int x])) = H6 at hL6 hK6 e6 ⊢
          obtain ⟨t, f9, s9, y1, y2, y3⟩ := ((hC.same e6).look x).resolve_left (fun z => by rw [z.2] at hlk; cases hlk)
          rw [hlk] at y2
          cases y2
          refine ⟨_, rfl, _, rfl, h, .ref t, rfl, y1 ▸ DGet.k (k := Sum.inl x) (e6 _ _ hH), t, _, rfl, .inr y3, fun ll hll => ?_⟩
          have s7 := same_new hll (.lst [.int f, .int s])
          have hS7 : (upd H6 ll (.lst [.int f, .int s])) ll = some (.lst [.int f, .int s]) := upd_same
          have e7 := e6.trans s7
          have hL7 := s7 _ _ hL6
          have hK7 := s7 _ _ hK6
          generalize upd H6 ll (.lst [.int f, .int s]) = H7 at s7 hS7 e7 hL7 hK7 ⊢
          refine ⟨_, rfl, b, _, 0, _, rfl, rfl, RowAt.same hR e7, hp'.at0, rfl, _, rfl, ?_⟩
          have hdec : decide (V.str (r.getD 0 "") = V.str "stretch") = decide (r.getD 0 "" = "stretch") := by
            by_cases e : r.getD 0 "" = "stretch"
            · rw [decide_eq_true e, decide_eq_true (by rw [e])]
            · rw [decide_eq_false e, decide_eq_false (fun z => e (V.str.inj z))]
          rw [hdec]
          refine ⟨_, rfl, ll, _, rfl, SqL.of hS7, fun p1 hp1 => ?_⟩
          rw [cut01]
          have s8 := same_new hp1 (.lst ((if decide (r.getD 0 "" = "stretch") = true then [s] else [f, s]).map V.int))
          have hP8 : (upd H7 p1 (.lst ((if decide (r.getD 0 "" = "stretch") = true then [s] else [f, s]).map V.int))) p1 = some (.lst ((if decide (r.getD 0 "" = "stretch") = true then [s] else [f, s]).map V.int)) := upd_same
          have e8 := e7.trans s8
          have hL8 := s8 _ _ hL7
          have hK8 := s8 _ _ hK7
          generalize upd H7 p1 (.lst ((if decide (r.getD 0 "" = "stretch") = true then [s] else [f, s]).map V.int)) = H8 at s8 hP8 e8 hL8 hK8 ⊢
          have hl2 : (if decide (r.getD 0 "" = "stretch") = true then [s] else [f, s]).length ≤ 2 := by split <;> simp
          rw [List.length_cons] at hco
          refine ⟨_, rfl, p1, cl, _, _, rfl, rfl, hP8, hK8, (by rw [List.length_map, List.length_map]; exact Nat.le_of_lt (lt_line (by lia))), fun nc hnc => ?_⟩
          have s9 := same_new hnc (.lst ((if decide (r.getD 0 "" = "stretch") = true then [s] else [f, s]).map V.int ++ co.map V.int))
          refine ⟨n, Nat.lt_succ_self n, e8.trans s9, nc, (if decide (r.getD 0 "" = "stretch") = true then [s] else [f, s]) ++ co, row ++ [x], x, z5, z6, e8.free hnc, (fun z => by rw [z, hL8] at hnc; cases hnc), (by rw [upd_same, List.map_append]), s9 _ _ hL8, (by rw [List.length_append]; lia), (by rw [List.length_append, List.length_singleton]; lia), hW2, rfl⟩
end
end K24
namespace K24
open PySem PySem.Spec L2 Mir Kn
noncomputable def holdsF (kv : List (Key × V)) (r : List Str) : Bool := decide (vI kv (r.getD 1 "") = vI kv (r.getD 2 "")) == decide (r.getD 0 "" = "is")
structure CovOk (kv : List (Key × V)) (F : List (List Str)) (rs : List (Option (List Int))) (rows : List (List Int)) : Prop where
  facts : ∀ r ∈ F, holdsF kv r = true
  all : rs = rows.map some
  nd : rows.flatten.Nodup
structure CovIn (K : PySem.W.Frag) (H : Hp) (d h tl fl ql : Addr) (kv : List (Key × V)) (hp : List (Int × Addr)) (cs : Cells) (F P : List (List Str)) (rs : List (Option (List Int))) : Prop where
  vals : H d = some (.dK kv)
  num : IntsAt kv
  heap : H h = some (.dK (hv hp))
  cells : CellsAt K H hp cs
  tell : SqT K H tl [.ref fl, .ref ql]
  rF : RowsAt K H fl F
  Fr : ∀ r ∈ F, FactRow r
  Fv : ∀ r ∈ F, Vals kv r ∧ ¬ ("any" : Str) ∈ r.drop 1
  rP : RowsAt K H ql P
  Pr : ∀ r ∈ P, PartRow r
  Pv : ∀ r ∈ P, Vals kv r ∧ (valV kv (Sum.inr (place r))).isSome = true ∧ (r.getD 0 "" = "stretch" → (valV kv (Sum.inr (r.getD 2 ""))).isSome = true)
  res : Paired (fun r o => TakenR kv cs r o) P rs
  few : (rs.filterMap id).flatten.length ≤ 900
  fewP : P.length ≤ 100
noncomputable def sk (l : List Int) : List (Key × V) := l.map fun x => (Sum.inl x, V.bl true)
theorem sk_val (l : List Int) (x : Int) : (valV (sk l) (Sum.inl x)).isSome = decide (x ∈ l) := by
  rw [← valV_any]
  unfold sk
  rw [List.any_map, Bool.eq_iff_iff, List.any_eq_true, decide_eq_true_eq]
  constructor
  · rintro ⟨y, hy, e⟩
    have : y = x := Sum.inl.inj (of_decide_eq_true e)
    exact this ▸ hy
  · intro hx
    exact ⟨x, hx, decide_eq_true rfl⟩
theorem sk_put {l : List Int} {x : Int} (h : ¬ x ∈ l) : putK (sk l) (Sum.inl x) (.bl true) = sk (l ++ [x]) := by
  have : valV (sk l) (Sum.inl x) = none := by
    have := sk_val l x
    rw [decide_eq_false h] at this
    cases hz : valV (sk l) (Sum.inl x) with
    | none => rfl
    | some v => rw [hz] at this; cases this
  rw [putK_new this]
  unfold sk
  rw [List.map_append]
  rfl
noncomputable def LRows (S : Addr → Prop) (H : Hp) (as : List Addr) (rows : List (List Int)) : Prop := Paired (fun a row => H a = some (.lst (row.map V.int)) ∧ ¬ S a) as rows
theorem LRows.same {S : Addr → Prop} {H H' : Hp} {as : List Addr} {rows : List (List Int)} (h : LRows S H as rows) (e : Same H H') : LRows S H' as rows := Paired.mapP h fun _ _ z => ⟨e _ _ z.1, z.2⟩
theorem LRows.put {S : Addr → Prop} {H : Hp} {as : List Addr} {rows : List (List Int)} (h : LRows S H as rows) {a : Addr} (ha : S a) (o : HO) : LRows S (upd H a o) as rows := Paired.mapP h fun b _ z => ⟨by
  have hne : b ≠ a := fun w => z.2 (by rw [w]; exact ha)
  rw [upd_ne hne]; exact z.1, z.2⟩
theorem some_inj {rows rows' : List (List Int)} (h : rows.map some = rows'.map some) : rows = rows' := (List.map_inj_right (fun _ _ z => Option.some.inj z)).mp h
theorem rows_split {rows rows' : List (List Int)} {rs : List (Option (List Int))} {i : Nat} {row : List Int} (h : rs = rows'.map some) (ht : rows.map some = rs.take i) (hi : rs[i]? = some (some row)) : ∃ rest, rows' = rows ++ row :: rest := by
  subst h
  rw [← List.map_take] at ht
  have h1 := some_inj ht
  rw [List.getElem?_map] at hi
  cases hz : rows'[i]? with
  | none => rw [hz] at hi; cases hi
  | some row' =>
    rw [hz] at hi
    have : row' = row := Option.some.inj (Option.some.inj hi)
    subst this
    refine ⟨rows'.drop (i + 1), ?_⟩
    have hil := (List.getElem?_eq_some_iff.mp hz).1
    have hd : rows'.drop i = row' :: rows'.drop (i + 1) := by
      rw [List.drop_eq_getElem_cons hil, (List.getElem?_eq_some_iff.mp hz).2]
    rw [h1, ← hd, List.take_append_drop]
theorem few_split {rows : List (List Int)} {rs : List (Option (List Int))} {i : Nat} {row : List Int} (ht : rows.map some = rs.take i) (hi : rs[i]? = some (some row)) : rows.flatten.length + row.length ≤ (rs.filterMap id).flatten.length := by
  have hil := (List.getElem?_eq_some_iff.mp hi).1
  have hd : rs.drop i = some row :: rs.drop (i + 1) := by
    rw [List.drop_eq_getElem_cons hil, (List.getElem?_eq_some_iff.mp hi).2]
  have e : rs = rows.map some ++ some row :: rs.drop (i + 1) := by rw [ht, ← hd, List.take_append_drop]
  rw [e, List.filterMap_append, List.filterMap_map, List.flatten_append, List.length_append]
  have e1 : List.filterMap (id ∘ some) rows = rows := List.filterMap_some
  rw [e1]
  have e2 : List.filterMap id (some row :: rs.drop (i + 1)) = row :: List.filterMap id (rs.drop (i + 1)) := rfl
  rw [e2, List.flatten_cons, List.length_append]
  lia
inductive spCoverS (K : PySem.W.Frag) (vs : List V) (H : Hp) (Q : VK) : Prop
  | mk (d h tl fl ql : Addr) (kv : List (Key × V)) (hp : List (Int × Addr)) (cs : Cells) (F P : List (List Str)) (rs : List (Option (List Int))) (h0 : vs = [.ref d, .ref h, .ref tl]) (h1 : CovIn K H d h tl fl ql kv hp cs F P rs) (h2 : (∀ rows, CovOk kv F rs rows → ∀ D as H', Same H H' → H' D = some (.lst (as.map V.ref)) → LRows (fun _ => False) H' as rows → Q (.ref D) H')) (h3 : ((¬ ∃ rows, CovOk kv F rs rows) → ∀ H', Same H H' → Q .non H')) : spCoverS K vs H Q
noncomputable def spCover (K : PySem.W.Frag) : Sp := fun vs H Q _ => spCoverS K vs H Q
section
variable {P : Program} {w : World} {K : PySem.W.Frag} {mg : Str → Option Value} {base : Heap} {f gT : Addr} {fd dT : FuncData}
theorem scCover : FnScope ["_law_values", "_law_heap", "_law_telling", "_law_word", "_law_a", "_law_b", "_law_rows", "_law_seen", "_law_part", "_law_row", "_law_address"] ["_law_values", "_law_heap", "_law_telling"] (defScope sCover) := ⟨rfl, rfl, rfl, by decide +kernel, rfl, by decide +kernel, by decide +kernel⟩
theorem ok_cover (C : Con K mg w) (F : Fun K "_law_cover" "_law_cover" sCover f fd) (GT : FnOk P w K mg base CX0 1 gT dT ["_law_values", "_law_heap", "_law_part"] (spTaken K)) (cT : Cal K mg "_law_taken" gT dT ["_law_values", "_law_heap", "_law_part"]) : FnOk P w K mg base CX0 2 f fd ["_law_values", "_law_heap", "_law_telling"] (spCover K) := by
  refine F.okQ scCover (fun vs H Q E h => ?_) (fun cdv A outer s0 H vs Q E hr h => ?_)
  · obtain ⟨d, h, tl, fl, ql, kv, hp, cs, F, P, rs, rfl, _⟩ := h; rfl
  obtain ⟨d, h, tl, fl, ql, kv, hp, cs, Fs, Ps, rs, rfl, I, qs, qn⟩ := h
  have nd := scCover.nd
  have hu1 := hu_of hr
  refine ⟨_, qb_cons (qs_for PassesOwn.never rfl (qi_listK (K := K) rfl (qe_ix (ixTk (K := K) rfl) (qv 2) qe_int (fun _ _ => rfl))) (qg_tup3K (K := K) rfl (qg_name (i := 3) nd rfl (Or.inl rfl)) (qg_name (i := 4) nd rfl (Or.inl rfl)) (qg_name (i := 5) nd rfl (Or.inl rfl))) (qb_one (qs_if (qt_cmpR op_ne (qe_cmpR op_eq (qe_dget hu1 (qv 0) (qv 4) (fun _ _ => rfl)) (qe_dget hu1 (qv 0) (qv 5) (fun _ _ => rfl)) (nomark _)) (qe_cmpR op_eq (qv 3) qe_str (nomark _)) (nomark _)) (qb_one (qs_ret qe_non)) qb_nil)))
    (qb_cons (qs_set (i := 6) nd rfl (Or.inl rfl) (qe_lst qa_nil))
    (qb_cons (qs_set (i := 7) nd rfl (Or.inl rfl) qe_dnew)
    (qb_cons (qs_for PassesOwn.never rfl (qi_listK (K := K) rfl (qe_ix (ixTk (K := K) rfl) (qv 2) qe_int (fun _ _ => rfl))) (qg_name (i := 8) nd rfl (Or.inl rfl)) (qb_cons (qs_set (i := 9) nd rfl (Or.inl rfl) (qe_call GT hr rfl cT.name cT.keep cT.bind .nil pass0 (qa_nm (qv 0) (qa_nm (qv 1) (qa_nm (qv 8) qa_nil)))))
    (qb_cons (qs_if (qt_cmpR op_isN (qv 9) qe_non (nomark _)) (qb_one (qs_ret qe_non)) qb_nil)
    (qb_cons (qs_for PassesOwn.never rfl (qi_listK (K := K) rfl (qv 9)) (qg_name (i := 10) nd rfl (Or.inl rfl)) (qb_cons (qs_if (qt_din hu1 (qv 10) (qv 7)) (qb_one (qs_ret qe_non)) qb_nil)
    (qb_one (qs_dput hu1 (qv 7) (qv 10) qe_bl))))
    (qb_one (qs_expr (qe_bmK (K := K) rfl PySem.F.plainAttrs_list PySem.F.slot_list_append PySem.F.type_list_append mt_append (qv 6) (qa_nm (qv 9) qa_nil))))))))
    (qb_one (qs_ret (qv 6)))))), ?_⟩
  obtain ⟨fas, hfl, hfp⟩ := id I.rF
  obtain ⟨pas, hql, hpp⟩ := id I.rP
  refine ⟨_, rfl, tl, _, 0, .ref fl, rfl, rfl, I.tell, rfl, fl, rfl, ⟨_, SqL.of hfl⟩, ?_⟩
  refine for_list (xs := fas.map V.ref) (fun i σ H2 => H2 = H ∧ (∀ r ∈ Fs.take i, holdsF kv r = true) ∧ ∃ z3 z4 z5 : Option V, σ = [some (.ref d), some (.ref h), some (.ref tl), z3, z4, z5, none, none, none, none, none])
    ⟨rfl, (fun r hr => by simp at hr), none, none, none, rfl⟩ (fun i σ H2 _ pv => by rw [pv.1]; exact SqL.of hfl) ?_ ?_
  · rintro i x σ H2 hi ⟨rfl, hol, z3, z4, z5, rfl⟩
    obtain ⟨b', hb, rfl⟩ := ref_at hi
    obtain ⟨r, hr1', hr2'⟩ := Paired.nth hfp hb
    have hrm := List.mem_of_getElem? hr1'
    obtain ⟨hva, hna⟩ := I.Fv r hrm
    obtain ⟨k, u, v, rfl, hk⟩ := I.Fr r hrm
    have htk : Fs.take (i + 1) = Fs.take i ++ [[k, u, v]] := by rw [List.take_add_one, hr1']; rfl
    have val : ∀ y ∈ [u, v], valV kv (Sum.inr y) = some (.int (vI kv y)) := fun y hy => I.num.at_ ((hva y hy).resolve_left (fun z => hna (z ▸ hy)))
    have hu0 := val u (List.mem_cons_self ..)
    have hv0 := val v (List.mem_cons_of_mem _ (List.mem_cons_self ..))
    refine ⟨b', _, rfl, hr2', rfl, _, _, rfl, _, _, rfl, _, _, rfl, rfl, ?_⟩
    refine ⟨_, rfl, _, rfl, d, _, rfl, hu0 ▸ DGet.k (k := Sum.inr u) I.vals, _, rfl, _, rfl, d, _, rfl, hv0 ▸ DGet.k (k := Sum.inr v) I.vals, rfl, _, rfl, rfl, rfl, _, rfl, ?_⟩
    have e1 : holdsF kv [k, u, v] = (decide (V.int (vI kv u) = V.int (vI kv v)) == decide (V.str k = V.str "is")) := by
      show (decide (vI kv u = vI kv v) == decide (k = "is")) = _
      congr 1
      · by_cases e : vI kv u = vI kv v
        · rw [decide_eq_true e, decide_eq_true (by rw [e])]
        · rw [decide_eq_false e, decide_eq_false (fun z => e (V.int.inj z))]
      · by_cases e : k = "is"
        · rw [decide_eq_true e, decide_eq_true (by rw [e])]
        · rw [decide_eq_false e, decide_eq_false (fun z => e (V.str.inj z))]
    refine iteB (fun c => ?_) (fun c => ?_)
    · refine qn (fun ⟨rows, h⟩ => ?_) H2 (Same.refl _)
      have := h.facts _ hrm
      rw [e1] at this
      have c' : ¬ decide (V.int (vI kv u) = V.int (vI kv v)) = decide (V.str k = V.str "is") := by simpa using c
      exact c' (by simpa using this)
    · refine ⟨rfl, fun r hr => ?_, _, _, _, rfl⟩
      rw [htk] at hr
      rcases List.mem_append.mp hr with z | z
      · exact hol r z
      · rw [List.mem_singleton.mp z, e1]
        have c' : decide (V.int (vI kv u) = V.int (vI kv v)) = decide (V.str k = V.str "is") := by simpa using c
        rw [c']; simp
  rintro σ H2 ⟨rfl, hol, z3, z4, z5, rfl⟩
  have hfal := Paired.length hfp
  rw [List.length_map, hfal, List.take_length] at hol
  refine ⟨Nat.zero_le _, fun rl hrl => ?_⟩
  have s1 := same_new hrl (.lst [])
  intro sd hsd
  have s2 := same_new hsd (.dK [])
  have e2 := s1.trans s2
  have hrs : rl ≠ sd := fun z => by rw [← z, upd_same] at hsd; cases hsd
  have hsd0 : H2 sd = none := s1.free hsd
  have hrl2 : (upd (upd H2 rl (.lst [])) sd (.dK [])) rl = some (.lst (([] : List Addr).map V.ref)) := s2 _ _ upd_same
  have hsd2 : (upd (upd H2 rl (.lst [])) sd (.dK [])) sd = some (.dK (sk [])) := upd_same
  generalize upd (upd H2 rl (.lst [])) sd (.dK []) = H3 at e2 hrl2 hsd2 ⊢
  refine ⟨_, rfl, tl, _, 1, .ref ql, rfl, rfl, e2.seqT I.tell, rfl, ql, rfl, ⟨_, SqL.of (e2 _ _ hql)⟩, ?_⟩
  have hpal := Paired.length hpp
  refine for_list (xs := pas.map V.ref) (fun i σ H4 => Same H2 H4 ∧ Ex5 fun (as : List Addr) (rows : List (List Int)) (z8 z9 z10 : Option V) => And6 (H4 rl = some (.lst (as.map V.ref))) (H4 sd = some (.dK (sk rows.flatten))) (LRows (fun a => a = rl ∨ a = sd) H4 as rows) (rows.map some = rs.take i) (rows.flatten.Nodup) (σ = [some (.ref d), some (.ref h), some (.ref tl), z3, z4, z5, some (.ref rl), some (.ref sd), z8, z9, z10]))
    ⟨e2, [], [], none, none, none, hrl2, hsd2, .nil, rfl, .nil, rfl⟩ (fun i σ H4 _ pv => SqL.of (pv.1 _ _ hql)) ?_ ?_
  · rintro i x σ H4 hi ⟨e4, as, rows, z8, z9, z10, hrl4, hsd4, hLR, hrt, hnd, rfl⟩
    obtain ⟨b', hb, rfl⟩ := ref_at hi
    obtain ⟨r, hr1', hr2'⟩ := Paired.nth hpp hb
    have hrm := List.mem_of_getElem? hr1'
    obtain ⟨o, ho1, ho2⟩ := Paired.nth I.res hr1'
    obtain ⟨hva, hpl, hen⟩ := I.Pv r hrm
    have hil : i < Ps.length := (List.getElem?_eq_some_iff.mp hr1').1
    have hP100 := I.fewP
    have hasl : as.length ≤ 100 := by
      have h1 := Paired.length hLR
      have h2 : (rows.map some).length = (rs.take i).length := by rw [hrt]
      rw [List.length_map, List.length_take] at h2
      lia
    have noneq : ∀ {rows' : List (List Int)}, CovOk kv Fs rs rows' → o ≠ none := fun {rows'} hc z => by
      rw [z, hc.all, List.getElem?_map] at ho1
      cases hz : rows'[i]? with
      | none => rw [hz] at ho1; cases ho1
      | some y => rw [hz] at ho1; cases ho1
    refine ⟨_, rfl, _, rfl, _, rfl, d, h, b', kv, hp, cs, r, o, rfl, e4 _ _ I.vals, I.num, e4 _ _ I.heap, I.cells.same e4, RowAt.same hr2' e4, I.Pr r hrm, hpl, hen, hva, ho2, fun hn H5 e5 => ?_, fun row hrow D H5 hD0 e5 hD5 => ?_⟩
    · refine ⟨_, rfl, rfl, _, rfl, iteB (fun _ => ?_) (fun c => by simp at c)⟩
      exact qn (fun ⟨rows', hc⟩ => noneq hc hn) _ (e4.trans e5)
    · subst hrow
      have hDrl : D ≠ rl := fun z => by rw [z, hrl4] at hD0; cases hD0
      have hDsd : D ≠ sd := fun z => by rw [z, hsd4] at hD0; cases hD0
      have hfew := few_split hrt ho1
      have hfw := I.few
      refine ⟨_, rfl, rfl, _, rfl, iteB (fun c => by simp at c) (fun _ => ?_)⟩
      refine ⟨_, rfl, D, rfl, ⟨_, SqL.of hD5⟩, ?_⟩
      refine for_list (xs := row.map V.int) (fun j σ H6 => Same H2 H6 ∧ H6 rl = some (.lst (as.map V.ref)) ∧ H6 D = some (.lst (row.map V.int)) ∧ LRows (fun a => a = rl ∨ a = sd) H6 as rows ∧ H6 sd = some (.dK (sk (rows.flatten ++ row.take j))) ∧ (rows.flatten ++ row.take j).Nodup ∧ ∃ z10 : Option V, σ = [some (.ref d), some (.ref h), some (.ref tl), z3, z4, z5, some (.ref rl), some (.ref sd), some (.ref b'), some (.ref D), z10])
        ⟨e4.trans e5, e5 _ _ hrl4, hD5, hLR.same e5, by rw [List.take_zero, List.append_nil]; exact e5 _ _ hsd4, by rw [List.take_zero, List.append_nil]; exact hnd, _, rfl⟩ (fun j σ H6 _ pv => SqL.of pv.2.2.1) ?_ ?_
      · rintro j y σ H6 hj ⟨e6, hrl6, hD6, hLR6, hsd6, hnd6, z10, rfl⟩
        have hjl : j < row.length := by have := (List.getElem?_eq_some_iff.mp hj).1; rw [List.length_map] at this; exact this
        obtain rfl : y = .int row[j] := by
          rw [List.getElem?_map, List.getElem?_eq_getElem hjl] at hj
          exact (Option.some.inj hj).symm
        have etj : row.take (j + 1) = row.take j ++ [row[j]] := by rw [List.take_add_one, List.getElem?_eq_getElem hjl]; rfl
        refine ⟨_, rfl, _, rfl, sd, _, rfl, DGet.k (k := Sum.inl row[j]) hsd6, _, rfl, ?_⟩
        rw [sk_val]
        refine iteB (fun c => ?_) (fun c => ?_)
        · refine qn (fun ⟨rows', hc⟩ => ?_) _ e6
          obtain ⟨rest, hre⟩ := rows_split hc.all hrt ho1
          have hnn := hc.nd
          rw [hre, List.flatten_append, List.flatten_cons, ← List.append_assoc] at hnn
          have hn1 := (List.nodup_append.mp hnn).1
          have hx := of_decide_eq_true c
          rcases List.mem_append.mp hx with z | z
          · exact absurd rfl ((List.nodup_append.mp hn1).2.2 _ z _ (List.getElem_mem hjl))
          · have hn2 := (List.nodup_append.mp hn1).2.1
            have hn3 : (row.take (j + 1)).Nodup := List.Sublist.nodup (List.take_sublist _ _) hn2
            rw [etj] at hn3
            exact absurd rfl ((List.nodup_append.mp hn3).2.2 _ z _ (List.mem_singleton.mpr rfl))
        · have hx := of_decide_eq_false c
          have hlen : (sk (rows.flatten ++ row.take j)).length ≤ 1000 := by
            unfold sk
            rw [List.length_map, List.length_append, List.length_take]
            lia
          refine ⟨_, rfl, _, rfl, sd, _, rfl, DPut.k (k := Sum.inl row[j]) hsd6 (lt_line hlen), ?_⟩
          rw [sk_put hx]
          refine ⟨same_put hsd0 e6 _, by rw [upd_ne hrs]; exact hrl6, by rw [upd_ne hDsd]; exact hD6, hLR6.put (.inr rfl) _, by rw [upd_same, etj, List.append_assoc], ?_, _, rfl⟩
          rw [etj, ← List.append_assoc]
          refine List.nodup_append.mpr ⟨hnd6, by simp, fun a ha b hb => ?_⟩
          rw [List.mem_singleton.mp hb]
          exact fun z => hx (z ▸ ha)
      · rintro σ H6 ⟨e6, hrl6, hD6, hLR6, hsd6, hnd6, z10, rfl⟩
        rw [List.length_map, List.take_length] at hsd6 hnd6
        refine ⟨_, rfl, .inl ⟨rfl, _, SqL.of hrl6⟩, _, rfl, rl, _, _, rfl, rfl, hrl6, lt_line (by rw [List.length_map]; lia), ?_⟩
        refine ⟨same_put hrl e6 _, as ++ [D], rows ++ [row], _, _, _, by rw [upd_same, List.map_append]; rfl, by rw [upd_ne (Ne.symm hrs), List.flatten_append, List.flatten_singleton]; exact hsd6, Paired.snocP (hLR6.put (.inl rfl) _) ⟨by rw [upd_ne hDrl]; exact hD6, fun z => z.elim hDrl hDsd⟩, ?_, ?_, rfl⟩
        · rw [List.map_append, hrt, List.take_add_one, ho1]; rfl
        · rw [List.flatten_append, List.flatten_singleton]; exact hnd6
  · rintro σ H4 ⟨e4, as, rows, z8, z9, z10, hrl4, hsd4, hLR, hrt, hnd, rfl⟩
    have hrl' := Paired.length I.res
    rw [List.length_map, hpal, hrl', List.take_length] at hrt
    exact ⟨_, rfl, qs rows ⟨hol, hrt.symm, hnd⟩ rl as H4 e4 hrl4 (Paired.mapP hLR fun _ _ z => ⟨z.1, id⟩)⟩
end
end K24
namespace K24
open PySem PySem.Spec L2 Mir Kn
theorem lenK {X : Cx} {K : PySem.W.Frag} (h : X.K = K) : CallR X (.builtin "len") (fun xs H Q => ∃ p ys, xs = [.ref p] ∧ (SqL K H p ys ∨ SqT K H p ys) ∧ Q (.int ys.length) H) := by subst h; exact call_len_seq
inductive spFitsS (K : PySem.W.Frag) (vs : List V) (H : Hp) (Q : VK) : Prop
  | mk (d h tl fl ql : Addr) (kv : List (Key × V)) (hp : List (Int × Addr)) (cs : Cells) (F P : List (List Str)) (rs : List (Option (List Int))) (h0 : vs = [.ref d, .ref h, .ref tl]) (h1 : CovIn K H d h tl fl ql kv hp cs F P rs) (h2 : ∀ (b : Bool) H', Same H H' → (b = true ↔ ∃ rows, CovOk kv F rs rows ∧ rows.flatten.length = cs.length) → Q (.bl b) H') : spFitsS K vs H Q
noncomputable def spFits (K : PySem.W.Frag) : Sp := fun vs H Q _ => spFitsS K vs H Q
section
variable {P : Program} {w : World} {K : PySem.W.Frag} {mg : Str → Option Value} {base : Heap} {f gC : Addr} {fd dC : FuncData}
theorem scFits : FnScope ["_law_values", "_law_heap", "_law_telling", "_law_rows"] ["_law_values", "_law_heap", "_law_telling"] (defScope sFits) := ⟨rfl, rfl, rfl, by decide +kernel, rfl, by decide +kernel, by decide +kernel⟩
theorem ok_fits (C : Con K mg w) (F : Fun K "_law_fits" "_law_fits" sFits f fd) (GC : FnOk P w K mg base CX0 2 gC dC ["_law_values", "_law_heap", "_law_telling"] (spCover K)) (cC : Cal K mg "_law_cover" gC dC ["_law_values", "_law_heap", "_law_telling"]) : FnOk P w K mg base CX0 3 f fd ["_law_values", "_law_heap", "_law_telling"] (spFits K) := by
  refine F.okQ scFits (fun vs H Q E h => ?_) (fun cdv A outer s0 H vs Q E hr h => ?_)
  · obtain ⟨d, h, tl, fl, ql, kv, hp, cs, F, P, rs, rfl, _⟩ := h; rfl
  obtain ⟨d, h, tl, fl, ql, kv, hp, cs, Fs, Ps, rs, rfl, I, q⟩ := h
  have nd := scFits.nd
  refine ⟨_, qb_cons (qs_set (i := 3) nd rfl (Or.inl rfl) (qe_call GC hr rfl cC.name cC.keep cC.bind .nil pass0 (qa_nm (qv 0) (qa_nm (qv 1) (qa_nm (qv 2) qa_nil)))))
    (qb_one (qs_ret (qe_and (qe_cmpR op_notN (qv 3) qe_non (nomark _)) (qe_one (qe_cmpR op_eq (qe_callB (call_sum_ints rfl) rfl C.sum PyProof.Rows.boot_sum (qa_cons (qe_comp0 (qi_listK (K := K) rfl (qv 3)) (fun _ _ _ _ => qts_nil) (fun _ _ _ _ => (qe_callB (lenK (K := K) rfl) rfl C.len PySem.boot_len (qa_nm (qv 0) qa_nil)))) qa_nil)) (qe_callB call_lenD rfl C.len PySem.boot_len (qa_nm (qv 1) qa_nil)) (nomark _)))))), ?_⟩
  refine ⟨_, rfl, _, rfl, _, rfl, d, h, tl, fl, ql, kv, hp, cs, Fs, Ps, rs, rfl, I, fun rows hc D as H1 e1 hD1 hLR => ?_, fun hn H1 e1 => ?_⟩
  · refine ⟨_, rfl, rfl, _, rfl, iteB (fun _ => ?_) (fun c => by simp at c)⟩
    have hll := Paired.length hLR
    have hrl : rows.length ≤ 100 := by
      have h1 := Paired.length I.res
      have h2 := I.fewP
      rw [hc.all, List.length_map] at h1
      lia
    have hfm : rs.filterMap id = rows := by
      rw [hc.all, List.filterMap_map]
      exact List.filterMap_some
    have hfew : rows.flatten.length ≤ 900 := by rw [← hfm]; exact I.few
    have hsum : ∀ l : List (List Int), (l.map fun r => (r.length : Int)).sum = ((l.flatten.length : Nat) : Int) := fun l => by
      induction l with
      | nil => rfl
      | cons r l ih => rw [List.map_cons, List.sum_cons, ih, List.flatten_cons, List.length_append]; lia
    have hle : ∀ (l : List (List Int)) r, r ∈ l → r.length ≤ l.flatten.length := fun l => by
      induction l with
      | nil => intro r hr; cases hr
      | cons y l ih =>
        intro r hr
        rw [List.flatten_cons, List.length_append]
        rcases List.mem_cons.mp hr with rfl | z
        · lia
        · have := ih r z; lia
    refine ⟨_, rfl, D, rfl, ⟨_, SqL.of hD1⟩, ?_⟩
    refine comp_ix (as.map V.ref) (rows.map fun r => V.int (r.length : Int)) jseq_list (SqL.of hD1) (by rw [List.length_map]; exact Nat.le_of_lt (small1000 (by lia))) (by rw [List.length_map, List.length_map, hll]) (fun i x y hx hy H2 e2 Q' q' => ?_) fun D1 H2 hD2 e2 hd2 => ?_
    · obtain ⟨b, hb, rfl⟩ := ref_at hx
      obtain ⟨r, hr1', hr2'⟩ := Paired.nth hLR hb
      rw [List.getElem?_map, hr1'] at hy
      have hy' : y = .int (r.length : Int) := (Option.some.inj hy).symm
      subst hy'
      have := q' H2 (Same.refl _)
      refine ⟨_, rfl, b, _, rfl, .inl (SqL.of (e2 _ _ hr2'.1)), ?_⟩
      rw [List.length_map]
      exact this
    have e12 := e1.trans e2
    refine ⟨D1, rows.map (fun r => (r.length : Int)), rfl, SqL.of (by rw [hd2, List.map_map]; rfl), fun n hn => ?_, by rw [List.length_map]; lia, ?_⟩
    · obtain ⟨r, hr', rfl⟩ := List.mem_map.mp hn
      have := hle rows r hr'
      lia
    have hlv : (hv hp).length = cs.length := by unfold hv; rw [List.length_map]; exact Paired.length I.cells
    refine ⟨_, rfl, h, _, rfl, e12 _ _ I.heap, rfl, q _ H2 e12 ?_⟩
    rw [hsum, hlv, decide_eq_true_eq]
    constructor
    · intro e
      have := V.int.inj e
      exact ⟨rows, hc, by lia⟩
    · rintro ⟨rows', hc', hl'⟩
      have : rows = rows' := some_inj (hc.all.symm.trans hc'.all)
      subst this
      rw [hl']
  · refine ⟨_, rfl, rfl, _, rfl, iteB (fun c => by simp at c) (fun _ => ?_)⟩
    exact q false H1 e1 ⟨(fun c => by cases c), (fun z => by obtain ⟨rows, hc, _⟩ := z; exact absurd ⟨rows, hc⟩ hn)⟩
end
end K24
namespace K24
open PySem PySem.Spec L2 Mir Kn
structure Ready (F P : List (List Str)) (ws : List Str) (kv kv2 : List (Key × V)) : Prop where
  hF : ∀ r ∈ F, FactRow r
  hP : ∀ r ∈ P, PartRow r
  ok : NumOk (headF F) ws kv
  eq : ∀ k, valV kv2 k = valV kv k
  dF : ∀ r ∈ F, ∀ x ∈ r.drop 1, Dom ws x
  dP : ∀ r ∈ P, ∀ x ∈ r.drop 1, x = "any" ∨ Dom ws x
  pl : ∀ r ∈ P, Dom ws (place r)
  en : ∀ r ∈ P, r.getD 0 "" = "stretch" → Dom ws (r.getD 2 "")
  any : ¬ Dom ws "any"
  nocl : ∀ y, ¬ Un F P y y
  rdy : ∀ (j : Nat) r, P[j]? = some r → ¬ EmptyR r (headF F) [] → ¬ SharesR F P (neOf F P) j r
theorem vI_eq {kv kv2 : List (Key × V)} (h : ∀ k, valV kv2 k = valV kv k) (x : Str) : vI kv2 x = vI kv x := by unfold vI; rw [h]
section
variable {F P : List (List Str)} {ws : List Str} {kv kv2 : List (Key × V)}
theorem Ready.vi (R : Ready F P ws kv kv2) {x y : Str} (hx : Dom ws x) (hy : Dom ws y) : vI kv x = vI kv y ↔ headF F x = headF F y := by
  have h1 := R.ok.at_ x hx
  have h2 := R.ok.at_ y hy
  rw [← R.ok.inj x y hx hy]
  unfold vI
  constructor
  · intro e; rw [h1, h2, e]
  · intro e; rw [e]
theorem Ready.nil (R : Ready F P ws kv kv2) : vI kv "nil" = 0 := by unfold vI; rw [R.ok.nil]; rfl
theorem Ready.lt (R : Ready F P ws kv kv2) {x : Str} (hx : Dom ws x) : 0 ≤ vI kv x ∧ vI kv x < (ws.length : Int) + 1 := by
  have := R.ok.lt x hx
  unfold vI
  lia
theorem ne_lt {j : Nat} (h : j ∈ neOf F P) : j < P.length := List.mem_range.mp (List.mem_filter.mp h).1
theorem Ready.places (R : Ready F P ws kv kv2) : Places kv ((ws.length : Int) + 1) P (neOf F P) := by
  have gd : ∀ {j : Nat}, j ∈ neOf F P → P[j]? = some (P.getD j []) := fun {j} hj => by
    rw [List.getD_eq_getElem?_getD, List.getElem?_eq_getElem (ne_lt hj)]; rfl
  refine ⟨List.Sublist.nodup List.filter_sublist List.nodup_range, fun j hj => (R.lt (R.pl _ (List.mem_of_getElem? (gd hj)))).2, fun i hi j hj hij e => ?_⟩
  have hpi := R.pl _ (List.mem_of_getElem? (gd hi))
  have hpj := R.pl _ (List.mem_of_getElem? (gd hj))
  exact R.rdy i _ (gd hi) ((neOf_mem (gd hi)).mp hi) (.inl ⟨j, hj, Ne.symm hij, _, gd hj, (R.vi hpi hpj).mp e⟩)
theorem lookC_mem : ∀ {cs : Cells} {a f s : Int}, (cs.map (·.1)).Nodup → (a, f, s) ∈ cs → lookC cs a = some (f, s)
  | c :: cs, a, f, s, hn, hm => by
    obtain ⟨h1, h2⟩ := List.nodup_cons.mp hn
    unfold lookC
    rcases List.mem_cons.mp hm with z | z
    · rw [← z]; simp
    · have hne : ¬ c.1 = a := fun w => h1 (by show c.1 ∈ _; rw [w]; exact List.mem_map.mpr ⟨_, z, rfl⟩)
      have := lookC_mem h2 z
      unfold lookC at this
      simp only [List.find?_cons, hne, decide_false]
      exact this
noncomputable def rowN (F P : List (List Str)) (kv : List (Key × V)) (bs : Int) (j : Nat) : List Int := if (!emptyB P (headF F) j) = true then (cellsN kv bs P j).map (·.1) else []
theorem flat_filter {α : Type} (p : Nat → Bool) (A : Nat → List α) : ∀ l : List Nat, (l.map fun j => if p j = true then A j else []).flatten = ((l.filter p).map A).flatten
  | [] => rfl
  | j :: l => by
    have ih := flat_filter p A l
    rw [List.map_cons, List.flatten_cons, ih]
    cases h : p j with
    | true => rw [List.filter_cons_of_pos h, List.map_cons, List.flatten_cons, if_pos rfl]
    | false => rw [List.filter_cons_of_neg (by rw [h]; decide), if_neg (by decide)]; rfl
theorem rows_flat (bs : Int) : (((List.range P.length).map (rowN F P kv bs)).flatten) = (heapF kv bs P (neOf F P)).map (·.1) := by
  have h := flat_filter (fun n => !emptyB P (headF F) n) (fun j => (cellsN kv bs P j).map (·.1)) (List.range P.length)
  unfold heapF neOf
  rw [List.map_flatten, List.map_map]
  exact h
theorem Ready.taken (R : Ready F P ws kv kv2) {j : Nat} {r : List Str} (hj : P[j]? = some r) : TakenR kv2 (heapF kv ((ws.length : Int) + 1) P (neOf F P)) r (some (rowN F P kv ((ws.length : Int) + 1) j)) := by
  have hrm := List.mem_of_getElem? hj
  have hpl := R.pl r hrm
  have hvp := vI_eq R.eq
  obtain ⟨bs, hbs⟩ : ∃ bs : Int, (ws.length : Int) + 1 = bs := ⟨_, rfl⟩
  have hg : P.getD j [] = r := by rw [List.getD_eq_getElem?_getD, hj]; rfl
  have hPl := R.places
  have lt := fun {x : Str} (hx : Dom ws x) => R.lt hx
  rw [hbs] at hPl ⊢
  simp only [hbs] at lt
  have hnd := heapF_nodup hPl
  by_cases he : EmptyR r (headF F) []
  · have hb : emptyB P (headF F) j = true := emptyB_iff.mpr ⟨r, hj, he⟩
    have hrow : rowN F P kv bs j = [] := by unfold rowN; rw [hb]; rfl
    rw [hrow]
    refine ⟨fun c => absurd c he.1, fun c => ⟨1, by decide, ?_⟩⟩
    refine .stop 0 _ _ _ _ ?_ (.done 0 [])
    rcases R.hP r hrm with ⟨a, f, s, rfl⟩ | ⟨a, b, rfl⟩ | ⟨a, rfl⟩
    · exact absurd rfl c
    · refine .inl ⟨rfl, ?_⟩
      rw [hvp, hvp]
      exact (R.vi hpl (R.en _ hrm rfl)).mpr he.2
    · refine .inr ⟨rfl, ?_⟩
      rw [hvp]
      exact ((R.vi hpl (.inl rfl)).mpr he.2).trans R.nil
  · have hne : j ∈ neOf F P := (neOf_mem hj).mpr he
    have hb : emptyB P (headF F) j = false := by
      cases hz : emptyB P (headF F) j with
      | false => rfl
      | true =>
        obtain ⟨r', h1, h2⟩ := emptyB_iff.mp hz
        rw [hj] at h1
        cases h1
        exact absurd h2 he
    have hrow : rowN F P kv bs j = (cellsF kv bs (bs + 2 * (j : Int) + 1) (bs + 2 * (j : Int) + 2) r).map (·.1) := by unfold rowN cellsN; rw [hb, hg]; rfl
    rw [hrow]
    have hin : ∀ c ∈ cellsF kv bs (bs + 2 * (j : Int) + 1) (bs + 2 * (j : Int) + 2) r, c ∈ heapF kv bs P (neOf F P) := fun c hc => List.mem_flatten.mpr ⟨_, List.mem_map.mpr ⟨j, hne, rfl⟩, by unfold cellsN; rw [hg]; exact hc⟩
    have hlk : ∀ {a f s : Int}, (a, f, s) ∈ cellsF kv bs (bs + 2 * (j : Int) + 1) (bs + 2 * (j : Int) + 2) r → lookC (heapF kv bs P (neOf F P)) a = some (f, s) := fun {a f s} h => lookC_mem hnd (hin _ h)
    have hp0 := lt hpl
    have hnn : vI kv (place r) ≠ 0 := fun z => by
      have := (R.vi hpl (.inl rfl)).mp (z.trans R.nil.symm)
      exact R.rdy j r hj he (.inr this)
    obtain ⟨s0, hs0⟩ : ∃ s0 : Int, bs + 2 * (j : Int) + 1 = s0 := ⟨_, rfl⟩
    obtain ⟨s1, hs1⟩ : ∃ s1 : Int, bs + 2 * (j : Int) + 2 = s1 := ⟨_, rfl⟩
    have hs01 : bs < s0 ∧ bs < s1 ∧ s0 ≠ s1 := by lia
    clear hin hrow hne
    rw [hs0, hs1] at hlk ⊢
    rcases R.hP r hrm with ⟨a, y, z, rfl⟩ | ⟨a, b, rfl⟩ | ⟨a, rfl⟩
    · have hcf : cellsF kv bs s0 s1 [("cell" : Str), a, y, z] = [(vI kv a, gI kv bs y, gI kv bs z)] := if_pos rfl
      rw [hcf] at hlk ⊢
      refine ⟨fun _ => ?_, fun c => absurd rfl c⟩
      have hl := hlk (List.mem_cons_self ..)
      have may : ∀ u : Str, (u = "any" ∨ Dom ws u) → mayW kv2 u (gI kv bs u) = true := fun u hu => by
        unfold mayW
        rcases hu with e | e
        · rw [decide_eq_true e]; rfl
        · have : gI kv bs u = vI kv u := by unfold gI; rw [R.ok.at_ u e]; rfl
          rw [this, hvp, decide_eq_true rfl, Bool.or_true]
      have m1 := may y (R.dP _ hrm y (List.mem_cons_of_mem _ (List.mem_cons_self ..)))
      have m2 := may z (R.dP _ hrm z (List.mem_cons_of_mem _ (List.mem_cons_of_mem _ (List.mem_cons_self ..))))
      have e1 : vI kv2 (place [("cell" : Str), a, y, z]) = vI kv a := hvp a
      rw [e1, hl]
      show some [vI kv a] = if (mayW kv2 y (gI kv bs y) && mayW kv2 z (gI kv bs z)) = true then some [vI kv a] else none
      rw [m1, m2]
      rfl
    · have hcf : cellsF kv bs s0 s1 [("stretch" : Str), a, b] = [(vI kv a, bs, s0), (s0, bs, vI kv b)] := by
        unfold cellsF
        exact (if_neg (show ¬ ("stretch" : Str) = "cell" by decide +kernel)).trans (if_pos rfl)
      rw [hcf] at hlk ⊢
      refine ⟨fun c => absurd c (show ¬ ("stretch" : Str) = "cell" by decide +kernel), fun _ => ⟨3, by decide, ?_⟩⟩
      have hS : decide (([("stretch" : Str), a, b] : List Str).getD 0 "" = "stretch") = true := decide_eq_true rfl
      have hen := R.en _ hrm rfl
      have hb0 := lt hen
      have e1 : vI kv2 (place [("stretch" : Str), a, b]) = vI kv a := hvp a
      have hst : ∀ x, stopR kv2 [("stretch" : Str), a, b] x ↔ x = vI kv b := fun x => by
        constructor
        · rintro (⟨_, z⟩ | ⟨z, _⟩)
          · rw [z]; exact hvp b
          · exact absurd z (show ¬ ("stretch" : Str) = "tree" by decide +kernel)
        · intro z; exact .inl ⟨rfl, z.trans (hvp b).symm⟩
      have hab : vI kv a ≠ vI kv b := fun z => he ⟨(show ¬ ("stretch" : Str) = "cell" by decide +kernel), (R.vi hpl hen).mp z⟩
      have hp0' : vI kv a < bs := hp0.2
      have hb0' : vI kv b < bs := hb0.2
      rw [hS, e1]
      refine .step 2 _ bs s0 _ _ _ (fun z => hab ((hst _).mp z)) (hlk (List.mem_cons_self ..)) (by simp) ?_
      refine .step 1 _ bs (vI kv b) _ _ _ (fun z => ?_) (hlk (List.mem_cons_of_mem _ (List.mem_cons_self ..))) (by simp; lia) ?_
      · have := (hst _).mp z; lia
      exact .stop 0 _ _ _ _ ((hst _).mpr rfl) (.done 0 _)
    · have hcf : cellsF kv bs s0 s1 [("tree" : Str), a] = [(vI kv a, s0, s1), (s0, 0, 0), (s1, 0, 0)] := by
        unfold cellsF
        exact (if_neg (show ¬ ("tree" : Str) = "cell" by decide +kernel)).trans (if_neg (show ¬ ("tree" : Str) = "stretch" by decide +kernel))
      rw [hcf] at hlk ⊢
      refine ⟨fun c => absurd c (show ¬ ("tree" : Str) = "cell" by decide +kernel), fun _ => ⟨7, by decide, ?_⟩⟩
      have hS : decide (([("tree" : Str), a] : List Str).getD 0 "" = "stretch") = false := decide_eq_false (show ¬ ("tree" : Str) = "stretch" by decide +kernel)
      have e1 : vI kv2 (place [("tree" : Str), a]) = vI kv a := hvp a
      have hst : ∀ x, stopR kv2 [("tree" : Str), a] x ↔ x = 0 := fun x => by
        constructor
        · rintro (⟨z, _⟩ | ⟨_, z⟩)
          · exact absurd z (show ¬ ("tree" : Str) = "stretch" by decide +kernel)
          · exact z
        · intro z; exact .inr ⟨rfl, z⟩
      have hnn' : vI kv a ≠ 0 := hnn
      have hp1' : 0 ≤ vI kv a := hp0.1
      have hp0' : vI kv a < bs := hp0.2
      rw [hS, e1]
      refine .step 6 _ s0 s1 _ _ _ (fun z => hnn' ((hst _).mp z)) (hlk (List.mem_cons_self ..)) (by simp) ?_
      refine .step 5 _ 0 0 _ _ _ (fun z => ?_) (hlk (List.mem_cons_of_mem _ (List.mem_cons_self ..))) (by simp; lia) ?_
      · have := (hst _).mp z; lia
      refine .stop 4 _ _ _ _ ((hst _).mpr rfl) (.stop 3 _ _ _ _ ((hst _).mpr rfl) ?_)
      refine .step 2 _ 0 0 _ _ _ (fun z => ?_) (hlk (List.mem_cons_of_mem _ (List.mem_cons_of_mem _ (List.mem_cons_self ..)))) (by simp; lia) ?_
      · have := (hst _).mp z; lia
      exact .stop 1 _ _ _ _ ((hst _).mpr rfl) (.stop 0 _ _ _ _ ((hst _).mpr rfl) (.done 0 _))
theorem Ready.facts (R : Ready F P ws kv kv2) : ∀ r ∈ F, holdsF kv2 r = true := fun r hr => by
  have hd := R.dF r hr
  obtain ⟨k, u, v, rfl, hk⟩ := R.hF r hr
  have hu := hd u (List.mem_cons_self ..)
  have hv := hd v (List.mem_cons_of_mem _ (List.mem_cons_self ..))
  show (decide (vI kv2 u = vI kv2 v) == decide (k = "is")) = true
  rw [vI_eq R.eq, vI_eq R.eq]
  rcases hk with rfl | rfl
  · rw [decide_eq_true ((R.vi hu hv).mpr ((headF_conn R.hF _ _).mpr (.fact hr))), decide_eq_true rfl]; rfl
  · have : ¬ vI kv u = vI kv v := fun z => by
      have c := (headF_conn R.hF _ _).mp ((R.vi hu hv).mp z)
      exact R.nocl v ((un_clo F P).conn _ _ _ c.symm ((un_clo F P).fact _ _ hr))
    rw [decide_eq_false this, decide_eq_false (show ¬ ("not" : Str) = "is" by decide +kernel)]; rfl
theorem Ready.fits (R : Ready F P ws kv kv2) (hP15 : P.length ≤ 15) : ∃ rs : List (Option (List Int)), Paired (fun r o => TakenR kv2 (heapF kv ((ws.length : Int) + 1) P (neOf F P)) r o) P rs ∧ (rs.filterMap id).flatten.length ≤ 900 ∧ ∀ F0 : List (List Str), (∀ r ∈ F0, r ∈ F) → ∃ rows, CovOk kv2 F0 rs rows ∧ rows.flatten.length = (heapF kv ((ws.length : Int) + 1) P (neOf F P)).length := by
  obtain ⟨bs, hbs⟩ : ∃ bs : Int, (ws.length : Int) + 1 = bs := ⟨_, rfl⟩
  have hPl := R.places
  have htk := fun {j : Nat} {r : List Str} (h : P[j]? = some r) => R.taken h
  rw [hbs] at hPl
  simp only [hbs] at htk ⊢
  have hnd := heapF_nodup hPl
  have hfl := rows_flat (F := F) (P := P) (kv := kv) bs
  have hlen : (heapF kv bs P (neOf F P)).length ≤ 45 := by
    have h1 := heapF_len kv bs P (neOf F P)
    have h2 := List.length_filter_le (fun n => !emptyB P (headF F) n) (List.range P.length)
    rw [List.length_range] at h2
    unfold neOf at h1 ⊢
    lia
  refine ⟨((List.range P.length).map (rowN F P kv bs)).map some, ?_, ?_, fun F0 hF0 => ⟨(List.range P.length).map (rowN F P kv bs), ⟨fun r hr => R.facts r (hF0 r hr), rfl, ?_⟩, ?_⟩⟩
  · have key : ∀ n (hn : n ≤ P.length), Paired (fun r o => TakenR kv2 (heapF kv bs P (neOf F P)) r o) (P.take n) (((List.range n).map (rowN F P kv bs)).map some) := fun n => by
      induction n with
      | zero => intro _; exact .nil
      | succ n ih =>
        intro hn
        have hs : P[n]? = some P[n] := List.getElem?_eq_getElem (by lia)
        rw [List.take_add_one, hs, List.range_succ, List.map_append, List.map_append]
        exact Paired.snocP (ih (by lia)) (htk hs)
    have := key P.length (Nat.le_refl _)
    rw [List.take_length] at this
    exact this
  · rw [List.filterMap_map]
    have e1 : List.filterMap (id ∘ some) ((List.range P.length).map (rowN F P kv bs)) = (List.range P.length).map (rowN F P kv bs) := List.filterMap_some
    rw [e1, hfl, List.length_map]
    lia
  · rw [hfl]; exact hnd
  · rw [hfl, List.length_map]
end
end K24
namespace K24
open PySem PySem.Spec L2 Mir Kn
noncomputable abbrev sLaw : Stmt := top 25
theorem PoolRow.fact {xs : List Str} {r : List Str} (h : PoolRow xs r) : FactRow r := by
  obtain ⟨k, u, v, h1, h2, _, _⟩ := h
  exact ⟨k, u, v, h1, h2⟩
theorem PoolPart.row {xs : List Str} {r : List Str} (h : PoolPart xs r) : PartRow r := by
  rcases h with ⟨a, f, s, h, _⟩ | ⟨a, b, h, _⟩ | ⟨a, h, _⟩
  · exact .inl ⟨a, f, s, h⟩
  · exact .inr (.inl ⟨a, b, h⟩)
  · exact .inr (.inr ⟨a, h⟩)
theorem PoolPart.place {xs : List Str} {r : List Str} (h : PoolPart xs r) : place r ∈ xs := by
  rcases h with ⟨a, f, s, rfl, h, _⟩ | ⟨a, b, rfl, h, _⟩ | ⟨a, rfl, h⟩ <;> exact h
theorem none_right {F P : List (List Str)} (hF : ∀ r ∈ F, FactRow r) (nocl : ∀ y, ¬ Un F P y y) (h : ∀ (j : Nat) r, P[j]? = some r → ¬ EmptyR r (headF F) [] → ¬ FullR (Un F P) r → ¬ SharesR F P (neOf F P) j r) {j : Nat} {r : List Str} (hj : P[j]? = some r) (he : ¬ EmptyR r (headF F) []) : ¬ SharesR F P (neOf F P) j r := by
  intro hs
  by_cases hf : FullR (Un F P) r
  · rcases hs with ⟨j', hj', hne, s, hs', hh⟩ | hh
    · by_cases hg : FullR (Un F P) s
      · have u := (un_clo F P).two j j' r s hj hs' (Ne.symm hne) hf hg
        exact nocl _ ((un_clo F P).conn _ _ _ ((headF_conn hF _ _).mp hh).symm u)
      · exact h j' s hs' ((neOf_mem hs').mp hj') hg (.inl ⟨j, (neOf_mem hj).mpr he, Ne.symm hne, r, hj, hh.symm⟩)
    · have u := (un_clo F P).nil r (List.mem_of_getElem? hj) hf
      exact nocl _ ((un_clo F P).conn _ _ _ ((headF_conn hF _ _).mp hh).symm u)
  · exact h j r hj he hf hs
theorem pair_open {F P : List (List Str)} (hF : ∀ r ∈ F, FactRow r) {r : List Str} (he : ¬ EmptyR r (headF F) []) (hf : ¬ FullR (Un F P) r) : r.getD 0 "" ≠ "cell" ∧ (¬ Conn F (place r) (end2 r)) ∧ ¬ Un F P (place r) (end2 r) :=
  ⟨fun z => hf (.inl z), fun c => he ⟨fun z => hf (.inl z), (headF_conn hF _ _).mpr c⟩, fun u => hf (.inr u)⟩
theorem cut214 (ns : List Int) : ∃ ms : List Int, cutV (ns.map V.int) (some 2) (some 16) = ms.map V.int ∧ ms.length ≤ 14 := by
  refine ⟨(ns.drop (HT.sIx ns.length 0 (some 2))).take (HT.sIx ns.length ns.length (some 16) - HT.sIx ns.length 0 (some 2)), ?_, ?_⟩
  · unfold cutV
    rw [List.length_map, List.map_take, List.map_drop]
  · rw [List.length_take, List.length_drop]
    show min (min 16 ns.length - min 2 ns.length) _ ≤ 14
    lia
theorem valV_dropN {j k : Key} (h : ¬ j = k) : ∀ kvs : List (Key × V), valV (dropK kvs k) j = valV kvs j
  | [] => rfl
  | p :: l => by
    have ih := valV_dropN h l
    unfold dropK at ih ⊢
    by_cases e : p.1 = k
    · rw [List.filter_cons_of_neg (by simp [e]), ih, valV_neg (fun z => h (z.symm.trans e))]
    · rw [List.filter_cons_of_pos (by simp [e])]
      by_cases e2 : p.1 = j
      · rw [valV_pos e2, valV_pos e2]
      · rw [valV_neg e2, valV_neg e2, ih]
noncomputable def prs : List Str → List (Str × Str)
  | [] => []
  | x :: l => l.map (fun y => (x, y)) ++ prs l
theorem prs_mem : ∀ {l : List Str} {a b : Str}, a ∈ l → b ∈ l → a ≠ b → (a, b) ∈ prs l ∨ (b, a) ∈ prs l
  | x :: l, a, b, ha, hb, hne => by
    rcases List.mem_cons.mp ha with rfl | ha'
    · rcases List.mem_cons.mp hb with z | hb'
      · exact absurd z.symm hne
      · exact .inl (List.mem_append.mpr (.inl (List.mem_map.mpr ⟨b, hb', rfl⟩)))
    · rcases List.mem_cons.mp hb with rfl | hb'
      · exact .inr (List.mem_append.mpr (.inl (List.mem_map.mpr ⟨a, ha', rfl⟩)))
      · exact (prs_mem ha' hb' hne).imp (fun z => List.mem_append.mpr (.inr z)) (fun z => List.mem_append.mpr (.inr z))
theorem prs_len : ∀ {l : List Str}, l.length = 6 → (prs l).length ≤ 15
  | [a, b, c, d, e, f], _ => by simp [prs]
noncomputable def Open (F P : List (List Str)) (a b : Str) : Prop := ¬ Conn F a b ∧ ¬ Un F P a b
open Classical in
noncomputable def cnt (F P : List (List Str)) (xs : List Str) : Nat := (prs xs).countP fun p => decide (Open F P p.1 p.2)
theorem countP_lt {α : Type} {p q : α → Bool} : ∀ {l : List α}, (∀ x ∈ l, q x = true → p x = true) → (∃ x ∈ l, p x = true ∧ q x = false) → l.countP q < l.countP p
  | [], _, h => by obtain ⟨x, hx, _⟩ := h; cases hx
  | y :: l, h1, h2 => by
    have mono : l.countP q ≤ l.countP p := List.countP_mono_left fun x hx => h1 x (List.mem_cons_of_mem _ hx)
    obtain ⟨x, hx, hp, hq⟩ := h2
    have hy := h1 y (List.mem_cons_self ..)
    rw [List.countP_cons, List.countP_cons]
    rcases List.mem_cons.mp hx with rfl | hx'
    · rw [hp, hq]; simp; lia
    · have := countP_lt (l := l) (fun x hx => h1 x (List.mem_cons_of_mem _ hx)) ⟨x, hx', hp, hq⟩
      cases hqy : q y with
      | false => simp; split <;> lia
      | true => rw [hy hqy]; simp; lia
theorem conn_mono {F F' : List (List Str)} (h : ∀ r ∈ F, r ∈ F') {a b : Str} (c : Conn F a b) : Conn F' a b := by
  induction c with
  | refl x => exact .refl x
  | fact hf => exact .fact (h _ hf)
  | symm _ ih => exact ih.symm
  | trans _ _ i1 i2 => exact i1.trans i2
theorem un_mono {F F' P : List (List Str)} (h : ∀ r ∈ F, r ∈ F') {a b : Str} (u : Un F P a b) : Un F' P a b := fun R C => u R ⟨fun u v hf => C.fact u v (h _ hf), C.symm, fun a b c hc hr => C.conn a b c (conn_mono h hc) hr, C.nil, C.two⟩
open Classical in
theorem cnt_lt {F P : List (List Str)} {xs : List Str} {k p q : Str} (hk : k = "is" ∨ k = "not") (hp : p ∈ xs) (hq : q ∈ xs) (ho : Open F P p q) : cnt (F ++ [[k, p, q]]) P xs < cnt F P xs := by
  have hsub : ∀ r ∈ F, r ∈ F ++ [[k, p, q]] := fun r hr => List.mem_append.mpr (.inl hr)
  have hin : [k, p, q] ∈ F ++ [[k, p, q]] := List.mem_append.mpr (.inr (List.mem_singleton.mpr rfl))
  have hne : p ≠ q := fun z => ho.1 (z ▸ .refl p)
  have ho' : Open F P q p := ⟨fun c => ho.1 c.symm, fun u => ho.2 ((un_clo F P).symm _ _ u)⟩
  have hno : ¬ Open (F ++ [[k, p, q]]) P p q := fun z => by
    rcases hk with rfl | rfl
    · exact z.1 (.fact hin)
    · exact z.2 ((un_clo _ _).fact _ _ hin)
  have hno' : ¬ Open (F ++ [[k, p, q]]) P q p := fun z => hno ⟨fun c => z.1 c.symm, fun u => z.2 ((un_clo _ _).symm _ _ u)⟩
  unfold cnt
  refine countP_lt (fun x _ hx => ?_) ?_
  · have := of_decide_eq_true hx
    exact decide_eq_true ⟨fun c => this.1 (conn_mono hsub c), fun u => this.2 (un_mono hsub u)⟩
  · rcases prs_mem hp hq hne with z | z
    · exact ⟨_, z, decide_eq_true ho, decide_eq_false hno⟩
    · exact ⟨_, z, decide_eq_true ho', decide_eq_false hno'⟩
theorem PoolPart.end2 {xs : List Str} (hn : ("nil" : Str) ∈ xs) {r : List Str} (h : PoolPart xs r) : end2 r ∈ xs := by
  rcases h with ⟨a, f, s, rfl, h1, _⟩ | ⟨a, b, rfl, h1, h2⟩ | ⟨a, rfl, h1⟩
  · have : Kn.end2 [("cell" : Str), a, f, s] = "nil" := if_neg (show ¬ ("cell" : Str) = "stretch" by decide +kernel)
    rw [this]; exact hn
  · have : Kn.end2 [("stretch" : Str), a, b] = b := if_pos rfl
    rw [this]; exact h2
  · have : Kn.end2 [("tree" : Str), a] = "nil" := if_neg (show ¬ ("tree" : Str) = "stretch" by decide +kernel)
    rw [this]; exact hn
section
variable {P : Program} {w : World} {K : PySem.W.Frag} {mg : Str → Option Value} {base : Heap} {f gC gM gN gD gK gL gO gX gF : Addr} {fd dC dM dN dD dK dL dO dX dF : FuncData}
theorem scLaw : FnScope ["_law_script", "_law_pool", "_law_bits", "_law_first", "_law_parts", "_law_facts", "_law_turn", "_law_pair", "_law_values", "_law_heap", "_law_word"] ["_law_script"] (defScope sLaw) := ⟨rfl, rfl, rfl, by decide +kernel, rfl, by decide +kernel, by decide +kernel⟩
theorem ok_law (C : Con K mg w) (F : Fun K "law" "law" sLaw f fd)
    (GC : FnOk P w K mg base CX0 1 gC dC ["_law_script", "_law_k"] (spCell K)) (cC : Cal K mg "_law_cell_at" gC dC ["_law_script", "_law_k"])
    (GM : FnOk P w K mg base CX0 1 gM dM ["_law_cell", "_law_k"] spMixed) (cM : Cal K mg "_law_mixed" gM dM ["_law_cell", "_law_k"])
    (GN : FnOk P w K mg base CX0 2 gN dN ["_law_cell", "_law_many"] (spNames K)) (cN : Cal K mg "_law_names" gN dN ["_law_cell", "_law_many"])
    (GD : FnOk P w K mg base CX0 2 gD dD ["_law_cells", "_law_pool"] (spDrawn K)) (cD : Cal K mg "_law_drawn" gD dD ["_law_cells", "_law_pool"])
    (GL : FnOk P w K mg base CX0 7 gL dL ["facts", "parts"] (spClashesP K)) (cL : Cal K mg "clashes" gL dL ["facts", "parts"])
    (GK : FnOk P w K mg base CX0 7 gK dK ["facts", "parts", "a", "b"] (spKnownP K)) (cK : Cal K mg "known" gK dK ["facts", "parts", "a", "b"])
    (GO : FnOk P w K mg base CX0 7 gO dO ["facts", "parts"] (spOpenP K)) (cO : Cal K mg "open_pair" gO dO ["facts", "parts"])
    (GX : FnOk P w K mg base CX0 7 gX dX ["facts", "parts", "names"] (spExample K)) (cX : Cal K mg "example" gX dX ["facts", "parts", "names"])
    (GF : FnOk P w K mg base CX0 3 gF dF ["_law_values", "_law_heap", "_law_telling"] (spFits K)) (cF : Cal K mg "_law_fits" gF dF ["_law_values", "_law_heap", "_law_telling"]) : FnOk P w K mg base CX0 8 f fd ["_law_script"] (spLaw K) := by
  refine F.okQ scLaw (fun vs H Q E h => ?_) (fun cdv A outer s0 H vs Q E hr h => ?_)
  · obtain ⟨c, k, rfl, _⟩ := h; rfl
  obtain ⟨a, ns, rfl, hA, q⟩ := h
  have nd := scLaw.nd
  have hu1 := hu_of hr
  have hr1 := hr.mono (j := 1) (by lia)
  have hr2 := hr.mono (j := 2) (by lia)
  have hr3 := hr.mono (j := 3) (by lia)
  refine ⟨_, qb_cons (qs_set (i := 1) nd rfl (Or.inl rfl) (qe_op op_cat (qe_call GN hr2 rfl cN.name cN.keep cN.bind .nil pass0 (qa_call (qe_call GC hr1 rfl cC.name cC.keep cC.bind .nil pass0 (qa_nm (qv 0) (qa_int qa_nil))) (qa_int qa_nil))) (qe_lst (qa_str qa_nil))))
    (qb_cons (qs_set (i := 2) nd rfl (Or.inl rfl) (qe_call GM hr1 rfl cM.name cM.keep cM.bind .nil pass0 (qa_call (qe_call GC hr1 rfl cC.name cC.keep cC.bind .nil pass0 (qa_nm (qv 0) (qa_int qa_nil))) (qa_int qa_nil))))
    (qb_cons (qs_flat (qs_asg (qe_call GD hr2 rfl cD.name cD.keep cD.bind .nil pass0 (qa_sub (qe_slice (slLk (K := K) rfl) (qv 0) (qo_some qe_int) (qo_some qe_int)) (qa_nm (qv 1) qa_nil))) (qg_tup2K (K := K) rfl (qg_name (i := 3) nd rfl (Or.inl rfl)) (qg_name (i := 4) nd rfl (Or.inl rfl)))))
    (qb_cons (qs_set (i := 5) nd rfl (Or.inl rfl) (qe_callTy (lstKk (K := K) rfl) rfl C.list PyProof.Rows.boot_list (qa_nm (qv 3) qa_nil)))
    (qb_cons (qs_for PassesOwn.never rfl (qi_range1 rfl C.range (qa_int qa_nil)) (qg_name (i := 6) nd rfl (Or.inl rfl)) (qb_cons (qs_if (qt_val (qe_call GL hr rfl cL.name cL.keep cL.bind .nil pass0 (qa_nm (qv 5) (qa_nm (qv 4) qa_nil)))) (qb_one (qs_ret qe_bl)) qb_nil)
    (qb_cons (qs_set (i := 7) nd rfl (Or.inl rfl) (qe_call GO hr rfl cO.name cO.keep cO.bind .nil pass0 (qa_nm (qv 5) (qa_nm (qv 4) qa_nil))))
    (qb_cons (qs_if (qt_cmpR op_isN (qv 7) qe_non (nomark _)) (qb_cons (qs_asg (qe_call GX hr rfl cX.name cX.keep cX.bind .nil pass0 (qa_nm (qv 5) (qa_nm (qv 4) (qa_call (qe_callTy (lstKk (K := K) rfl) rfl C.list PyProof.Rows.boot_list (qa_sub (qe_slice (slLk (K := K) rfl) (qv 1) qo_none (qo_some qe_int)) qa_nil)) qa_nil)))) (qg_tup2K (K := K) rfl (qg_name (i := 8) nd rfl (Or.inl rfl)) (qg_name (i := 9) nd rfl (Or.inl rfl))))
    (qb_cons (qs_dput hu1 (qv 8) qe_str qe_int)
    (qb_one (qs_ret (qe_and (qe_call GF hr3 rfl cF.name cF.keep cF.bind .nil pass0 (qa_nm (qv 8) (qa_nm (qv 9) (qa_tp (qa_nm (qv 5) (qa_nm (qv 4) qa_nil)) qa_nil)))) (qe_one (qe_call GF hr3 rfl cF.name cF.keep cF.bind .nil pass0 (qa_nm (qv 8) (qa_nm (qv 9) (qa_tp (qa_nm (qv 3) (qa_nm (qv 4) qa_nil)) qa_nil)))))))))) qb_nil)
    (qb_cons (qs_set (i := 10) nd rfl (Or.inl rfl) (qe_ix (ixKk (K := K) rfl) (qe_lst (qa_str (qa_str qa_nil))) (qe_op op_mod (qv 2) qe_int) (fun _ _ => rfl)))
    (qb_cons (qs_set (i := 2) nd rfl (Or.inl rfl) (qe_op op_fdiv (qv 2) qe_int))
    (qb_cons (qs_if (qt_cmpR op_ne (qe_call GK hr rfl cK.name cK.keep cK.bind .nil pass0 (qa_nm (qv 5) (qa_nm (qv 4) (qa_sub (qe_ix (ixTk (K := K) rfl) (qv 7) qe_int (fun _ _ => rfl)) (qa_sub (qe_ix (ixTk (K := K) rfl) (qv 7) qe_int (fun _ _ => rfl)) qa_nil))))) qe_str (nomark _)) (qb_one (qs_ret qe_bl)) qb_nil)
    (qb_cons (qs_expr (qe_bmK (K := K) rfl PySem.F.plainAttrs_list PySem.F.slot_list_append PySem.F.type_list_append mt_append (qv 5) (qa_tp (qa_nm (qv 10) (qa_sub (qe_ix (ixTk (K := K) rfl) (qv 7) qe_int (fun _ _ => rfl)) (qa_sub (qe_ix (ixTk (K := K) rfl) (qv 7) qe_int (fun _ _ => rfl)) qa_nil))) qa_nil)))
    (qb_one (qs_if (QW.qt (qw_and (qt_not (qt_val (qe_call GL hr rfl cL.name cL.keep cL.bind .nil pass0 (qa_nm (qv 5) (qa_nm (qv 4) qa_nil))))) (qw_and1 (qt_cmpR op_ne (qe_call GK hr rfl cK.name cK.keep cK.bind .nil pass0 (qa_nm (qv 5) (qa_nm (qv 4) (qa_sub (qe_ix (ixTk (K := K) rfl) (qv 7) qe_int (fun _ _ => rfl)) (qa_sub (qe_ix (ixTk (K := K) rfl) (qv 7) qe_int (fun _ _ => rfl)) qa_nil))))) (qv 10) (nomark _))))) (qb_one (qs_ret qe_bl)) qb_nil))))))))))
    (qb_one (qs_ret qe_bl)))))), ?_⟩
  refine ⟨_, rfl, a, ns, 0, rfl, hA, cellAt ns 0, 5, rfl, by decide, fun l0 ys H1 e1 hL0 hy5 hynm => ?_⟩
  refine ⟨(show 1 ≤ sizeLine by decide), fun l1 hl1 => ?_⟩
  have e2 := e1.trans (same_new hl1 (.lst [.str "nil"]))
  refine ⟨l0, l1, _, _, rfl, rfl, same_new hl1 _ _ _ hL0, upd_same, ?_, fun pl hpl => ?_⟩
  · rw [List.length_map, hy5]; decide
  have e3 := e2.trans (same_new hpl (.lst (ys.map V.str ++ [.str "nil"])))
  have hX3 : (upd (upd H1 l1 (.lst [.str "nil"])) pl (.lst (ys.map V.str ++ [.str "nil"]))) pl = some (.lst ((ys ++ [("nil" : Str)]).map V.str)) := by rw [upd_same, List.map_append]; rfl
  generalize upd (upd H1 l1 (.lst [.str "nil"])) pl (.lst (ys.map V.str ++ [.str "nil"])) = H3 at e3 hX3 ⊢
  obtain ⟨xs, hxs, hx6, hok, hnil, hword, hshort⟩ : ∃ xs : List Str, ys ++ [("nil" : Str)] = xs ∧ xs.length = 6 ∧ (∀ x ∈ xs, Ok x) ∧ ("nil" : Str) ∈ xs ∧ (∀ x ∈ xs, Word x) ∧ (∀ x ∈ xs, Short x) := ⟨_, rfl, (by rw [List.length_append, hy5]; rfl), (fun x hx => by
    rcases List.mem_append.mp hx with z | z
    · exact (hynm x z).1.ok
    · rw [List.mem_singleton.mp z]; exact (show (PyData.str "nil").canLay0 = true by decide +kernel)), List.mem_append.mpr (.inr (List.mem_singleton.mpr rfl)), (fun x hx => by
    rcases List.mem_append.mp hx with z | z
    · exact .inr (hynm x z).2
    · exact .inl (List.mem_singleton.mp z)), (fun x hx => by
    rcases List.mem_append.mp hx with z | z
    · exact Nat.le_trans (hynm x z).1.len (by decide)
    · rw [List.mem_singleton.mp z]; exact (show Str.length "nil" ≤ 1000 by decide +kernel))⟩
  rw [hxs] at hX3
  clear hxs hynm hy5 hL0 e1 e2 hl1 hpl
  have hA3 := e3.seq hA
  refine ⟨_, rfl, a, ns, 1, rfl, hA3, cellAt ns 1, 1, rfl, (by decide), fun bits0 _ => ?_⟩
  obtain ⟨ms, hms, hm14⟩ := cut214 ns
  refine ⟨_, rfl, _, rfl, _, rfl, a, _, rfl, hA3, fun p hp => ?_⟩
  rw [hms]
  have s4 := same_new hp (.lst (ms.map V.int))
  refine ⟨_, rfl, p, pl, ms, xs, rfl, SqL.of upd_same, hm14, s4 _ _ hX3, hx6, hnil, fun t fl ql F0 Ps H5 e5 ht _ hF hQ hF8 hP6 hFr hPr => ?_⟩
  have hX5 := e5 _ _ (s4 _ _ hX3)
  clear s4 e5 hA3 hX3 e3
  refine ⟨t, _, rfl, ht, rfl, _, _, rfl, _, _, rfl, rfl, ?_⟩
  intro τ eτ
  obtain rfl : τ = [some (.ref a), some (.ref pl), some (.int bits0), some (.ref fl), some (.ref ql), none, none, none, none, none, none] := eτ
  obtain ⟨fas, hfl, hfp⟩ := id hF
  have hprow : ∀ r ∈ Ps, PartRow r := fun r hr => (hPr r hr).row
  refine ⟨_, rfl, fl, _, rfl, .inl (SqL.of hfl), fun f2 hf2 => ?_⟩
  have s6 := same_new hf2 (.lst (fas.map V.ref))
  have hg6 : (upd H5 f2 (.lst (fas.map V.ref))) f2 = some (.lst (fas.map V.ref)) := upd_same
  have hfp6 : Paired (fun b r => RowAt K (upd H5 f2 (.lst (fas.map V.ref))) b r) fas F0 := Paired.mapP hfp fun _ _ z => RowAt.same z s6
  generalize upd H5 f2 (.lst (fas.map V.ref)) = H6 at s6 hg6 hfp6 ⊢
  have hc15 : cnt F0 Ps xs + 0 ≤ 15 := Nat.le_trans (List.countP_le_length) (prs_len hx6)
  refine ⟨_, rfl, (by decide), (by decide), ?_⟩
  refine for_range (lo := 0) (n := (16 : Int).toNat) (fun i σ H2 => Same H5 H2 ∧ ∃ (as : List Addr) (Fs : List (List Str)) (bits : Int) (z6 z7 z8 z9 z10 : Option V), H2 f2 = some (.lst (as.map V.ref)) ∧ Paired (fun b r => RowAt K H2 b r) as Fs ∧ (∀ r ∈ F0, r ∈ Fs) ∧ Fs.length ≤ 8 + i ∧ (∀ r ∈ Fs, PoolRow xs r) ∧ cnt Fs Ps xs + i ≤ 15 ∧ σ = [some (.ref a), some (.ref pl), some (.int bits), some (.ref fl), some (.ref ql), some (.ref f2), z6, z7, z8, z9, z10])
    ⟨s6, fas, F0, bits0, none, none, none, none, none, hg6, hfp6, (fun r h => h), hF8, hFr, hc15, rfl⟩ ?_ ?_
  · rintro i σ H2 hi ⟨e2, as, Fs, bits, z6, z7, z8, z9, z10, hf2', hfp2, hsub, hFl, hFr2, hcnt, rfl⟩
    have hi16 : i < 16 := by lia
    have hF2 : RowsAt K H2 f2 Fs := ⟨as, hf2', hfp2⟩
    have hQ2 := hQ.same e2
    have hrow : ∀ r ∈ Fs, FactRow r := fun r hr => (hFr2 r hr).fact
    refine ⟨_, rfl, _, rfl, f2, ql, Fs, Ps, rfl, hF2, (by lia), hrow, hQ2, (by lia), hprow, fun c H3 e3 hc => ⟨c, rfl, iteB (fun _ => q _) (fun cc => ?_)⟩⟩
    have nocl : ∀ y, ¬ Un Fs Ps y y := fun y hy => by
      have := hc.mpr ⟨y, hy⟩
      rw [cc] at this; cases this
    have hF3 := hF2.same e3
    have hQ3 := hQ2.same e3
    refine ⟨_, rfl, _, rfl, f2, ql, Fs, Ps, rfl, hF3, (by lia), hrow, hQ3, (by lia), hprow, fun H4 e4 hno => ?_, fun j r t4 H4 e4 hj he hf hs hT => ?_⟩
    · refine ⟨_, rfl, rfl, _, rfl, iteB (fun _ => ?_) (fun c => by simp at c)⟩
      have hrd : ∀ (j : Nat) r, Ps[j]? = some r → ¬ EmptyR r (headF Fs) [] → ¬ SharesR Fs Ps (neOf Fs Ps) j r := fun j r hj he => none_right hrow nocl hno hj he
      have e24 := e2.trans (e3.trans e4)
      have hX4 := e24 _ _ hX5
      refine ⟨_, rfl, _, rfl, _, rfl, _, rfl, pl, _, rfl, SqL.of hX4, fun p1 hp1 => ?_⟩
      have hcv : cutV (xs.map V.str) none (some 5) = (xs.take 5).map V.str := by
        unfold cutV
        rw [List.length_map, hx6]
        show ((xs.map V.str).drop 0).take 5 = _
        rw [List.drop_zero, List.map_take]
      rw [hcv]
      have s5 := same_new hp1 (.lst ((xs.take 5).map V.str))
      refine ⟨p1, _, rfl, .inl (SqL.of upd_same), fun p2 hp2 => ?_⟩
      have s6' := same_new hp2 (.lst ((xs.take 5).map V.str))
      have hN6 : (upd (upd H4 p1 (.lst ((xs.take 5).map V.str))) p2 (.lst ((xs.take 5).map V.str))) p2 = some (.lst ((xs.take 5).map V.str)) := upd_same
      have e46 := s5.trans s6'
      generalize upd (upd H4 p1 (.lst ((xs.take 5).map V.str))) p2 (.lst ((xs.take 5).map V.str)) = H6' at e46 hN6 ⊢
      clear s5 s6' hp1 hp2 hcv
      have e26 := e24.trans e46
      have hF6' := (hF3.same e4).same e46
      have hQ6' := (hQ3.same e4).same e46
      have hinF : ∀ r ∈ Fs, ∀ y ∈ r.drop 1, y ∈ xs := fun r hr y hy => by
        obtain ⟨k, u, v, rfl, _, hu, hv⟩ := hFr2 r hr
        rcases List.mem_cons.mp hy with rfl | z
        · exact hu
        · rw [List.mem_singleton.mp z]; exact hv
      have hinP : ∀ r ∈ Ps, ∀ y ∈ r.drop 1, y = "any" ∨ y ∈ xs := fun r hr y hy => by
        rcases hPr r hr with ⟨a, f, s, rfl, h1, h2, h3⟩ | ⟨a, b, rfl, h1, h2⟩ | ⟨a, rfl, h1⟩
        · rcases List.mem_cons.mp hy with rfl | z
          · exact .inr h1
          · rcases List.mem_cons.mp z with rfl | z2
            · exact h2.symm
            · rw [List.mem_singleton.mp z2]; exact h3.symm
        · rcases List.mem_cons.mp hy with rfl | z
          · exact .inr h1
          · rw [List.mem_singleton.mp z]; exact .inr h2
        · rw [List.mem_singleton.mp hy]; exact .inr h1
      have hshA : Short "any" := (show Str.length "any" ≤ 1000 by decide +kernel)
      have hsF : ShortRows Fs := ⟨by lia, fun r hr => by
        have hd := hinF r hr
        obtain ⟨k, u, v, rfl, hk, _, _⟩ := hFr2 r hr
        refine ⟨(show 3 ≤ 5 by decide), fun x hx => ?_⟩
        rcases List.mem_cons.mp hx with rfl | z
        · rcases hk with rfl | rfl
          · exact (show Str.length "is" ≤ 1000 by decide +kernel)
          · exact (show Str.length "not" ≤ 1000 by decide +kernel)
        · exact hshort x (hd x z)⟩
      have hsP : ShortRows Ps := ⟨by lia, fun r hr => by
        have hd := hinP r hr
        have hw : ∀ x ∈ r.drop 1, Short x := fun x hx => (hd x hx).elim (fun z => z ▸ hshA) (fun z => hshort x z)
        rcases hprow r hr with ⟨a, f, s, rfl⟩ | ⟨a, b, rfl⟩ | ⟨a, rfl⟩
        · refine ⟨(show 4 ≤ 5 by decide), fun x hx => ?_⟩
          rcases List.mem_cons.mp hx with rfl | z
          · exact (show Str.length "cell" ≤ 1000 by decide +kernel)
          · exact hw x z
        · refine ⟨(show 3 ≤ 5 by decide), fun x hx => ?_⟩
          rcases List.mem_cons.mp hx with rfl | z
          · exact (show Str.length "stretch" ≤ 1000 by decide +kernel)
          · exact hw x z
        · refine ⟨(show 2 ≤ 5 by decide), fun x hx => ?_⟩
          rcases List.mem_cons.mp hx with rfl | z
          · exact (show Str.length "tree" ≤ 1000 by decide +kernel)
          · exact hw x z⟩
      have hanyN : ("any" : Str) ∈ Mir.noNames := by decide +kernel
      have hwx : ∀ y, y ∈ words (Fs ++ Ps) → y ∈ xs := fun y hy => by
        obtain ⟨r, hr, h1, h2⟩ := mem_words.mp hy
        rcases List.mem_append.mp hr with z | z
        · exact hinF r z y h1
        · exact (hinP r z y h1).resolve_left (fun w => h2 (w ▸ hanyN))
      have h64 : ∀ ss : List Str, ss.Nodup → (∀ y ∈ ss, y ∈ words (Fs ++ Ps)) → ss.length < 64 := fun ss h1 h2 => by
        have := nd_len0 h1 (m := xs) fun y hy => hwx y (h2 y hy)
        lia
      have gd : ∀ {j : Nat}, j ∈ neOf Fs Ps → Ps[j]? = some (Ps.getD j []) := fun {j} hj => by
        rw [List.getD_eq_getElem?_getD, List.getElem?_eq_getElem (ne_lt hj)]; rfl
      have hAp : Apart Fs Ps := fun i hi j hj hij z => hrd i _ (gd hi) ((neOf_mem (gd hi)).mp hi) (.inl ⟨j, hj, Ne.symm hij, _, gd hj, z⟩)
      have hwd : ∀ r ∈ Ps, Word (place r) ∧ (r.getD 0 "" = "stretch" → Word (r.getD 2 "")) := fun r hr => by
        refine ⟨hword _ (hPr r hr).place, fun c => ?_⟩
        rcases hPr r hr with ⟨a, f, s, rfl, h1, h2, h3⟩ | ⟨a, b, rfl, h1, h2⟩ | ⟨a, rfl, h1⟩
        · exact absurd c (by show ¬ ("cell" : Str) = "stretch"; decide +kernel)
        · exact hword _ h2
        · exact absurd c (by show ¬ ("tree" : Str) = "stretch"; decide +kernel)
      refine ⟨f2, ql, p2, Fs, Ps, xs.take 5, rfl, hF6', (by lia), hrow, hQ6', (by lia), hprow, hsF, hsP, h64, hN6, (by rw [List.length_take]; lia), hAp, hwd, fun t7 d h kv ws hp7 H7 e7 hd0 hh0 hdh hT7 E7 => ?_⟩
      refine ⟨t7, _, rfl, SqT.of hT7, rfl, _, _, rfl, _, _, rfl, rfl, ?_⟩
      have hkl : (dropK kv (Sum.inr "nil")).length ≤ 1000 := by
        have h1 := E7.ok.len
        have h2 := E7.few
        have h3 := dropK_le kv (Sum.inr "nil")
        lia
      refine ⟨_, rfl, d, _, rfl, DPut.k (k := Sum.inr "nil") E7.vals (lt_line hkl), ?_⟩
      obtain ⟨kv2, hkv2⟩ : ∃ kv2, putK (dropK kv (Sum.inr "nil")) (Sum.inr "nil") (.int 0) = kv2 := ⟨_, rfl⟩
      have heq : ∀ k, valV kv2 k = valV kv k := fun k => by
        rw [← hkv2, valV_put]
        by_cases e : k = Sum.inr ("nil" : Str)
        · rw [if_pos e, e, E7.ok.nil]
        · rw [if_neg e, valV_dropN e]
      rw [hkv2]
      have hD8 : (upd H7 d (.dK kv2)) d = some (.dK kv2) := upd_same
      have hH8 : (upd H7 d (.dK kv2)) h = some (.dK (hv hp7)) := by rw [upd_ne (Ne.symm hdh)]; exact E7.heap
      have hC8 : CellsAt K (upd H7 d (.dK kv2)) hp7 (heapF kv ((ws.length : Int) + 1) Ps (neOf Fs Ps)) := Paired.mapP E7.cells fun a c z => ⟨z.1, sq_putD E7.vals z.2⟩
      have e68 : Same H6' (upd H7 d (.dK kv2)) := same_put hd0 e7 _
      generalize upd H7 d (.dK kv2) = H8 at hD8 hH8 hC8 e68 ⊢
      have dom : ∀ {x : Str}, x ∈ xs → (x ∈ words (Fs ++ Ps) ∨ x = "nil") → Dom ws x := fun {x} hx hw => hw.elim (fun z => .inr ((E7.mem x).mpr (.inl z))) .inl
      have inw : ∀ {r : List Str} {x : Str}, r ∈ Fs ++ Ps → x ∈ r.drop 1 → x ∈ xs → Dom ws x := fun {r x} hr hx hxx => dom hxx ((hword x hxx).elim .inr (fun z => .inl (mem_words.mpr ⟨r, hr, hx, z⟩)))
      have anyx : ¬ ("any" : Str) ∈ xs := fun z => (hword _ z).elim (fun w => absurd w (by decide +kernel)) (fun w => w hanyN)
      have RD : Ready Fs Ps ws kv kv2 := by
        refine ⟨hrow, hprow, E7.ok, heq, fun r hr x hx => inw (List.mem_append.mpr (.inl hr)) hx (hinF r hr x hx), fun r hr x hx => (hinP r hr x hx).imp id (fun z => inw (List.mem_append.mpr (.inr hr)) hx z), fun r hr => ?_, fun r hr c => ?_, fun z => ?_, nocl, hrd⟩
        · refine inw (r := r) (List.mem_append.mpr (.inr hr)) ?_ (hPr r hr).place
          rcases hprow r hr with ⟨a, b, c, e⟩ | ⟨a, b, e⟩ | ⟨a, e⟩ <;> (rw [e]; exact List.mem_cons_self ..)
        · rcases hPr r hr with ⟨a, f, s, rfl, h1, h2, h3⟩ | ⟨a, b, rfl, h1, h2⟩ | ⟨a, rfl, h1⟩
          · exact absurd c (by show ¬ ("cell" : Str) = "stretch"; decide +kernel)
          · exact inw (List.mem_append.mpr (.inr hr)) (List.mem_cons_of_mem _ (List.mem_cons_self ..)) h2
          · exact absurd c (by show ¬ ("tree" : Str) = "stretch"; decide +kernel)
        · rcases z with z | z
          · exact absurd z (by decide +kernel)
          · rcases (E7.mem _).mp z with w | w
            · obtain ⟨r, _, _, h2⟩ := mem_words.mp w
              exact h2 hanyN
            · exact anyx (List.mem_of_mem_take w)
      obtain ⟨rs, hrs1, hrs2, hrs3⟩ := RD.fits (by lia)
      have hsm : ∀ {x : Str}, Dom ws x → (valV kv2 (Sum.inr x)).isSome = true := fun {x} hx => by rw [heq, E7.ok.at_ x hx]; rfl
      have hIn : IntsAt kv2 := fun x => by
        cases hz : valV kv (Sum.inr x) with
        | none => exact .inl (by rw [heq, hz])
        | some v =>
          obtain ⟨y, h1, h2⟩ := E7.ok.no (Sum.inr x) (by rw [hz]; rfl)
          cases Sum.inr.inj h1
          have := E7.ok.at_ x h2
          refine .inr ?_
          rw [vI_eq heq, heq]
          exact this
      have cov : ∀ {Hx : Hp} {tl fl' : Addr} {F' : List (List Str)}, Same H8 Hx → SqT K Hx tl [.ref fl', .ref ql] → RowsAt K Hx fl' F' → (∀ r ∈ F', r ∈ Fs) → CovIn K Hx d h tl fl' ql kv2 hp7 (heapF kv ((ws.length : Int) + 1) Ps (neOf Fs Ps)) F' Ps rs := fun {Hx tl fl' F'} ex htl hfx hsb =>
        ⟨ex _ _ hD8, hIn, ex _ _ hH8, hC8.same ex, htl, hfx, (fun r hr => hrow r (hsb r hr)), (fun r hr => ⟨fun x hx => .inr (hsm (RD.dF r (hsb r hr) x hx)), fun z => anyx (hinF r (hsb r hr) _ z)⟩), (hQ6'.same e68).same ex, hprow, (fun r hr => ⟨fun x hx => (RD.dP r hr x hx).imp id (fun z => hsm z), hsm (RD.pl r hr), fun c => hsm (RD.en r hr c)⟩), hrs1, hrs2, (by lia)⟩
      refine ⟨_, rfl, _, rfl, _, rfl, _, rfl, (show 2 ≤ sizeLine by decide), fun t3 ht3 => ?_⟩
      have s9 := same_new ht3 (.tup [.ref f2, .ref ql])
      refine ⟨d, h, t3, f2, ql, kv2, hp7, _, Fs, Ps, rs, rfl, cov s9 (SqT.of upd_same) ((hF6'.same e68).same s9) (fun r h => h), fun b9 H9 e9 hb9 => ?_⟩
      have : b9 = true := hb9.mpr (hrs3 Fs (fun r h => h))
      subst this
      refine ⟨_, rfl, iteB (fun _ => ?_) (fun c => by cases c)⟩
      have e89 := s9.trans e9
      clear s9 e9 ht3
      refine ⟨_, rfl, _, rfl, _, rfl, _, rfl, (show 2 ≤ sizeLine by decide), fun t4 ht4 => ?_⟩
      have s10 := same_new ht4 (.tup [.ref fl, .ref ql])
      have e10 := e89.trans s10
      refine ⟨d, h, t4, fl, ql, kv2, hp7, _, F0, Ps, rs, rfl, cov e10 (SqT.of upd_same) (hF.same ((e26.trans e68).trans e10)) hsub, fun b11 H11 e11 hb11 => ?_⟩
      have : b11 = true := hb11.mpr (hrs3 F0 hsub)
      subst this
      exact q _
    · refine ⟨_, rfl, rfl, _, rfl, iteB (fun c => by simp at c) (fun _ => ?_)⟩
      obtain ⟨hncell, hnc, hnu⟩ := pair_open hrow he hf
      have hrp := hPr r (List.mem_of_getElem? hj)
      obtain ⟨p9, hp9⟩ : ∃ p9, place r = p9 := ⟨_, rfl⟩
      obtain ⟨q9, hq9⟩ : ∃ q9, Kn.end2 r = q9 := ⟨_, rfl⟩
      have hpx : p9 ∈ xs := hp9 ▸ hrp.place
      have hqx : q9 ∈ xs := hq9 ▸ PoolPart.end2 hnil hrp
      rw [hp9, hq9] at hnc hnu hT
      have hopen : Open Fs Ps p9 q9 := ⟨hnc, hnu⟩
      have e24 := e2.trans (e3.trans e4)
      refine ⟨(show 2 ≤ sizeLine by decide), fun l5 hl5 => ?_⟩
      have s5 := same_new hl5 (.lst [.str "is", .str "not"])
      obtain ⟨v9, hv9, hm9⟩ := at_mod (xs := ([.str "is", .str "not"] : List V)) (m := 2) (i := bits) rfl (by decide)
      obtain ⟨k9, rfl, hk9⟩ : ∃ k9 : Str, v9 = .str k9 ∧ (k9 = "is" ∨ k9 = "not") := by
        rcases List.mem_cons.mp hm9 with z | z
        · exact ⟨_, z, .inl rfl⟩
        · exact ⟨_, List.mem_singleton.mp z, .inr rfl⟩
      refine ⟨_, rfl, _, _, rfl, rfl, (show (0 : Int) < 2 by decide), l5, _, _, .str k9, rfl, rfl, SqL.of upd_same, hv9, ?_⟩
      have hF5 := (hF3.same e4).same s5
      have hQ5 := (hQ3.same e4).same s5
      have hT5 := s5 _ _ hT
      have e25 := e24.trans s5
      generalize upd H4 l5 (.lst [.str "is", .str "not"]) = H5' at s5 hF5 hQ5 hT5 e25 ⊢
      clear hl5 hT s5
      refine ⟨_, rfl, _, _, rfl, rfl, (show CDiv _ 2 from ⟨by decide, by decide⟩), ?_⟩
      refine ⟨_, rfl, _, rfl, _, rfl, t4, _, 0, .str p9, rfl, rfl, SqT.of hT5, rfl, _, rfl, t4, _, 1, .str q9, rfl, rfl, SqT.of hT5, rfl, f2, ql, Fs, Ps, p9, q9, rfl, hF5, (by lia), hrow, hQ5, (by lia), hprow, fun y H6' e6 y1 y2 y3 => ?_⟩
      have hcon : ¬ headF Fs p9 = headF Fs q9 := fun z => hnc ((headF_conn hrow _ _).mp z)
      have ey : y = "" := y3 hcon hnu
      subst ey
      refine ⟨rfl, _, rfl, iteB (fun c => by simp at c) (fun _ => ?_)⟩
      have e26 := e25.trans e6
      have hF6 := hF5.same e6
      have hQ6 := hQ5.same e6
      have hT6 := e6 _ _ hT5
      obtain ⟨as6, hf6, hfp6⟩ := id hF6
      refine ⟨_, rfl, .inl ⟨rfl, _, SqL.of hf6⟩, _, rfl, _, rfl, t4, _, 0, .str p9, rfl, rfl, SqT.of hT6, rfl, _, rfl, t4, _, 1, .str q9, rfl, rfl, SqT.of hT6, rfl, (show 3 ≤ sizeLine by decide), fun t9 ht9 => ?_⟩
      have s7 := same_new ht9 (.tup [.str k9, .str p9, .str q9])
      have hl6 := Paired.length hfp6
      refine ⟨f2, _, _, rfl, rfl, s7 _ _ hf6, lt_line (by rw [List.length_map]; lia), ?_⟩
      have hsn : Same H5 (upd (upd H6' t9 (.tup [.str k9, .str p9, .str q9])) f2 (.lst (as6.map V.ref ++ [.ref t9]))) := same_put hf2 (e26.trans s7) _
      have hf8 : (upd (upd H6' t9 (.tup [.str k9, .str p9, .str q9])) f2 (.lst (as6.map V.ref ++ [.ref t9]))) f2 = some (.lst ((as6 ++ [t9]).map V.ref)) := by rw [upd_same, List.map_append]; rfl
      have hfp8 : Paired (fun b r => RowAt K (upd (upd H6' t9 (.tup [.str k9, .str p9, .str q9])) f2 (.lst (as6.map V.ref ++ [.ref t9]))) b r) (as6 ++ [t9]) (Fs ++ [[k9, p9, q9]]) := Paired.snocP (Paired.mapP hfp6 fun _ _ z => sq_put (s7 _ _ hf6) (s7.seqT z)) (sq_put (s7 _ _ hf6) (SqT.of upd_same))
      have hT8 : (upd (upd H6' t9 (.tup [.str k9, .str p9, .str q9])) f2 (.lst (as6.map V.ref ++ [.ref t9]))) t4 = some (.tup [.str p9, .str q9]) := by
        rw [upd_ne (fun z => by rw [z, hf6] at hT6; cases hT6)]
        exact s7 _ _ hT6
      generalize upd (upd H6' t9 (.tup [.str k9, .str p9, .str q9])) f2 (.lst (as6.map V.ref ++ [.ref t9])) = H8 at hsn hf8 hfp8 hT8 ⊢
      have hnew : PoolRow xs [k9, p9, q9] := ⟨k9, p9, q9, rfl, hk9, hpx, hqx⟩
      have hFr8 : ∀ r ∈ Fs ++ [[k9, p9, q9]], PoolRow xs r := fun r hr => (List.mem_append.mp hr).elim (hFr2 r) (fun z => List.mem_singleton.mp z ▸ hnew)
      have hrow8 : ∀ r ∈ Fs ++ [[k9, p9, q9]], FactRow r := fun r hr => (hFr8 r hr).fact
      have hl8 : (Fs ++ [[k9, p9, q9]]).length ≤ 8 + (i + 1) := by rw [List.length_append, List.length_singleton]; lia
      have hcn8 : cnt (Fs ++ [[k9, p9, q9]]) Ps xs + (i + 1) ≤ 15 := by have := cnt_lt (F := Fs) (P := Ps) hk9 hpx hqx hopen; lia
      have hin8 : [k9, p9, q9] ∈ Fs ++ [[k9, p9, q9]] := List.mem_append.mpr (.inr (List.mem_singleton.mpr rfl))
      have hF8' : RowsAt K H8 f2 (Fs ++ [[k9, p9, q9]]) := ⟨_, hf8, hfp8⟩
      have hQ8 := hQ.same hsn
      have go : ∀ {Hx : Hp}, Same H8 Hx → (Same H5 Hx ∧ ∃ (as : List Addr) (Fs : List (List Str)) (bits' : Int) (y6 y7 y8 y9 y10 : Option V), Hx f2 = some (.lst (as.map V.ref)) ∧ Paired (fun b r => RowAt K Hx b r) as Fs ∧ (∀ r ∈ F0, r ∈ Fs) ∧ Fs.length ≤ 8 + (i + 1) ∧ (∀ r ∈ Fs, PoolRow xs r) ∧ cnt Fs Ps xs + (i + 1) ≤ 15 ∧ [some (.ref a), some (.ref pl), some (.int (bits / 2)), some (.ref fl), some (.ref ql), some (.ref f2), some (V.int (0 + (i : Int))), some (.ref t4), z8, z9, some (.str k9)] = [some (.ref a), some (.ref pl), some (.int bits'), some (.ref fl), some (.ref ql), some (.ref f2), y6, y7, y8, y9, y10]) := fun {Hx} ex =>
        ⟨hsn.trans ex, _, _, _, _, _, _, _, _, ex _ _ hf8, Paired.mapP hfp8 fun _ _ z => RowAt.same z ex, (fun r h => List.mem_append.mpr (.inl (hsub r h))), hl8, hFr8, hcn8, rfl⟩
      refine ⟨_, rfl, _, rfl, f2, ql, _, Ps, rfl, hF8', (by lia), hrow8, hQ8, (by lia), hprow, fun c9 H9 e9 hc9 => ⟨c9, rfl, ?_⟩⟩
      cases c9 with
      | true => exact iteB (fun z => by cases z) (fun _ => iteB (fun z => by cases z) (fun _ => go e9))
      | false =>
        have nocl9 : ∀ y, ¬ Un (Fs ++ [[k9, p9, q9]]) Ps y y := fun y hy => by
          have := hc9.mpr ⟨y, hy⟩
          cases this
        refine iteB (fun _ => ?_) (fun z => by cases z)
        have hT9 := e9 _ _ hT8
        refine ⟨_, rfl, _, rfl, _, rfl, t4, _, 1, .str q9, rfl, rfl, SqT.of hT9, rfl, _, rfl, t4, _, 0, .str p9, rfl, rfl, SqT.of hT9, rfl, f2, ql, _, Ps, q9, p9, rfl, hF8'.same e9, (by lia), hrow8, hQ8.same e9, (by lia), hprow, fun y H10 e10 y1 y2 y3 => ?_⟩
        have ey : y = k9 := by
          rcases hk9 with rfl | rfl
          · exact y1 ((headF_conn hrow8 _ _).mpr (Conn.fact hin8).symm)
          · have hun : Un (Fs ++ [[("not" : Str), p9, q9]]) Ps q9 p9 := (un_clo _ _).symm _ _ ((un_clo _ _).fact _ _ hin8)
            refine y2 (fun z => ?_) hun
            have c := (headF_conn hrow8 _ _).mp z
            exact nocl9 p9 ((un_clo _ _).conn _ _ _ c.symm hun)
        subst ey
        exact ⟨_, rfl, rfl, _, rfl, iteB (fun c => by simp at c) (fun _ => go (e9.trans e10))⟩
  · rintro σ H2 ⟨e2, as, Fs, bits, z6, z7, z8, z9, z10, hf2', hfp2, hsub, hFl, hFr2, hcnt, rfl⟩
    have hcnt' : cnt Fs Ps xs + 16 ≤ 15 := hcnt
    lia
end
end K24
namespace K24
open PySem PySem.Spec L2 Mir Kn
theorem glob_ref {K : PySem.W.Frag} {h : Heap} {mg : Str → Option Value} {x : Str} {a : Addr} (X : K.In h) (G : h.Ns mainGlobals mg) (e : PySem.W.nsIn K mainGlobals x = some (some (.ref a))) : Glob mg x (.ref a) := ⟨_, PySem.W.mg_of X G e, rfl⟩
theorem us1 {us : List Value} (h : us.length = 1) : ∃ a, us = [a] := by
  cases us with
  | nil => cases h
  | cons a us =>
  cases us with
  | nil => exact ⟨a, rfl⟩
  | cons z us => simp at h
theorem us2 {us : List Value} (h : us.length = 2) : ∃ a b, us = [a, b] := by
  cases us with
  | nil => cases h
  | cons a us =>
  cases us with
  | nil => cases h
  | cons b us =>
  cases us with
  | nil => exact ⟨a, b, rfl⟩
  | cons z us => simp at h
theorem us3 {us : List Value} (h : us.length = 3) : ∃ a b c, us = [a, b, c] := by
  cases us with
  | nil => cases h
  | cons a us =>
  cases us with
  | nil => cases h
  | cons b us =>
  cases us with
  | nil => cases h
  | cons c us =>
  cases us with
  | nil => exact ⟨a, b, c, rfl⟩
  | cons z us => simp at h
theorem us4 {us : List Value} (h : us.length = 4) : ∃ a b c d, us = [a, b, c, d] := by
  cases us with
  | nil => cases h
  | cons a us =>
  cases us with
  | nil => cases h
  | cons b us =>
  cases us with
  | nil => cases h
  | cons c us =>
  cases us with
  | nil => cases h
  | cons d us =>
  cases us with
  | nil => exact ⟨a, b, c, d, rfl⟩
  | cons z us => simp at h
theorem all_mk {l : PySem.W.OpenLaw} {w : World} {K : PySem.W.Frag} {h : Heap} {mg : Str → Option Value} {fa Cl f1 f2 f3 f4 f5 f6 f7 f8 f9 f10 f11 f12 f13 f14 f15 f16 f17 f18 f19 f20 f21 f22 f23 f24 f25 f26 f27 f28 f29 f30 f31 : Addr} (X : K.In h) (G : h.Ns mainGlobals mg) (hfa : mg "law" = some (.ref fa))
    {od1 an1 od2 an2 od3 an3 od4 an4 od5 an5 od6 an6 od7 an7 od8 an8 od9 an9 od10 an10 od11 an11 od12 an12 od13 an13 od14 an14 od15 an15 od16 an16 od17 an17 od18 an18 od19 an19 od20 an20 od21 an21 od22 an22 od23 an23 od24 an24 od25 an25 od26 an26 od27 an27 od28 an28 od29 an29 od30 an30 od31 an31 : Option Addr} {sl1 sl2 sl3 sl4 sl5 sl6 sl7 sl8 sl9 sl10 sl11 sl12 sl13 sl14 sl15 sl16 sl17 sl18 sl19 sl20 sl21 sl22 sl23 sl24 sl25 sl26 sl27 sl28 sl29 sl30 sl31 : Array (Option Value)} {oc1 kV1 dc1 pm1 cd1 ct1 oc2 kV2 dc2 pm2 cd2 ct2 oc3 kV3 dc3 pm3 cd3 ct3 oc4 kV4 dc4 pm4 cd4 ct4 oc5 kV5 dc5 pm5 cd5 ct5 oc6 kV6 dc6 pm6 cd6 ct6 oc7 kV7 dc7 pm7 cd7 ct7 oc8 kV8 dc8 pm8 cd8 ct8 oc9 kV9 dc9 pm9 cd9 ct9 oc10 kV10 dc10 pm10 cd10 ct10 oc11 kV11 dc11 pm11 cd11 ct11 oc12 kV12 dc12 pm12 cd12 ct12 oc13 kV13 dc13 pm13 cd13 ct13 oc14 kV14 dc14 pm14 cd14 ct14 oc15 kV15 dc15 pm15 cd15 ct15 oc16 kV16 dc16 pm16 cd16 ct16 oc17 kV17 dc17 pm17 cd17 ct17 oc18 kV18 dc18 pm18 cd18 ct18 oc19 kV19 dc19 pm19 cd19 ct19 oc20 kV20 dc20 pm20 cd20 ct20 oc21 kV21 dc21 pm21 cd21 ct21 oc22 kV22 dc22 pm22 cd22 ct22 oc23 kV23 dc23 pm23 cd23 ct23 oc24 kV24 dc24 pm24 cd24 ct24 oc25 kV25 dc25 pm25 cd25 ct25 oc26 kV26 dc26 pm26 cd26 ct26 oc27 kV27 dc27 pm27 cd27 ct27 oc28 kV28 dc28 pm28 cd28 ct28 oc29 kV29 dc29 pm29 cd29 ct29 oc30 kV30 dc30 pm30 cd30 ct30 oc31 kV31 dc31 pm31 cd31 ct31 : Value}
    (aC : PySem.W.nsIn K mainGlobals "Knowledge" = some (some (.ref Cl)))
    (a1 : PySem.W.nsIn K mainGlobals "heads_of" = some (some (.ref f1)))
    (l1 : K.lookup f1 = some ⟨oc1, od1, .func (PySem.W.fnOf "heads_of" "heads_of" (defArgs sHeadsOf) (defBody sHeadsOf) (defScope sHeadsOf) .none kV1 dc1 pm1 an1 cd1 ct1), sl1⟩) (c1 : PySem.W.codeIn K cd1 "heads_of" = true) (k1 : PySem.W.keepIn K (.ref f1) = true)
    (a2 : PySem.W.nsIn K mainGlobals "ends_of" = some (some (.ref f2)))
    (l2 : K.lookup f2 = some ⟨oc2, od2, .func (PySem.W.fnOf "ends_of" "ends_of" (defArgs sEndsOf) (defBody sEndsOf) (defScope sEndsOf) .none kV2 dc2 pm2 an2 cd2 ct2), sl2⟩) (c2 : PySem.W.codeIn K cd2 "ends_of" = true) (k2 : PySem.W.keepIn K (.ref f2) = true)
    (a3 : PySem.W.nsIn K mainGlobals "known" = some (some (.ref f3)))
    (l3 : K.lookup f3 = some ⟨oc3, od3, .func (PySem.W.fnOf "known" "known" (defArgs sKnown) (defBody sKnown) (defScope sKnown) .none kV3 dc3 pm3 an3 cd3 ct3), sl3⟩) (c3 : PySem.W.codeIn K cd3 "known" = true) (k3 : PySem.W.keepIn K (.ref f3) = true)
    (a4 : PySem.W.nsIn K mainGlobals "clashes" = some (some (.ref f4)))
    (l4 : K.lookup f4 = some ⟨oc4, od4, .func (PySem.W.fnOf "clashes" "clashes" (defArgs sClashes) (defBody sClashes) (defScope sClashes) .none kV4 dc4 pm4 an4 cd4 ct4), sl4⟩) (c4 : PySem.W.codeIn K cd4 "clashes" = true) (k4 : PySem.W.keepIn K (.ref f4) = true)
    (a5 : PySem.W.nsIn K mainGlobals "open_pair" = some (some (.ref f5)))
    (l5 : K.lookup f5 = some ⟨oc5, od5, .func (PySem.W.fnOf "open_pair" "open_pair" (defArgs sOpenP) (defBody sOpenP) (defScope sOpenP) .none kV5 dc5 pm5 an5 cd5 ct5), sl5⟩) (c5 : PySem.W.codeIn K cd5 "open_pair" = true) (k5 : PySem.W.keepIn K (.ref f5) = true)
    (a6 : PySem.W.nsIn K mainGlobals "names_of" = some (some (.ref f6)))
    (l6 : K.lookup f6 = some ⟨oc6, od6, .func (PySem.W.fnOf "names_of" "names_of" (defArgs sNamesOf) (defBody sNamesOf) (defScope sNamesOf) .none kV6 dc6 pm6 an6 cd6 ct6), sl6⟩) (c6 : PySem.W.codeIn K cd6 "names_of" = true) (k6 : PySem.W.keepIn K (.ref f6) = true)
    (a7 : PySem.W.nsIn K mainGlobals "numbered" = some (some (.ref f7)))
    (l7 : K.lookup f7 = some ⟨oc7, od7, .func (PySem.W.fnOf "numbered" "numbered" (defArgs sNumbered) (defBody sNumbered) (defScope sNumbered) .none kV7 dc7 pm7 an7 cd7 ct7), sl7⟩) (c7 : PySem.W.codeIn K cd7 "numbered" = true) (k7 : PySem.W.keepIn K (.ref f7) = true)
    (a8 : PySem.W.nsIn K mainGlobals "cells_of" = some (some (.ref f8)))
    (l8 : K.lookup f8 = some ⟨oc8, od8, .func (PySem.W.fnOf "cells_of" "cells_of" (defArgs sCellsOf) (defBody sCellsOf) (defScope sCellsOf) .none kV8 dc8 pm8 an8 cd8 ct8), sl8⟩) (c8 : PySem.W.codeIn K cd8 "cells_of" = true) (k8 : PySem.W.keepIn K (.ref f8) = true)
    (a9 : PySem.W.nsIn K mainGlobals "state_of" = some (some (.ref f9)))
    (l9 : K.lookup f9 = some ⟨oc9, od9, .func (PySem.W.fnOf "state_of" "state_of" (defArgs sStateOf) (defBody sStateOf) (defScope sStateOf) .none kV9 dc9 pm9 an9 cd9 ct9), sl9⟩) (c9 : PySem.W.codeIn K cd9 "state_of" = true) (k9 : PySem.W.keepIn K (.ref f9) = true)
    (a10 : PySem.W.nsIn K mainGlobals "example" = some (some (.ref f10)))
    (l10 : K.lookup f10 = some ⟨oc10, od10, .func (PySem.W.fnOf "example" "example" (defArgs sExample) (defBody sExample) (defScope sExample) .none kV10 dc10 pm10 an10 cd10 ct10), sl10⟩) (c10 : PySem.W.codeIn K cd10 "example" = true) (k10 : PySem.W.keepIn K (.ref f10) = true)
    (a11 : PySem.W.nsIn K mainGlobals "_law_cell_at" = some (some (.ref f11)))
    (l11 : K.lookup f11 = some ⟨oc11, od11, .func (PySem.W.fnOf "_law_cell_at" "_law_cell_at" (defArgs sCell) (defBody sCell) (defScope sCell) .none kV11 dc11 pm11 an11 cd11 ct11), sl11⟩) (c11 : PySem.W.codeIn K cd11 "_law_cell_at" = true) (k11 : PySem.W.keepIn K (.ref f11) = true)
    (a12 : PySem.W.nsIn K mainGlobals "_law_mixed" = some (some (.ref f12)))
    (l12 : K.lookup f12 = some ⟨oc12, od12, .func (PySem.W.fnOf "_law_mixed" "_law_mixed" (defArgs sMixed) (defBody sMixed) (defScope sMixed) .none kV12 dc12 pm12 an12 cd12 ct12), sl12⟩) (c12 : PySem.W.codeIn K cd12 "_law_mixed" = true) (k12 : PySem.W.keepIn K (.ref f12) = true)
    (a13 : PySem.W.nsIn K mainGlobals "_law_free_names" = some (some (.ref f13)))
    (l13 : K.lookup f13 = some ⟨oc13, od13, .func (PySem.W.fnOf "_law_free_names" "_law_free_names" (defArgs sFree) (defBody sFree) (defScope sFree) .none kV13 dc13 pm13 an13 cd13 ct13), sl13⟩) (c13 : PySem.W.codeIn K cd13 "_law_free_names" = true) (k13 : PySem.W.keepIn K (.ref f13) = true)
    (a14 : PySem.W.nsIn K mainGlobals "_law_names" = some (some (.ref f14)))
    (l14 : K.lookup f14 = some ⟨oc14, od14, .func (PySem.W.fnOf "_law_names" "_law_names" (defArgs sNames) (defBody sNames) (defScope sNames) .none kV14 dc14 pm14 an14 cd14 ct14), sl14⟩) (c14 : PySem.W.codeIn K cd14 "_law_names" = true) (k14 : PySem.W.keepIn K (.ref f14) = true)
    (a15 : PySem.W.nsIn K mainGlobals "_law_drawn" = some (some (.ref f15)))
    (l15 : K.lookup f15 = some ⟨oc15, od15, .func (PySem.W.fnOf "_law_drawn" "_law_drawn" (defArgs sDrawn) (defBody sDrawn) (defScope sDrawn) .none kV15 dc15 pm15 an15 cd15 ct15), sl15⟩) (c15 : PySem.W.codeIn K cd15 "_law_drawn" = true) (k15 : PySem.W.keepIn K (.ref f15) = true)
    (a16 : PySem.W.nsIn K mainGlobals "_law_taken" = some (some (.ref f16)))
    (l16 : K.lookup f16 = some ⟨oc16, od16, .func (PySem.W.fnOf "_law_taken" "_law_taken" (defArgs sTaken) (defBody sTaken) (defScope sTaken) .none kV16 dc16 pm16 an16 cd16 ct16), sl16⟩) (c16 : PySem.W.codeIn K cd16 "_law_taken" = true) (k16 : PySem.W.keepIn K (.ref f16) = true)
    (a17 : PySem.W.nsIn K mainGlobals "_law_cover" = some (some (.ref f17)))
    (l17 : K.lookup f17 = some ⟨oc17, od17, .func (PySem.W.fnOf "_law_cover" "_law_cover" (defArgs sCover) (defBody sCover) (defScope sCover) .none kV17 dc17 pm17 an17 cd17 ct17), sl17⟩) (c17 : PySem.W.codeIn K cd17 "_law_cover" = true) (k17 : PySem.W.keepIn K (.ref f17) = true)
    (a18 : PySem.W.nsIn K mainGlobals "_law_fits" = some (some (.ref f18)))
    (l18 : K.lookup f18 = some ⟨oc18, od18, .func (PySem.W.fnOf "_law_fits" "_law_fits" (defArgs sFits) (defBody sFits) (defScope sFits) .none kV18 dc18 pm18 an18 cd18 ct18), sl18⟩) (c18 : PySem.W.codeIn K cd18 "_law_fits" = true) (k18 : PySem.W.keepIn K (.ref f18) = true)
    (a19 : PySem.W.nsIn K mainGlobals "law" = some (some (.ref f19)))
    (l19 : K.lookup f19 = some ⟨oc19, od19, .func (PySem.W.fnOf "law" "law" (defArgs sLaw) (defBody sLaw) (defScope sLaw) .none kV19 dc19 pm19 an19 cd19 ct19), sl19⟩) (c19 : PySem.W.codeIn K cd19 "law" = true) (k19 : PySem.W.keepIn K (.ref f19) = true)
    (a20 : PySem.W.findIn K (.ref Cl) "__init__" = some (some (.ref f20))) (i20 : PySem.W.isFn K (.ref f20) = true)
    (l20 : K.lookup f20 = some ⟨oc20, od20, .func (PySem.W.fnOf "__init__" "Knowledge.__init__" (defArgs sInit) (defBody sInit) (defScope sInit) .none kV20 dc20 pm20 an20 cd20 ct20), sl20⟩) (c20 : PySem.W.codeIn K cd20 "Knowledge.__init__" = true) (k20 : PySem.W.keepIn K (.ref f20) = true)
    (a21 : PySem.W.findIn K (.ref Cl) "head" = some (some (.ref f21))) (i21 : PySem.W.isFn K (.ref f21) = true)
    (l21 : K.lookup f21 = some ⟨oc21, od21, .func (PySem.W.fnOf "head" "Knowledge.head" (defArgs sHead) (defBody sHead) (defScope sHead) .none kV21 dc21 pm21 an21 cd21 ct21), sl21⟩) (c21 : PySem.W.codeIn K cd21 "Knowledge.head" = true) (k21 : PySem.W.keepIn K (.ref f21) = true)
    (a22 : PySem.W.findIn K (.ref Cl) "alike" = some (some (.ref f22))) (i22 : PySem.W.isFn K (.ref f22) = true)
    (l22 : K.lookup f22 = some ⟨oc22, od22, .func (PySem.W.fnOf "alike" "Knowledge.alike" (defArgs sAlike) (defBody sAlike) (defScope sAlike) .none kV22 dc22 pm22 an22 cd22 ct22), sl22⟩) (c22 : PySem.W.codeIn K cd22 "Knowledge.alike" = true) (k22 : PySem.W.keepIn K (.ref f22) = true)
    (a23 : PySem.W.findIn K (.ref Cl) "unlike" = some (some (.ref f23))) (i23 : PySem.W.isFn K (.ref f23) = true)
    (l23 : K.lookup f23 = some ⟨oc23, od23, .func (PySem.W.fnOf "unlike" "Knowledge.unlike" (defArgs sUnlike) (defBody sUnlike) (defScope sUnlike) .none kV23 dc23 pm23 an23 cd23 ct23), sl23⟩) (c23 : PySem.W.codeIn K cd23 "Knowledge.unlike" = true) (k23 : PySem.W.keepIn K (.ref f23) = true)
    (a24 : PySem.W.findIn K (.ref Cl) "tell_unlike" = some (some (.ref f24))) (i24 : PySem.W.isFn K (.ref f24) = true)
    (l24 : K.lookup f24 = some ⟨oc24, od24, .func (PySem.W.fnOf "tell_unlike" "Knowledge.tell_unlike" (defArgs sTellU) (defBody sTellU) (defScope sTellU) .none kV24 dc24 pm24 an24 cd24 ct24), sl24⟩) (c24 : PySem.W.codeIn K cd24 "Knowledge.tell_unlike" = true) (k24 : PySem.W.keepIn K (.ref f24) = true)
    (a25 : PySem.W.findIn K (.ref Cl) "is_empty" = some (some (.ref f25))) (i25 : PySem.W.isFn K (.ref f25) = true)
    (l25 : K.lookup f25 = some ⟨oc25, od25, .func (PySem.W.fnOf "is_empty" "Knowledge.is_empty" (defArgs sIsEmpty) (defBody sIsEmpty) (defScope sIsEmpty) .none kV25 dc25 pm25 an25 cd25 ct25), sl25⟩) (c25 : PySem.W.codeIn K cd25 "Knowledge.is_empty" = true) (k25 : PySem.W.keepIn K (.ref f25) = true)
    (a26 : PySem.W.findIn K (.ref Cl) "must_be_full" = some (some (.ref f26))) (i26 : PySem.W.isFn K (.ref f26) = true)
    (l26 : K.lookup f26 = some ⟨oc26, od26, .func (PySem.W.fnOf "must_be_full" "Knowledge.must_be_full" (defArgs sMustFull) (defBody sMustFull) (defScope sMustFull) .none kV26 dc26 pm26 an26 cd26 ct26), sl26⟩) (c26 : PySem.W.codeIn K cd26 "Knowledge.must_be_full" = true) (k26 : PySem.W.keepIn K (.ref f26) = true)
    (a27 : PySem.W.findIn K (.ref Cl) "find_fulls" = some (some (.ref f27))) (i27 : PySem.W.isFn K (.ref f27) = true)
    (l27 : K.lookup f27 = some ⟨oc27, od27, .func (PySem.W.fnOf "find_fulls" "Knowledge.find_fulls" (defArgs sFindF) (defBody sFindF) (defScope sFindF) .none kV27 dc27 pm27 an27 cd27 ct27), sl27⟩) (c27 : PySem.W.codeIn K cd27 "Knowledge.find_fulls" = true) (k27 : PySem.W.keepIn K (.ref f27) = true)
    (a28 : PySem.W.findIn K (.ref Cl) "tell_full" = some (some (.ref f28))) (i28 : PySem.W.isFn K (.ref f28) = true)
    (l28 : K.lookup f28 = some ⟨oc28, od28, .func (PySem.W.fnOf "tell_full" "Knowledge.tell_full" (defArgs sTellF) (defBody sTellF) (defScope sTellF) .none kV28 dc28 pm28 an28 cd28 ct28), sl28⟩) (c28 : PySem.W.codeIn K cd28 "Knowledge.tell_full" = true) (k28 : PySem.W.keepIn K (.ref f28) = true)
    (a29 : PySem.W.findIn K (.ref Cl) "clashing" = some (some (.ref f29))) (i29 : PySem.W.isFn K (.ref f29) = true)
    (l29 : K.lookup f29 = some ⟨oc29, od29, .func (PySem.W.fnOf "clashing" "Knowledge.clashing" (defArgs sClash) (defBody sClash) (defScope sClash) .none kV29 dc29 pm29 an29 cd29 ct29), sl29⟩) (c29 : PySem.W.codeIn K cd29 "Knowledge.clashing" = true) (k29 : PySem.W.keepIn K (.ref f29) = true)
    (a30 : PySem.W.findIn K (.ref Cl) "shares_place" = some (some (.ref f30))) (i30 : PySem.W.isFn K (.ref f30) = true)
    (l30 : K.lookup f30 = some ⟨oc30, od30, .func (PySem.W.fnOf "shares_place" "Knowledge.shares_place" (defArgs sShares) (defBody sShares) (defScope sShares) .none kV30 dc30 pm30 an30 cd30 ct30), sl30⟩) (c30 : PySem.W.codeIn K cd30 "Knowledge.shares_place" = true) (k30 : PySem.W.keepIn K (.ref f30) = true)
    (a31 : PySem.W.findIn K (.ref Cl) "open_ends" = some (some (.ref f31))) (i31 : PySem.W.isFn K (.ref f31) = true)
    (l31 : K.lookup f31 = some ⟨oc31, od31, .func (PySem.W.fnOf "open_ends" "Knowledge.open_ends" (defArgs sOpenE) (defBody sOpenE) (defScope sOpenE) .none kV31 dc31 pm31 an31 cd31 ct31), sl31⟩) (c31 : PySem.W.codeIn K cd31 "Knowledge.open_ends" = true) (k31 : PySem.W.keepIn K (.ref f31) = true)
    (z1 : PySem.W.nsIn K mainGlobals "min" = some none)
    (z2 : PySem.W.nsIn K mainGlobals "len" = some none)
    (z3 : PySem.W.nsIn K mainGlobals "all" = some none)
    (z4 : PySem.W.nsIn K mainGlobals "any" = some none)
    (z5 : PySem.W.nsIn K mainGlobals "isinstance" = some none)
    (z6 : PySem.W.nsIn K mainGlobals "list" = some none)
    (z7 : PySem.W.nsIn K mainGlobals "int" = some none)
    (z8 : PySem.W.nsIn K mainGlobals "bool" = some none)
    (z9 : PySem.W.nsIn K mainGlobals "str" = some none)
    (z10 : PySem.W.nsIn K mainGlobals "dict" = some none)
    (z11 : PySem.W.nsIn K mainGlobals "sorted" = some none)
    (z12 : PySem.W.nsIn K mainGlobals "set" = some none)
    (z13 : PySem.W.nsIn K mainGlobals "sum" = some none)
    (z14 : PySem.W.nsIn K mainGlobals "range" = some none)
    (z15 : PySem.W.nsIn K mainGlobals "tuple" = some none)
    (z16 : PySem.W.nsIn K mainGlobals "max" = some none)
    (z17 : PySem.W.nsIn K mainGlobals "zip" = some none)
    {aN : Addr} {oN : Obj} {itN : Array Value} {nN : Nat}
    (gN : PySem.W.nsIn K mainGlobals "NO_NAMES" = some (some (.ref aN))) (lN : K.lookup aN = some oN) (cN : oN.cls = .type "tuple") (dN : oN.data = .seq itN nN) (sN : itN.size ≤ 100) (vN : L2.Vals (Mir.noNames.map V.str) itN.toList)
    (pg : PySem.W.plainGet K Cl Str.empty = true) (hd : PySem.W.hasDictIn K Cl = true) (po : PySem.W.plainOver K Cl = true) (sa : PySem.W.findIn K (.ref Cl) "__setattr__" = some (some (.builtin "object.__setattr__"))) (mk : PySem.W.makesIn K Cl = true) (kc : PySem.W.keepIn K (.ref Cl) = true)
    (nP : PySem.W.findIn K (.ref Cl) "parts" = some none) (nH : PySem.W.findIn K (.ref Cl) "heads" = some none) (nU : PySem.W.findIn K (.ref Cl) "unlikes" = some none) (nF : PySem.W.findIn K (.ref Cl) "fulls" = some none) (nE : PySem.W.findIn K (.ref Cl) "not_empty" = some none) :
    ∃ fd : FuncData, (∀ (s : Shared) (v : Value), BindsTo s fd ⟨[v], []⟩ [("_law_script", v)]) ∧ ∀ base : Heap, K.In base → base.Ns mainGlobals mg → FnOk l.prog w K mg base CX0 8 fa fd ["_law_script"] (spLaw K) := by
  have e := hfa.symm.trans (PySem.W.mg_of X G a19)
  cases e
  have F1 := fun_mk (st := sHeadsOf) l1 c1 k1
  have B1 := F1.binds (ps := ["facts"]) fun _ _ _ _ _ _ us hl => by obtain ⟨a, rfl⟩ := us1 hl; rfl
  have C1 : Cal K mg "heads_of" f1 _ ["facts"] := ⟨PySem.W.mg_of X G a1, k1, B1⟩
  have F2 := fun_mk (st := sEndsOf) l2 c2 k2
  have B2 := F2.binds (ps := ["part"]) fun _ _ _ _ _ _ us hl => by obtain ⟨a, rfl⟩ := us1 hl; rfl
  have C2 : Cal K mg "ends_of" f2 _ ["part"] := ⟨PySem.W.mg_of X G a2, k2, B2⟩
  have F3 := fun_mk (st := sKnown) l3 c3 k3
  have B3 := F3.binds (ps := ["facts", "parts", "a", "b"]) fun _ _ _ _ _ _ us hl => by obtain ⟨a, b, c, d, rfl⟩ := us4 hl; rfl
  have C3 : Cal K mg "known" f3 _ ["facts", "parts", "a", "b"] := ⟨PySem.W.mg_of X G a3, k3, B3⟩
  have F4 := fun_mk (st := sClashes) l4 c4 k4
  have B4 := F4.binds (ps := ["facts", "parts"]) fun _ _ _ _ _ _ us hl => by obtain ⟨a, b, rfl⟩ := us2 hl; rfl
  have C4 : Cal K mg "clashes" f4 _ ["facts", "parts"] := ⟨PySem.W.mg_of X G a4, k4, B4⟩
  have F5 := fun_mk (st := sOpenP) l5 c5 k5
  have B5 := F5.binds (ps := ["facts", "parts"]) fun _ _ _ _ _ _ us hl => by obtain ⟨a, b, rfl⟩ := us2 hl; rfl
  have C5 : Cal K mg "open_pair" f5 _ ["facts", "parts"] := ⟨PySem.W.mg_of X G a5, k5, B5⟩
  have F6 := fun_mk (st := sNamesOf) l6 c6 k6
  have B6 := F6.binds (ps := ["telling"]) fun _ _ _ _ _ _ us hl => by obtain ⟨a, rfl⟩ := us1 hl; rfl
  have C6 : Cal K mg "names_of" f6 _ ["telling"] := ⟨PySem.W.mg_of X G a6, k6, B6⟩
  have F7 := fun_mk (st := sNumbered) l7 c7 k7
  have B7 := F7.binds (ps := ["knowledge", "names"]) fun _ _ _ _ _ _ us hl => by obtain ⟨a, b, rfl⟩ := us2 hl; rfl
  have C7 : Cal K mg "numbered" f7 _ ["knowledge", "names"] := ⟨PySem.W.mg_of X G a7, k7, B7⟩
  have F8 := fun_mk (st := sCellsOf) l8 c8 k8
  have B8 := F8.binds (ps := ["part", "values", "spares", "beside"]) fun _ _ _ _ _ _ us hl => by obtain ⟨a, b, c, d, rfl⟩ := us4 hl; rfl
  have C8 : Cal K mg "cells_of" f8 _ ["part", "values", "spares", "beside"] := ⟨PySem.W.mg_of X G a8, k8, B8⟩
  have F9 := fun_mk (st := sStateOf) l9 c9 k9
  have B9 := F9.binds (ps := ["knowledge", "names", "amid"]) fun _ _ _ _ _ _ us hl => by obtain ⟨a, b, c, rfl⟩ := us3 hl; rfl
  have C9 : Cal K mg "state_of" f9 _ ["knowledge", "names", "amid"] := ⟨PySem.W.mg_of X G a9, k9, B9⟩
  have F10 := fun_mk (st := sExample) l10 c10 k10
  have B10 := F10.binds (ps := ["facts", "parts", "names"]) fun _ _ _ _ _ _ us hl => by obtain ⟨a, b, c, rfl⟩ := us3 hl; rfl
  have C10 : Cal K mg "example" f10 _ ["facts", "parts", "names"] := ⟨PySem.W.mg_of X G a10, k10, B10⟩
  have F11 := fun_mk (st := sCell) l11 c11 k11
  have B11 := F11.binds (ps := ["_law_script", "_law_k"]) fun _ _ _ _ _ _ us hl => by obtain ⟨a, b, rfl⟩ := us2 hl; rfl
  have C11 : Cal K mg "_law_cell_at" f11 _ ["_law_script", "_law_k"] := ⟨PySem.W.mg_of X G a11, k11, B11⟩
  have F12 := fun_mk (st := sMixed) l12 c12 k12
  have B12 := F12.binds (ps := ["_law_cell", "_law_k"]) fun _ _ _ _ _ _ us hl => by obtain ⟨a, b, rfl⟩ := us2 hl; rfl
  have C12 : Cal K mg "_law_mixed" f12 _ ["_law_cell", "_law_k"] := ⟨PySem.W.mg_of X G a12, k12, B12⟩
  have F13 := fun_mk (st := sFree) l13 c13 k13
  have B13 := F13.binds (ps := ["_law_cell", "_law_many"]) fun _ _ _ _ _ _ us hl => by obtain ⟨a, b, rfl⟩ := us2 hl; rfl
  have C13 : Cal K mg "_law_free_names" f13 _ ["_law_cell", "_law_many"] := ⟨PySem.W.mg_of X G a13, k13, B13⟩
  have F14 := fun_mk (st := sNames) l14 c14 k14
  have B14 := F14.binds (ps := ["_law_cell", "_law_many"]) fun _ _ _ _ _ _ us hl => by obtain ⟨a, b, rfl⟩ := us2 hl; rfl
  have C14 : Cal K mg "_law_names" f14 _ ["_law_cell", "_law_many"] := ⟨PySem.W.mg_of X G a14, k14, B14⟩
  have F15 := fun_mk (st := sDrawn) l15 c15 k15
  have B15 := F15.binds (ps := ["_law_cells", "_law_pool"]) fun _ _ _ _ _ _ us hl => by obtain ⟨a, b, rfl⟩ := us2 hl; rfl
  have C15 : Cal K mg "_law_drawn" f15 _ ["_law_cells", "_law_pool"] := ⟨PySem.W.mg_of X G a15, k15, B15⟩
  have F16 := fun_mk (st := sTaken) l16 c16 k16
  have B16 := F16.binds (ps := ["_law_values", "_law_heap", "_law_part"]) fun _ _ _ _ _ _ us hl => by obtain ⟨a, b, c, rfl⟩ := us3 hl; rfl
  have C16 : Cal K mg "_law_taken" f16 _ ["_law_values", "_law_heap", "_law_part"] := ⟨PySem.W.mg_of X G a16, k16, B16⟩
  have F17 := fun_mk (st := sCover) l17 c17 k17
  have B17 := F17.binds (ps := ["_law_values", "_law_heap", "_law_telling"]) fun _ _ _ _ _ _ us hl => by obtain ⟨a, b, c, rfl⟩ := us3 hl; rfl
  have C17 : Cal K mg "_law_cover" f17 _ ["_law_values", "_law_heap", "_law_telling"] := ⟨PySem.W.mg_of X G a17, k17, B17⟩
  have F18 := fun_mk (st := sFits) l18 c18 k18
  have B18 := F18.binds (ps := ["_law_values", "_law_heap", "_law_telling"]) fun _ _ _ _ _ _ us hl => by obtain ⟨a, b, c, rfl⟩ := us3 hl; rfl
  have C18 : Cal K mg "_law_fits" f18 _ ["_law_values", "_law_heap", "_law_telling"] := ⟨PySem.W.mg_of X G a18, k18, B18⟩
  have F19 := fun_mk (st := sLaw) l19 c19 k19
  have F20 := fun_mk (st := sInit) l20 c20 k20
  have B20 := F20.binds (ps := ["self", "facts", "parts"]) fun _ _ _ _ _ _ us hl => by obtain ⟨a, b, c, rfl⟩ := us3 hl; rfl
  have C20 : MCal K Cl "__init__" f20 _ ["self", "facts", "parts"] := ⟨⟨a20, i20, k20⟩, B20⟩
  have F21 := fun_mk (st := sHead) l21 c21 k21
  have B21 := F21.binds (ps := ["self", "word"]) fun _ _ _ _ _ _ us hl => by obtain ⟨a, b, rfl⟩ := us2 hl; rfl
  have C21 : MCal K Cl "head" f21 _ ["self", "word"] := ⟨⟨a21, i21, k21⟩, B21⟩
  have F22 := fun_mk (st := sAlike) l22 c22 k22
  have B22 := F22.binds (ps := ["self", "one", "other"]) fun _ _ _ _ _ _ us hl => by obtain ⟨a, b, c, rfl⟩ := us3 hl; rfl
  have C22 : MCal K Cl "alike" f22 _ ["self", "one", "other"] := ⟨⟨a22, i22, k22⟩, B22⟩
  have F23 := fun_mk (st := sUnlike) l23 c23 k23
  have B23 := F23.binds (ps := ["self", "one", "other"]) fun _ _ _ _ _ _ us hl => by obtain ⟨a, b, c, rfl⟩ := us3 hl; rfl
  have C23 : MCal K Cl "unlike" f23 _ ["self", "one", "other"] := ⟨⟨a23, i23, k23⟩, B23⟩
  have F24 := fun_mk (st := sTellU) l24 c24 k24
  have B24 := F24.binds (ps := ["self", "one", "other"]) fun _ _ _ _ _ _ us hl => by obtain ⟨a, b, c, rfl⟩ := us3 hl; rfl
  have C24 : MCal K Cl "tell_unlike" f24 _ ["self", "one", "other"] := ⟨⟨a24, i24, k24⟩, B24⟩
  have F25 := fun_mk (st := sIsEmpty) l25 c25 k25
  have B25 := F25.binds (ps := ["self", "number"]) fun _ _ _ _ _ _ us hl => by obtain ⟨a, b, rfl⟩ := us2 hl; rfl
  have C25 : MCal K Cl "is_empty" f25 _ ["self", "number"] := ⟨⟨a25, i25, k25⟩, B25⟩
  have F26 := fun_mk (st := sMustFull) l26 c26 k26
  have B26 := F26.binds (ps := ["self", "number"]) fun _ _ _ _ _ _ us hl => by obtain ⟨a, b, rfl⟩ := us2 hl; rfl
  have C26 : MCal K Cl "must_be_full" f26 _ ["self", "number"] := ⟨⟨a26, i26, k26⟩, B26⟩
  have F27 := fun_mk (st := sFindF) l27 c27 k27
  have B27 := F27.binds (ps := ["self"]) fun _ _ _ _ _ _ us hl => by obtain ⟨a, rfl⟩ := us1 hl; rfl
  have C27 : MCal K Cl "find_fulls" f27 _ ["self"] := ⟨⟨a27, i27, k27⟩, B27⟩
  have F28 := fun_mk (st := sTellF) l28 c28 k28
  have B28 := F28.binds (ps := ["self", "number"]) fun _ _ _ _ _ _ us hl => by obtain ⟨a, b, rfl⟩ := us2 hl; rfl
  have C28 : MCal K Cl "tell_full" f28 _ ["self", "number"] := ⟨⟨a28, i28, k28⟩, B28⟩
  have F29 := fun_mk (st := sClash) l29 c29 k29
  have B29 := F29.binds (ps := ["self"]) fun _ _ _ _ _ _ us hl => by obtain ⟨a, rfl⟩ := us1 hl; rfl
  have C29 : MCal K Cl "clashing" f29 _ ["self"] := ⟨⟨a29, i29, k29⟩, B29⟩
  have F30 := fun_mk (st := sShares) l30 c30 k30
  have B30 := F30.binds (ps := ["self", "number"]) fun _ _ _ _ _ _ us hl => by obtain ⟨a, b, rfl⟩ := us2 hl; rfl
  have C30 : MCal K Cl "shares_place" f30 _ ["self", "number"] := ⟨⟨a30, i30, k30⟩, B30⟩
  have F31 := fun_mk (st := sOpenE) l31 c31 k31
  have B31 := F31.binds (ps := ["self"]) fun _ _ _ _ _ _ us hl => by obtain ⟨a, rfl⟩ := us1 hl; rfl
  have C31 : MCal K Cl "open_ends" f31 _ ["self"] := ⟨⟨a31, i31, k31⟩, B31⟩
  have C : Con K mg w := {
    noNames := ⟨aN, glob_ref X G gN, fun _ => .inr ⟨oN, itN, nN, lN, cN, dN, Nat.le_trans sN (by decide), vN⟩⟩
    min := PySem.W.mg_none_of X G z1
    len := PySem.W.mg_none_of X G z2
    all := PySem.W.mg_none_of X G z3
    any := PySem.W.mg_none_of X G z4
    isi := PySem.W.mg_none_of X G z5
    list := PySem.W.mg_none_of X G z6
    int := PySem.W.mg_none_of X G z7
    bool := PySem.W.mg_none_of X G z8
    str := PySem.W.mg_none_of X G z9
    dict := PySem.W.mg_none_of X G z10
    sorted := PySem.W.mg_none_of X G z11
    set := PySem.W.mg_none_of X G z12
    sum := PySem.W.mg_none_of X G z13
    range := PySem.W.mg_none_of X G z14
    tuple := PySem.W.mg_none_of X G z15
    max := PySem.W.mg_none_of X G z16
    zip := PySem.W.mg_none_of X G z17 }
  have T : Txt K mg Cl f20 := ⟨⟨pg, hd, po, sa⟩, nP, nH, nU, nF, nE, PySem.W.mg_of X G aC, ⟨mk, a20, i20, kc⟩⟩
  refine ⟨PySem.W.fnOf "law" "law" (defArgs sLaw) (defBody sLaw) (defScope sLaw) .none kV19 dc19 pm19 an19 cd19 ct19, fun s v => .of_eq rfl, fun base _ _ => ?_⟩
  have O1 := ok_headsOf (P := l.prog) (base := base) C F1
  have O6 := ok_namesOf (P := l.prog) (base := base) C F6
  have O2 := ok_ends (P := l.prog) (w := w) (mg := mg) (base := base) F2
  have O21 := ok_head (P := l.prog) (w := w) (base := base) T F21
  have O22 := ok_alike  T F22 O21 C21
  have O23 := ok_unlike  T F23 O21 C21
  have O24 := ok_tellU  T F24 O21 C21
  have O25 := ok_empty  T F25 O2 C2 O22 C22
  have O26 := ok_must  T F26 O2 C2 O23 C23
  have O28 := ok_tellF  T F28 O24 C24
  have O29 := ok_clash (P := l.prog) (base := base) C T F29
  have O30 := ok_shares  C T F30 O22 C22
  have OT := ok_endsT (P := l.prog) (w := w) (mg := mg) (base := base) F2
  have O31 := ok_openE T F31 OT C2 O30 C30
  have O27 := ok_find  C T F27 O26 C26 O28 C28
  have O20 := ok_initP  C T F20 O1 C1 O24 C24 O27 C27 O25 C25
  have O5 := ok_openP  C T F5 O20 B20 O31 C31
  have O3 := ok_knownP  C T F3 O20 B20 O22 C22 O23 C23
  have O4 := ok_clashesP  C T F4 O20 B20 O29 C29
  have O7 := ok_numbered  C T F7 O21 C21
  have O8 := ok_cellsOf (P := l.prog) (w := w) (mg := mg) (base := base) F8
  have O9 := ok_stateOf  C T F9 O7 C7 O8 C8
  have O10 := ok_example  C T F10 O20 B20 O6 C6 O9 C9
  have O11 := ok_cellAt (P := l.prog) (base := base) C F11
  have O12 := ok_mixed (P := l.prog) (base := base) C F12
  have O13 := ok_free (P := l.prog) (base := base) C F13
  have O14 := ok_names  C F14 O13 C13
  have O15 := ok_drawn  C F15 O12 C12
  have O16 := ok_taken (P := l.prog) (base := base) C F16
  have O17 := ok_cover  C F17 O16 C16
  have O18 := ok_fits  C F18 O17 C17
  exact ok_law C F19 O11 C11 O12 C12 O14 C14 O15 C15 O4 C4 O3 C3 O5 C5 O10 C10 O18 C18
theorem walk {l : PySem.W.OpenLaw} {q : Program} {loose : List Str} {XP : (Str → Option Value) → Heap → Prop} {YP : World → Heap → Prop} {d : DefRec} {K : Params → PySem.W.Frag} (hn : l.most = some 63) (hdf : d.params.defaults = [])
    (hY : ∀ (w : World) (h : Heap), YP w h → (K w.params).In h)
    (F : ∀ (w : World) (mg : Str → Option Value) (fa : Addr) (h : Heap), (K w.params).In h → h.Ns mainGlobals mg → mg d.name = some (.ref fa) →
      ∃ fd : FuncData, (∀ (s : Shared) (u : Value), BindsTo s fd ⟨[u], []⟩ [("_law_script", u)]) ∧ ∀ base : Heap, (K w.params).In base → base.Ns mainGlobals mg → FnOk l.prog w (K w.params) mg base CX0 8 fa fd ["_law_script"] (spLaw (K w.params))) :
    PySem.W.WalkO q loose XP YP l.row.toRowW d [] (fun f vs => PySem.call f vs) :=
  L2.walk_of (n := 63) (k := 8) (x := "_law_script") (CX := fun _ => CX0) (sp := fun w => spLaw (K w.params)) hn (by decide) hdf ⟨rfl, by decide, by decide⟩ hY F (fun _ _ a ns hl _ hS => ⟨a, ns, rfl, hS, fun _ => rfl⟩) fun _ _ _ _ _ z => z
end K24
open PySem PySem.W PyProof.Rows
set_option maxRecDepth 100000 in
set_option maxHeartbeats 0 in
theorem PySem.Challenge.cw_apart_k24_whole_going_on_holds : PySem.Challenge.rw_apart_k24_whole_going_on.Holds := by
  w_on; o_law; k_head; (case hw => w_witness2)
  k_fill
  refine K24.walk (l := PySem.Challenge.rw_apart_k24_whole_going_on) rfl rfl (fun w h Y => PySem.W.kIn_of Y) ?F
  case F =>
    intro w mg fa h KX G hmg
    refine' K24.all_mk KX G hmg ?aC ?a1 ?l1 ?c1 ?k1 ?a2 ?l2 ?c2 ?k2 ?a3 ?l3 ?c3 ?k3 ?a4 ?l4 ?c4 ?k4 ?a5 ?l5 ?c5 ?k5 ?a6 ?l6 ?c6 ?k6 ?a7 ?l7 ?c7 ?k7 ?a8 ?l8 ?c8 ?k8 ?a9 ?l9 ?c9 ?k9 ?a10 ?l10 ?c10 ?k10 ?a11 ?l11 ?c11 ?k11 ?a12 ?l12 ?c12 ?k12 ?a13 ?l13 ?c13 ?k13 ?a14 ?l14 ?c14 ?k14 ?a15 ?l15 ?c15 ?k15 ?a16 ?l16 ?c16 ?k16 ?a17 ?l17 ?c17 ?k17 ?a18 ?l18 ?c18 ?k18 ?a19 ?l19 ?c19 ?k19 ?a20 ?i20 ?l20 ?c20 ?k20 ?a21 ?i21 ?l21 ?c21 ?k21 ?a22 ?i22 ?l22 ?c22 ?k22 ?a23 ?i23 ?l23 ?c23 ?k23 ?a24 ?i24 ?l24 ?c24 ?k24 ?a25 ?i25 ?l25 ?c25 ?k25 ?a26 ?i26 ?l26 ?c26 ?k26 ?a27 ?i27 ?l27 ?c27 ?k27 ?a28 ?i28 ?l28 ?c28 ?k28 ?a29 ?i29 ?l29 ?c29 ?k29 ?a30 ?i30 ?l30 ?c30 ?k30 ?a31 ?i31 ?l31 ?c31 ?k31 ?z1 ?z2 ?z3 ?z4 ?z5 ?z6 ?z7 ?z8 ?z9 ?z10 ?z11 ?z12 ?z13 ?z14 ?z15 ?z16 ?z17 ?gN ?lN ?cN ?dN ?sN ?vN ?pg ?hd ?po ?sa ?mk ?kc ?nP ?nH ?nU ?nF ?nE
    (case aC => k_is)
    (case a1 => k_is)
    (case l1 => k_is)
    (case c1 => k_is)
    (case k1 => k_is)
    (case a2 => k_is)
    (case l2 => k_is)
    (case c2 => k_is)
    (case k2 => k_is)
    (case a3 => k_is)
    (case l3 => k_is)
    (case c3 => k_is)
    (case k3 => k_is)
    (case a4 => k_is)
    (case l4 => k_is)
    (case c4 => k_is)
    (case k4 => k_is)
    (case a5 => k_is)
    (case l5 => k_is)
    (case c5 => k_is)
    (case k5 => k_is)
    (case a6 => k_is)
    (case l6 => k_is)
    (case c6 => k_is)
    (case k6 => k_is)
    (case a7 => k_is)
    (case l7 => k_is)
    (case c7 => k_is)
    (case k7 => k_is)
    (case a8 => k_is)
    (case l8 => k_is)
    (case c8 => k_is)
    (case k8 => k_is)
    (case a9 => k_is)
    (case l9 => k_is)
    (case c9 => k_is)
    (case k9 => k_is)
    (case a10 => k_is)
    (case l10 => k_is)
    (case c10 => k_is)
    (case k10 => k_is)
    (case a11 => k_is)
    (case l11 => k_is)
    (case c11 => k_is)
    (case k11 => k_is)
    (case a12 => k_is)
    (case l12 => k_is)
    (case c12 => k_is)
    (case k12 => k_is)
    (case a13 => k_is)
    (case l13 => k_is)
    (case c13 => k_is)
    (case k13 => k_is)
    (case a14 => k_is)
    (case l14 => k_is)
    (case c14 => k_is)
    (case k14 => k_is)
    (case a15 => k_is)
    (case l15 => k_is)
    (case c15 => k_is)
    (case k15 => k_is)
    (case a16 => k_is)
    (case l16 => k_is)
    (case c16 => k_is)
    (case k16 => k_is)
    (case a17 => k_is)
    (case l17 => k_is)
    (case c17 => k_is)
    (case k17 => k_is)
    (case a18 => k_is)
    (case l18 => k_is)
    (case c18 => k_is)
    (case k18 => k_is)
    (case a19 => k_is)
    (case l19 => k_is)
    (case c19 => k_is)
    (case k19 => k_is)
    (case a20 => k_is)
    (case i20 => k_is)
    (case l20 => k_is)
    (case c20 => k_is)
    (case k20 => k_is)
    (case a21 => k_is)
    (case i21 => k_is)
    (case l21 => k_is)
    (case c21 => k_is)
    (case k21 => k_is)
    (case a22 => k_is)
    (case i22 => k_is)
    (case l22 => k_is)
    (case c22 => k_is)
    (case k22 => k_is)
    (case a23 => k_is)
    (case i23 => k_is)
    (case l23 => k_is)
    (case c23 => k_is)
    (case k23 => k_is)
    (case a24 => k_is)
    (case i24 => k_is)
    (case l24 => k_is)
    (case c24 => k_is)
    (case k24 => k_is)
    (case a25 => k_is)
    (case i25 => k_is)
    (case l25 => k_is)
    (case c25 => k_is)
    (case k25 => k_is)
    (case a26 => k_is)
    (case i26 => k_is)
    (case l26 => k_is)
    (case c26 => k_is)
    (case k26 => k_is)
    (case a27 => k_is)
    (case i27 => k_is)
    (case l27 => k_is)
    (case c27 => k_is)
    (case k27 => k_is)
    (case a28 => k_is)
    (case i28 => k_is)
    (case l28 => k_is)
    (case c28 => k_is)
    (case k28 => k_is)
    (case a29 => k_is)
    (case i29 => k_is)
    (case l29 => k_is)
    (case c29 => k_is)
    (case k29 => k_is)
    (case a30 => k_is)
    (case i30 => k_is)
    (case l30 => k_is)
    (case c30 => k_is)
    (case k30 => k_is)
    (case a31 => k_is)
    (case i31 => k_is)
    (case l31 => k_is)
    (case c31 => k_is)
    (case k31 => k_is)
    (case z1 => k_is)
    (case z2 => k_is)
    (case z3 => k_is)
    (case z4 => k_is)
    (case z5 => k_is)
    (case z6 => k_is)
    (case z7 => k_is)
    (case z8 => k_is)
    (case z9 => k_is)
    (case z10 => k_is)
    (case z11 => k_is)
    (case z12 => k_is)
    (case z13 => k_is)
    (case z14 => k_is)
    (case z15 => k_is)
    (case z16 => k_is)
    (case z17 => k_is)
    (case gN => k_is)
    (case lN => k_is)
    (case cN => rfl)
    (case dN => rfl)
    (case sN => decide)
    (case vN => repeat (first | exact .nil | refine .cons ⟨_, rfl⟩ ?_))
    (case pg => k_is)
    (case hd => k_is)
    (case po => k_is)
    (case sa => k_is)
    (case mk => k_is)
    (case kc => k_is)
    (case nP => k_is)
    (case nH => k_is)
    (case nU => k_is)
    (case nF => k_is)
    (case nE => k_is)
