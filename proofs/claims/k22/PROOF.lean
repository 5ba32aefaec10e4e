import PyProof.Rows.All
import Wide.All
import OpenK.AllK
import Wide.FinOn
import Lean
import PyProof.EqAt
import PyProof.EqKinds
import PyProof.TupleCall
import PySem.Challenge.RW_apart_k22_open_pairs
set_option Elab.async false
set_option linter.all false
set_option maxRecDepth 100000
namespace L2
open PySem PySem.Spec PyProof.Rows
abbrev Key := Sum Int Str
noncomputable def keyIs : Key → Value → Bool
  | .inl k, v => Value.isInt k v
  | .inr x, v => Value.isStrOf x v
noncomputable def keyH (w : World) : Key → Int
  | .inl k => hashInt k
  | .inr x => hashStr w x
theorem keyIs_shape : ∀ {k : Key} {v : Value}, keyIs k v = true → (∃ i t, k = Sum.inl i ∧ v = Value.int i t) ∨ (∃ x t, k = Sum.inr x ∧ v = Value.str x t)
  | .inl i, v, h => by
    obtain ⟨t, e⟩ := Value.isInt_shape (k := i) (v := v) h
    exact .inl ⟨i, t, rfl, e⟩
  | .inr x, v, h => by
    obtain ⟨t, e⟩ := Value.isStrOf_shape (x := x) (v := v) h
    exact .inr ⟨x, t, rfl, e⟩
theorem keyIs_int (i : Int) (t : Tok) : keyIs (.inl i) (.int i t) = true := by simp [keyIs, Value.isInt]
theorem keyIs_str (x : Str) (t : Tok) : keyIs (.inr x) (.str x t) = true := by simp [keyIs, Value.isStrOf]
theorem key_ll (a b : Int) : decide ((Sum.inl a : Key) = Sum.inl b) = (a == b) := by
  by_cases e : a = b
  · subst e; simp
  · have h : ¬ (Sum.inl a : Key) = Sum.inl b := fun q => e (Sum.inl.inj q)
    rw [decide_eq_false h]
    exact (beq_eq_false_iff_ne.mpr e).symm
theorem key_rr (a b : Str) : decide ((Sum.inr a : Key) = Sum.inr b) = decide (a = b) := by
  by_cases e : a = b
  · subst e; simp
  · have h : ¬ (Sum.inr a : Key) = Sum.inr b := fun q => e (Sum.inr.inj q)
    rw [decide_eq_false h, decide_eq_false e]
theorem key_lr (a : Int) (b : Str) : decide ((Sum.inl a : Key) = Sum.inr b) = false := decide_eq_false (fun q => nomatch q)
theorem key_rl (a : Str) (b : Int) : decide ((Sum.inr a : Key) = Sum.inl b) = false := decide_eq_false (fun q => nomatch q)
noncomputable def mixKind (prog : Program) (w : World) : PySem.KeyKind prog w Key where
  is := keyIs
  hash := keyH w
  inj := fun v a b ha hb => by
    rcases keyIs_shape ha with ⟨i, t, rfl, rfl⟩ | ⟨x, t, rfl, rfl⟩
    · rcases keyIs_shape hb with ⟨j, u, rfl, e⟩ | ⟨y, u, rfl, e⟩
      · injection e with e1 _; rw [e1]
      · exact nomatch e
    · rcases keyIs_shape hb with ⟨j, u, rfl, e⟩ | ⟨y, u, rfl, e⟩
      · exact nomatch e
      · injection e with e1 _; rw [e1]
  byValue := fun k v h => by
    rcases keyIs_shape h with ⟨i, t, rfl, rfl⟩ | ⟨x, t, rfl, rfl⟩ <;> rfl
  pyHash := fun hv h => by
    rcases keyIs_shape hv with ⟨i, t, rfl, rfl⟩ | ⟨x, t, rfl, rfl⟩
    · exact wpAny_pyHash_int h
    · exact wpAny_pyHash_str h
  eqBool := fun hu hv h => by
    rcases keyIs_shape hu with ⟨i, t, rfl, rfl⟩ | ⟨x, t, rfl, rfl⟩
    · rcases keyIs_shape hv with ⟨j, u, rfl, rfl⟩ | ⟨y, u, rfl, rfl⟩
      · rw [key_ll] at h; exact wpAny_eqBool_int h
      · rw [key_lr] at h; exact SeqAt.EqAt.int_str i t y u _ _ _ _ h
    · rcases keyIs_shape hv with ⟨j, u, rfl, rfl⟩ | ⟨y, u, rfl, rfl⟩
      · rw [key_rl] at h; exact SeqAt.EqAt.str_int x t j u _ _ _ _ h
      · rw [key_rr] at h; exact wpAny_eqBool_str h
  «strs» := fun k x t v h => by
    rcases keyIs_shape h with ⟨i, u, rfl, e⟩ | ⟨y, u, rfl, e⟩
    · exact nomatch e
    · injection e with e1 _
      subst e1
      cases v <;> rfl
theorem mixKind_int (prog : Program) (w : World) (i : Int) (t : Tok) : (mixKind prog w).is (.inl i) (.int i t) = true := keyIs_int i t
theorem mixKind_str (prog : Program) (w : World) (x : Str) (t : Tok) : (mixKind prog w).is (.inr x) (.str x t) = true := keyIs_str x t
end L2
namespace L2
open PySem PySem.Spec PyProof.Rows
inductive V where
  | non | bl (b : Bool) | int (i : Int) | str (x : Str) | byt (b : Array UInt8) | flt (b : UInt64) | ref (a : Addr) | ty (n : String)
  deriving DecidableEq
noncomputable def RelV : V → Value → Prop
  | .non, u => u = Value.none
  | .bl b, u => u = Value.bool b
  | .int i, u => ∃ t, u = Value.int i t
  | .str x, u => ∃ t, u = Value.str x t
  | .byt b, u => ∃ t, u = Value.bytes b t
  | .flt b, u => ∃ t, u = Value.float b t
  | .ref a, u => u = Value.ref a
  | .ty n, u => u = Value.type n
abbrev Vals : List V → List Value → Prop := Paired RelV
theorem Vals.length {xs : List V} {us : List Value} (r : Vals xs us) : xs.length = us.length := Paired.length r
theorem Vals.get : ∀ {xs : List V} {us : List Value} {i : Nat} {x : V}, Vals xs us → xs[i]? = some x → ∃ u, us[i]? = some u ∧ RelV x u
  | _, _, _, _, .nil, e => by simp at e
  | _, _, 0, _, .cons r _, e => by simp at e; subst e; exact ⟨_, rfl, r⟩
  | _, _, i + 1, x, .cons _ t, e => by
    obtain ⟨u, h1, h2⟩ := Vals.get (i := i) (x := x) t (by simpa using e)
    exact ⟨u, by simpa using h1, h2⟩
theorem Vals.append : ∀ {xs ys : List V} {us ws : List Value}, Vals xs us → Vals ys ws → Vals (xs ++ ys) (us ++ ws)
  | _, _, _, _, .nil, s => s
  | _, _, _, _, .cons r t, s => .cons r (Vals.append t s)
theorem Vals.take : ∀ {xs : List V} {us : List Value} (n : Nat), Vals xs us → Vals (xs.take n) (us.take n)
  | _, _, 0, _ => .nil
  | _, _, _ + 1, .nil => .nil
  | _, _, n + 1, .cons r t => .cons r (Vals.take n t)
theorem Vals.drop : ∀ {xs : List V} {us : List Value} (n : Nat), Vals xs us → Vals (xs.drop n) (us.drop n)
  | _, _, 0, r => r
  | _, _, _ + 1, .nil => .nil
  | _, _, n + 1, .cons _ t => Vals.drop n t
noncomputable def RelO : Option V → Option Value → Prop
  | some v, some u => RelV v u
  | none, none => True
  | _, _ => False
noncomputable def KV {κ : Type} : List (κ × V) → List (κ × Value) → Prop := Paired fun (p : κ × V) (q : κ × Value) => p.1 = q.1 ∧ RelV p.2 q.2
noncomputable def kV : Key → V
  | .inl i => .int i
  | .inr x => .str x
inductive HO where
  /-- a list -/
  | lst (xs : List V)
  /-- a tuple (never changes) -/
  | tup (xs : List V)
  /-- a dict whose keys are ints and texts; one whose keys are tuples of ints and texts (the empty one is both) -/
  | dK (kvs : List (Key × V)) | dT (kvs : List (List Key × V))
  /-- a set of ints: its members, its size -/
  | set (S : Int → Bool) (n : Nat)
  /-- an instance of the class at C, its dict at dx, its attributes -/
  | ins (C dx : Addr) (fs : List (Str × V))
  /-- the dict of the instance at x -/
  | own (x : Addr)
  /-- the dict of an exception -/
  | xd (fs : List (Str × V))
  /-- a bound method, f of x -/
  | met (f x : Addr)
  /-- a range object lo, lo + 1, .. below hi -/
  | rng (lo hi : Int)
  /-- a thing that is known to the object (the script; a dict while a loop walks it): read, never written while it is so -/
  | frz (o : Obj) (u : HO)
  /-- a code object's table -/
  | tbl (ps : Array Value)
  /-- any other thing, by what is true of its one object (a def of one's own: SetO a S n := HO.ext fun h => ..) -/
  | ext (φ : Heap → Prop)
abbrev Hp := Addr → Option HO
noncomputable def upd (H : Hp) (a : Addr) (o : HO) : Hp := fun b => if b = a then some o else H b
theorem upd_same {H : Hp} {a : Addr} {o : HO} : upd H a o a = some o := by unfold upd; rw [if_pos rfl]
theorem upd_ne {H : Hp} {a b : Addr} {o : HO} (h : b ≠ a) : upd H a o b = H b := by unfold upd; rw [if_neg h]
theorem ne_of {H : Hp} {a b : Addr} {o u : HO} (h : H a = some o) (h' : H b = some u) (d : o ≠ u) : a ≠ b := by
  intro e; subst e; rw [h] at h'; exact d (Option.some.inj h')
theorem ne_of_none {H : Hp} {a b : Addr} {o : HO} (h : H a = some o) (h' : H b = none) : a ≠ b := by
  intro e; subst e; rw [h] at h'; cases h'
section
variable (P : Program) (w : World)
noncomputable def ObjOk (H : Hp) (h : Heap) (a : Addr) : HO → Prop
  | .lst xs => xs.length ≤ sizeLine ∧ ∃ (its : List Value) (n : Nat), Vals xs its ∧ h.get? a = some { cls := .type "list", data := .seq its.toArray n }
  | .tup xs => xs.length ≤ sizeLine ∧ ∃ its : List Value, Vals xs its ∧ IsTup h a its.toArray
  | .dK kvs => kvs.length ≤ sizeLine ∧ (a == sysModules) = false ∧ ∃ vs, KV kvs vs ∧ h.DictOf (mixKind P w) a vs
  | .dT kvs => kvs.length ≤ sizeLine ∧ (a == sysModules) = false ∧ ∃ xs : List (List Key × Addr × Value),
      Paired (fun (p : List Key × V) (q : List Key × Addr × Value) => p.1 = q.1 ∧ H q.2.1 = some (.tup (p.1.map kV)) ∧ RelV p.2 q.2.2) kvs xs ∧
      ∃ o es ep, h.get? a = some o ∧ o.ExactDict ∧ o.data = .dict es ep ∧ es.toList = xs.map (entryOfKey (tupleKind (mixKind P w))) ∧ (xs.map (·.1)).Nodup
  | .set S n => h.SetOf (intKind P w) a S n
  | .ins C dx fs => H dx = some (.own a) ∧ fs.length ≤ 1000 ∧ dx ≠ a ∧ h.get? a = some (PySem.W.instObj C dx) ∧
      ∃ mA, h.Ns1 dx mA ∧ (∀ f, RelO (fs.lookup f) (mA f)) ∧ PySem.Within mA (fs.map (·.1))
  | .own _ => ∃ o, h.get? a = some o
  | .xd fs => ∃ mA, h.Ns1 a mA ∧ ∀ f, RelO (fs.lookup f) (mA f)
  | .rng lo hi => ∃ t u v, h.get? a = some { cls := .type "range", data := .fields #[.int lo t, .int hi u, .int 1 v] }
  | .frz o u => h.get? a = some o ∧ ObjOk H h a u
  | .tbl ps => h.get? a = some { cls := .none, data := .fields ps }
  | .met f x => h.get? a = some (PySem.W.methodObj (.ref f) (.ref x))
  | .ext φ => φ h ∧ (∃ o, h.get? a = some o) ∧ ∀ h1 h2 : Heap, φ h1 → (∀ o, h1.get? a = some o → h2.get? a = some o) → φ h2
noncomputable def HOk (H : Hp) (h : Heap) : Prop := ∀ a o, H a = some o → ObjOk P w H h a o
end
section
variable {P : Program} {w : World} {H H' : Hp} {h h' : Heap} {a : Addr} {o : HO}
theorem ObjOk.lt (x : ObjOk P w H h a o) : a < h.objs.size := by
  cases o with
  | lst xs => obtain ⟨_, _, _, _, e⟩ := x; exact Heap.lt_size e
  | tup xs => obtain ⟨_, _, _, p⟩ := x; exact p.lt
  | dK kvs => obtain ⟨_, _, _, _, o, _, _, e, _⟩ := x; exact Heap.lt_size e
  | dT kvs => obtain ⟨_, _, _, _, o, _, _, e, _⟩ := x; exact Heap.lt_size e
  | set S n => obtain ⟨o, _, _, _, e, _⟩ := x; exact Heap.lt_size e
  | ins C dx fs => obtain ⟨_, _, _, e, _⟩ := x; exact Heap.lt_size e
  | own y => obtain ⟨_, e⟩ := x; exact Heap.lt_size e
  | xd fs => obtain ⟨_, ⟨_, _, _, e, _⟩, _⟩ := x; exact Heap.lt_size e
  | rng lo hi => obtain ⟨_, _, _, e⟩ := x; exact Heap.lt_size e
  | frz ob u => obtain ⟨e, _⟩ := x; exact Heap.lt_size e
  | tbl ps => exact Heap.lt_size (show h.get? a = some _ from x)
  | met f y => exact Heap.lt_size (show h.get? a = some _ from x)
  | ext φ => obtain ⟨_, ⟨_, e⟩, _⟩ := x; exact Heap.lt_size e
theorem Paired.mapP {α β : Type} {F G : α → β → Prop} : ∀ {l₁ : List α} {l₂ : List β}, Paired F l₁ l₂ → (∀ a b, F a b → G a b) → Paired G l₁ l₂
  | _, _, .nil, _ => .nil
  | _, _, .cons r t, f => .cons (f _ _ r) (Paired.mapP t f)
theorem ObjOk.stay (x : ObjOk P w H h a o) (k : ∀ b u, (b = a ∨ H b = some (.own a)) → h.get? b = some u → h'.get? b = some u)
    (ho : ∀ b, H b = some (.own a) → H' b = some (.own a)) (ht : ∀ b xs, H b = some (.tup xs) → H' b = some (.tup xs)) : ObjOk P w H' h' a o := by
  induction o with
  | lst xs => obtain ⟨z, its, n, r, e⟩ := x; exact ⟨z, its, n, r, k _ _ (.inl rfl) e⟩
  | tup xs => obtain ⟨z, its, r, ob, e, c⟩ := x; exact ⟨z, its, r, ob, k _ _ (.inl rfl) e, c⟩
  | dK kvs => obtain ⟨z, y, vs, r, ob, es, ep, e, c⟩ := x; exact ⟨z, y, vs, r, ob, es, ep, k _ _ (.inl rfl) e, c⟩
  | dT kvs =>
    obtain ⟨z, y, xs, r, ob, es, ep, e, c⟩ := x
    exact ⟨z, y, xs, Paired.mapP r fun p q z => ⟨z.1, ht _ _ z.2.1, z.2.2⟩, ob, es, ep, k _ _ (.inl rfl) e, c⟩
  | set S n => obtain ⟨ob, es, ep, t, e, c⟩ := x; exact ⟨ob, es, ep, t, k _ _ (.inl rfl) e, c⟩
  | ins C dx fs =>
    obtain ⟨d, z, ne, e, mA, ⟨od, es, ep, e2, c⟩, r⟩ := x
    exact ⟨ho _ d, z, ne, k _ _ (.inl rfl) e, mA, ⟨od, es, ep, k _ _ (.inr d) e2, c⟩, r⟩
  | own y => obtain ⟨ob, e⟩ := x; exact ⟨ob, k _ _ (.inl rfl) e⟩
  | xd fs => obtain ⟨mA, ⟨od, es, ep, e, c⟩, r⟩ := x; exact ⟨mA, ⟨od, es, ep, k _ _ (.inl rfl) e, c⟩, r⟩
  | rng lo hi => obtain ⟨t, u, v, e⟩ := x; exact ⟨t, u, v, k _ _ (.inl rfl) e⟩
  | frz ob u ih => obtain ⟨e, q⟩ := x; exact ⟨k _ _ (.inl rfl) e, ih q⟩
  | tbl ps =>
    have e : h.get? a = some { cls := .none, data := .fields ps } := x
    show h'.get? a = some { cls := .none, data := .fields ps }
    exact k a _ (.inl rfl) e
  | met f y =>
    have e : h.get? a = some (PySem.W.methodObj (.ref f) (.ref y)) := x
    show h'.get? a = some (PySem.W.methodObj (.ref f) (.ref y))
    exact k a _ (.inl rfl) e
  | ext φ => obtain ⟨p, ⟨o, e⟩, st⟩ := x; exact ⟨st _ _ p fun o q => k _ _ (.inl rfl) q, ⟨o, k _ _ (.inl rfl) e⟩, st⟩
theorem HOk.lt (x : HOk P w H h) (e : H a = some o) : a < h.objs.size := (x a o e).lt
theorem HOk.fresh (x : HOk P w H h) (e : h.objs.size ≤ a) : H a = none := by
  cases q : H a with
  | none => rfl
  | some u => exact absurd (Nat.lt_of_lt_of_le (x.lt q) e) (Nat.lt_irrefl _)
theorem HOk.kept (x : HOk P w H h) (k : ∀ b u, h.get? b = some u → h'.get? b = some u) : HOk P w H h' := fun a o e =>
  (x a o e).stay (fun b u _ q => k b u q) (fun _ q => q) fun _ _ q => q
theorem HOk.laid (x : HOk P w H h) (k : ∀ b u, h.get? b = some u → h'.get? b = some u) (hp : h.objs.size ≤ a) (new : ObjOk P w (upd H a o) h' a o) : HOk P w (upd H a o) h' := fun b u e => by
  have hn := x.fresh hp
  by_cases hb : b = a
  · subst hb; rw [upd_same] at e; cases e; exact new
  · rw [upd_ne hb] at e
    exact (x b u e).stay (fun c v _ q => k c v q) (fun c q => by rw [upd_ne (ne_of_none q hn)]; exact q) fun c xs q => by rw [upd_ne (ne_of_none q hn)]; exact q
end
noncomputable def Rd (H : Hp) (a : Addr) (u : HO) : Prop := H a = some u ∨ ∃ o, H a = some (.frz o u)
theorem Rd.ok {P : Program} {w : World} {H : Hp} {h : Heap} {a : Addr} {u : HO} (r : Rd H a u) (x : HOk P w H h) : ObjOk P w H h a u := by
  rcases r with r | ⟨o, r⟩
  · exact x a u r
  · obtain ⟨_, q⟩ := x a _ r
    exact q
noncomputable def Mut : Option HO → Prop
  | some (.lst _) => True
  | some (.dK _) => True
  | some (.dT _) => True
  | some (.set _ _) => True
  | some (.ins _ _ _) => True
  | some (.ext _) => True
  | _ => False
section
variable {P : Program} {w : World} {H : Hp} {h h' : Heap} {x e : Addr} {o' : HO}
theorem HOk.write (ok : HOk P w H h) (mu : Mut (H x)) (he : e = x ∨ H e = some (.own x)) (k : ∀ b u, b ≠ e → h.get? b = some u → h'.get? b = some u) (heo : ∃ u, h'.get? e = some u)
    (new : ObjOk P w (upd H x o') h' x o') : HOk P w (upd H x o') h' := fun b u q => by
  have nown : ∀ c y, H c = some (.own y) → c ≠ x := fun c y r z => by subst z; rw [r] at mu; exact mu
  have ntup : ∀ c xs, H c = some (.tup xs) → c ≠ x := fun c xs r z => by subst z; rw [r] at mu; exact mu
  by_cases hb : b = x
  · subst hb; rw [upd_same] at q; cases q; exact new
  · rw [upd_ne hb] at q
    by_cases hbe : b = e
    · have q' : H b = some (.own x) := by
        rcases he with z | z
        · exact absurd (hbe.trans z) hb
        · rw [hbe]; exact z
      rw [q] at q'; cases q'
      obtain ⟨v, hv⟩ := heo
      exact ⟨v, by rw [hbe]; exact hv⟩
    · refine (ok b u q).stay (fun c v hc r => k c v ?_ r) (fun c r => by rw [upd_ne (nown c b r)]; exact r) fun c xs r => by rw [upd_ne (ntup c xs r)]; exact r
      rcases hc with rfl | hc
      · exact hbe
      · rintro rfl
        rcases he with z | z
        · exact nown c b hc z
        · rw [hc] at z; cases z; exact hb rfl
end
structure Un (fs ex : List Addr) (H H' : Hp) (h h' : Heap) : Prop where
  keep : ∀ b o, h.get? b = some o → H b = none → b ∉ fs → b ∉ ex → h'.get? b = some o
  slot : ∀ b o, h.get? b = some o → H b = none → b ∈ fs → b ∉ ex → ∃ sl, h'.get? b = some { o with slots := sl }
  free : ∀ b o, h.get? b = some o → H b = none → b ∉ ex → H' b = none
  there : ∀ b o, h.get? b = some o → b ∉ ex → ∃ o', h'.get? b = some o'
  tups : ∀ b xs, H b = some (.tup xs) → H' b = some (.tup xs)
  frzs : ∀ b o u, H b = some (.frz o u) → H' b = some (.frz o u)
  tbls : ∀ b ps, H b = some (.tbl ps) → ∃ more, H' b = some (.tbl (ps ++ more))
section
variable {fs fs' ex ex' : List Addr} {H H1 H2 : Hp} {h h1 h2 h' : Heap} {a x e : Addr} {o : HO}
theorem Un.any (u : Un fs ex H H1 h h1) {b : Addr} {ob : Obj} (q : h.get? b = some ob) (n : H b = none) (hx : b ∉ ex) : ∃ sl, h1.get? b = some { ob with slots := sl } := by
  by_cases hb : b ∈ fs
  · exact u.slot b ob q n hb hx
  · exact ⟨ob.slots, u.keep b ob q n hb hx⟩
theorem Un.kept (k : ∀ b u, h.get? b = some u → h'.get? b = some u) : Un fs ex H H h h' :=
  ⟨fun b ob q _ _ _ => k b ob q, fun b ob q _ _ _ => ⟨ob.slots, k b ob q⟩, fun _ _ _ n _ => n, fun b ob q _ => ⟨ob, k b ob q⟩, fun _ _ q => q, fun _ _ _ q => q, fun _ ps q => ⟨#[], by rw [q]; simp⟩⟩
theorem Un.refl : Un fs ex H H h h := Un.kept fun _ _ q => q
theorem Un.laid (k : ∀ b u, h.get? b = some u → h'.get? b = some u) (hp : h.objs.size ≤ a) (hn : H a = none) : Un fs ex H (upd H a o) h h' where
  keep := fun b u q _ _ _ => k b u q
  slot := fun b u q _ _ _ => ⟨u.slots, k b u q⟩
  free := fun b u q n _ => by rw [upd_ne (Nat.ne_of_lt (Nat.lt_of_lt_of_le (Heap.lt_size q) hp))]; exact n
  there := fun b u q _ => ⟨u, k b u q⟩
  tups := fun b xs q => by rw [upd_ne (ne_of_none q hn)]; exact q
  frzs := fun b u xs q => by rw [upd_ne (ne_of_none q hn)]; exact q
  tbls := fun b ps q => ⟨#[], by rw [upd_ne (ne_of_none q hn), q]; simp⟩
theorem Un.write (mu : Mut (H x)) (he : e = x ∨ H e = some (.own x)) (k : ∀ b u, b ≠ e → h.get? b = some u → h'.get? b = some u) (heo : ∃ u, h'.get? e = some u) : Un fs ex H (upd H x o) h h' := by
  have hx : ∀ b, H b = none → b ≠ x := fun b n z => by subst z; rw [n] at mu; exact mu
  have hb : ∀ b, H b = none → b ≠ e := fun b n z => by
    subst z
    rcases he with r | r
    · exact hx b n r
    · rw [n] at r; cases r
  have hm : ∀ b u, H b = some u → ¬ Mut (some u) → b ≠ x := fun b u q nm z => by subst z; rw [q] at mu; exact nm mu
  refine ⟨fun b u q n _ _ => k b u (hb b n) q, fun b u q n _ _ => ⟨u.slots, k b u (hb b n) q⟩, fun b u q n _ => by rw [upd_ne (hx b n)]; exact n, fun b u q _ => ?_,
    fun b xs q => by rw [upd_ne (hm b _ q fun z => z)]; exact q, fun b u xs q => by rw [upd_ne (hm b _ q fun z => z)]; exact q, fun b ps q => ⟨#[], by rw [upd_ne (hm b _ q fun z => z), q]; simp⟩⟩
  by_cases hbe : b = e
  · subst hbe; exact heo
  · exact ⟨u, k b u hbe q⟩
end
noncomputable def trk (h : Heap) (H : Hp) : List Addr := (List.range h.objs.size).filter fun a => (H a).isSome
noncomputable def hidT (h : Heap) (H : Hp) : Heap := PySem.W.hideAll h (trk h H)
theorem hidT_size (h : Heap) (H : Hp) : (hidT h H).objs.size = h.objs.size := PySem.W.hideAll_size _ _
theorem hidT_get {h : Heap} {H : Hp} {b : Addr} {o : Obj} (e : h.get? b = some o) (n : H b = none) : (hidT h H).get? b = some o :=
  PySem.W.hideAll_get _ e fun hm => by
    have q : (H b).isSome = true := (List.mem_filter.mp hm).2
    rw [n] at q; simp at q
theorem of_hidT {h : Heap} {H : Hp} {b : Addr} {o : Obj} (e : (hidT h H).get? b = some o) : h.get? b = some o ∧ H b = none := by
  have e' : h.get? b = some o := PySem.W.of_hideAll (trk h H) e
  refine ⟨e', ?_⟩
  cases q : H b with
  | none => rfl
  | some x =>
    have hm : b ∈ trk h H := List.mem_filter.mpr ⟨List.mem_range.mpr (Heap.lt_size e'), by simp [q]⟩
    have z : (hidT h H).get? b = none := PySem.W.hideAll_none (trk h H) hm
    rw [z] at e; cases e
noncomputable def allNews (g h : Heap) (L : Addr) : List (Addr × Obj) := (List.range h.objs.size).filterMap fun a => if a = L ∨ (g.get? a).isSome = true then none else (h.get? a).map fun o => (a, o)
noncomputable def rest (g h : Heap) (L d : Addr) : List (Addr × Obj) := (allNews g h L).filter fun p => decide (p.1 ≠ d)
end L2
namespace L2
open PySem PySem.Spec PyProof.Rows
structure Mod (K : PySem.W.Frag) (mg : Str → Option Value) (base : Heap) : Prop where
  kin : K.In base
  glob : base.Ns mainGlobals mg
  blt : ∃ mb, base.Ns builtinsNs mb ∧ ∀ x : Str, x ≠ "__name__" → mb x = bootBuiltins x
  nolimit : base.NoLimit
structure Cx where
  prog : Program
  w : World
  K : PySem.W.Frag
  mg : Str → Option Value
  base : Heap
  A : Around
  N : List Str
  s₀ : Shared
  H₀ : Hp
  env : Env
  outer : List Env
  stack : List Env
  ex : List Addr
  fn : Str → Bool
  calm : Bool
  pn : List (Addr × Obj)
  xe : Value → Shared → Prop
noncomputable def frs (l : List Env) : List Addr := l.filterMap (·.frame)
noncomputable abbrev Cx.fs (X : Cx) : List Addr := frs X.outer
noncomputable def Vis (sc : Scope) (x : Str) : Prop := sc.names.lookup x = some .local ∨ sc.names.lookup x = some .cell ∨ sc.names.lookup x = some .free
noncomputable def Loc (sc : Scope) (x : Str) : Prop := sc.names.lookup x = some .local ∨ sc.names.lookup x = some .cell
noncomputable def Look (env : Env) (h : Heap) (m : Str → Option Value) (x : Str) (u : Value) : Prop :=
  (env.kindOf x = some .local ∧ m x = some u) ∨ ((env.kindOf x = some .cell ∨ env.kindOf x = some .free) ∧ ∃ c, env.cells.lookup x = some c ∧ h.IsCell c (some u))
structure Cx.Ok (X : Cx) : Prop where
  mod : Mod X.K X.mg X.base
  kind : X.env.scope.kind = .function
  glob : X.env.globals = mainGlobals
  blt : X.env.builtins = builtinsNs
  above : X.s₀.heap.objs.size ≤ X.env.locals
  inj : ∀ x y c, X.env.cells.lookup x = some c → X.env.cells.lookup y = some c → x = y
  has : ∀ x, (X.env.kindOf x = some .cell ∨ X.env.kindOf x = some .free) → ∃ c, X.env.cells.lookup x = some c
  cab : ∀ x c, X.fn x = true → X.env.cells.lookup x = some c → X.s₀.heap.objs.size ≤ c
  hd : X.calm = true → X.A.handled = none
  frames : X.A.frames = some X.stack
  stk : X.stack = X.outer ∨ (X.stack = X.env :: X.outer ∧ X.env.frame = some X.env.locals)
  exf : ∀ b ∈ X.ex, b ≠ X.env.locals ∧ ∀ x c, X.env.cells.lookup x = some c → c ≠ b
  bs : ∀ b o, X.base.get? b = some o → X.s₀.heap.get? b = some o ∧ X.H₀ b = none
  bsz : X.base.objs.size ≤ X.s₀.heap.objs.size
  noex : ∀ b o, X.base.get? b = some o → b ∉ X.ex
  exfs : ∀ b ∈ X.ex, b ∉ X.fs
  funs : X.s₀.heap.FunFrames X.base X.outer
  frf : ∀ b ∈ X.fs, X.H₀ b = none
structure Inv (X : Cx) (pins : List (Addr × Obj)) (σ : List (Option V)) (H : Hp) (s : Shared) : Prop where
  ok : X.Ok
  os : s.os = X.s₀.os
  bare : AllBare s.gens
  base : Un X.fs X.ex X.H₀ H X.s₀.heap s.heap
  loc : ∃ m, s.heap.Ns X.env.locals m ∧ ∀ (i : Nat) (x : Str) (v : V), X.N[i]? = some x → σ[i]? = some (some v) → Vis X.env.scope x → ∃ u, RelV v u ∧ Look X.env s.heap m x u
  cell : ∀ x c, X.env.cells.lookup x = some c → ∃ v, s.heap.IsCell c v
  free : H X.env.locals = none
  freeC : ∀ x c, X.env.cells.lookup x = some c → H c = none
  pin : ∀ p ∈ X.pn ++ pins, s.heap.get? p.1 = some p.2 ∧ H p.1 = none ∧ p.1 ≠ X.env.locals ∧ p.1 ∉ X.fs ∧ ∀ v, p.2.data ≠ .cell v
  hok : HOk X.prog X.w H s.heap
  len : σ.length = X.N.length
section
variable {X : Cx} {pins : List (Addr × Obj)} {σ : List (Option V)} {H H' : Hp} {s : Shared} {h' : Heap}
theorem Cx.Ok.nofr (ok : X.Ok) {b : Addr} {o : Obj} (e : X.base.get? b = some o) : b ∉ X.fs := fun hb => by
  have := (ok.funs.mem hb).1
  rw [e] at this; cases this
theorem Inv.bs (I : Inv X pins σ H s) : ∀ b o, X.base.get? b = some o → s.heap.get? b = some o ∧ H b = none := fun b o e =>
  ⟨I.base.keep b o (I.ok.bs b o e).1 (I.ok.bs b o e).2 (I.ok.nofr e) (I.ok.noex b o e), I.base.free b o (I.ok.bs b o e).1 (I.ok.bs b o e).2 (I.ok.noex b o e)⟩
theorem Inv.bk (I : Inv X pins σ H s) : ∀ b o, X.base.get? b = some o → s.heap.get? b = some o := fun b o e => (I.bs b o e).1
theorem Inv.mod (I : Inv X pins σ H s) : Mod X.K X.mg X.base := I.ok.mod
theorem Inv.kIn (I : Inv X pins σ H s) : X.K.In s.heap := I.ok.mod.kin.keeps I.bk
theorem Inv.lt (I : Inv X pins σ H s) : X.env.locals < s.heap.objs.size := let ⟨_, hn, _⟩ := I.loc; hn.lt
theorem Inv.sz (I : Inv X pins σ H s) : X.s₀.heap.objs.size ≤ s.heap.objs.size := Nat.le_trans I.ok.above (Nat.le_of_lt I.lt)
theorem Inv.nofs (I : Inv X pins σ H s) {a : Addr} (h : s.heap.objs.size ≤ a) : a ∉ X.fs := fun hb => by
  obtain ⟨_, o, ho, _⟩ := I.ok.funs.mem hb
  exact absurd (Nat.lt_of_lt_of_le (Heap.lt_size ho) (Nat.le_trans I.sz h)) (Nat.lt_irrefl _)
theorem Inv.cne (I : Inv X pins σ H s) : ∀ x c, X.env.cells.lookup x = some c → c ≠ X.env.locals := fun x c e z => by
  obtain ⟨v, o, ho, hd⟩ := I.cell x c e
  obtain ⟨m, ⟨o', es, ep, ho', hd', _⟩, _⟩ := I.loc
  rw [z, ho'] at ho; cases ho; rw [hd'] at hd; cases hd
theorem Inv.funs (I : Inv X pins σ H s) : s.heap.FunFrames X.base X.outer := by
  have all : ∀ (l : List Env), (∀ b ∈ frs l, b ∈ X.fs) → X.s₀.heap.FunFrames X.base l → s.heap.FunFrames X.base l := by
    intro l
    induction l with
    | nil => intro _ _; trivial
    | cons env r ih =>
      intro hs hl
      obtain ⟨hk, ⟨L, o, hf, hn, ho, hd⟩, hr⟩ := hl
      have hL : L ∈ X.fs := hs L (by unfold frs; rw [List.filterMap_cons, hf]; exact List.mem_cons_self)
      obtain ⟨sl, e⟩ := I.base.slot L o ho (I.ok.frf L hL) hL fun z => I.ok.exfs L z hL
      exact ⟨hk, ⟨L, _, hf, hn, e, hd⟩, ih (fun b hb => hs b (by unfold frs; rw [List.filterMap_cons, hf]; exact List.mem_cons_of_mem _ hb)) hr⟩
  exact all X.outer (fun _ hb => hb) I.ok.funs
theorem Inv.stack (I : Inv X pins σ H s) : s.heap.FunFrames X.base X.stack := by
  rcases I.ok.stk with e | ⟨e, hf⟩
  · rw [e]; exact I.funs
  · rw [e]
    obtain ⟨m, hn, _⟩ := I.loc
    refine .cons (by rw [I.ok.kind]; decide) hf hn ?_ I.funs
    exact Heap.get?_none_of_le (Nat.le_trans I.ok.bsz I.ok.above)
theorem Inv.stkSub (I : Inv X pins σ H s) : ∀ b ∈ frs X.stack, b ∈ X.env.locals :: X.fs := fun b hb => by
  rcases I.ok.stk with e | ⟨e, hf⟩
  · rw [e] at hb; exact List.mem_cons_of_mem _ hb
  · rw [e] at hb
    unfold frs at hb
    rw [List.filterMap_cons, hf] at hb
    exact hb
theorem Inv.stkFree (I : Inv X pins σ H s) : ∀ b ∈ frs X.stack, H b = none := fun b hb => by
  rcases List.mem_cons.mp (I.stkSub b hb) with e | hb
  · rw [e]; exact I.free
  · obtain ⟨_, o, ho, _⟩ := I.ok.funs.mem hb
    exact I.base.free b o ho (I.ok.frf b hb) fun z => I.ok.exfs b z hb
theorem Inv.step {g' : Array GenState} {t' : Nat} {d' : Drawn} {ch : List Addr} (I : Inv X pins σ H s)
    (hch : ∀ b ∈ ch, (b ∈ X.ex ∨ X.s₀.heap.objs.size ≤ b) ∧ b ≠ X.env.locals ∧ (∀ x c, X.env.cells.lookup x = some c → c ≠ b) ∧ ∀ p ∈ X.pn ++ pins, p.1 ≠ b)
    (keep : ∀ b o, b ≠ X.env.locals → b ∉ X.fs → b ∉ ch → s.heap.get? b = some o → H b = none → h'.get? b = some o)
    (slot : ∀ b o, b ≠ X.env.locals → b ∈ X.fs → b ∉ ch → s.heap.get? b = some o → H b = none → ∃ sl, h'.get? b = some { o with slots := sl }) (free : ∀ b o, b ∉ ch → s.heap.get? b = some o → H b = none → H' b = none)
    (there : ∀ b o, b ∉ ch → s.heap.get? b = some o → ∃ o', h'.get? b = some o')
    (tups : ∀ b xs, H b = some (.tup xs) → H' b = some (.tup xs)) (frzs : ∀ b o u, H b = some (.frz o u) → H' b = some (.frz o u)) (tbls : ∀ b ps, H b = some (.tbl ps) → ∃ more, H' b = some (.tbl (ps ++ more)))
    (ns : ∀ m, s.heap.Ns X.env.locals m → h'.Ns X.env.locals m) (hok : HOk X.prog X.w H' h') (hg : AllBare g') :
    Inv X pins σ H' { s with heap := h', gens := g', drawn := d', toks := t' } := by
  have neL : ∀ b o, X.s₀.heap.get? b = some o → b ≠ X.env.locals := fun b o e => Nat.ne_of_lt (Nat.lt_of_lt_of_le (Heap.lt_size e) I.ok.above)
  have neC : ∀ b o, X.s₀.heap.get? b = some o → b ∉ X.ex → b ∉ ch := fun b o e hx hb => by
    rcases (hch b hb).1 with z | z
    · exact hx z
    · exact absurd (Nat.lt_of_lt_of_le (Heap.lt_size e) z) (Nat.lt_irrefl _)
  have cellK : ∀ x c, X.env.cells.lookup x = some c → ∀ v, s.heap.IsCell c v → h'.IsCell c v := fun x c e v ⟨o, ho, hd⟩ => by
    have nch : c ∉ ch := fun z => (hch c z).2.2.1 x c e rfl
    by_cases hc : c ∈ X.fs
    · obtain ⟨sl, q⟩ := slot c o (I.cne x c e) hc nch ho (I.freeC x c e)
      exact ⟨_, q, hd⟩
    · exact ⟨o, keep c o (I.cne x c e) hc nch ho (I.freeC x c e), hd⟩
  refine ⟨I.ok, I.os, hg, ⟨fun b o e n hb hx => ?_, fun b o e n hb hx => ?_, fun b o e n hx => ?_, fun b o e hx => ?_, fun b xs e => tups b xs (I.base.tups b xs e), fun b o xs e => frzs b o xs (I.base.frzs b o xs e), fun b ps e => ?_⟩, ?_, fun x c e => ?_, ?_, fun x c e => ?_, fun p hp => ?_, hok, I.len⟩
  · exact keep b o (neL b o e) hb (neC b o e hx) (I.base.keep b o e n hb hx) (I.base.free b o e n hx)
  · obtain ⟨sl, e1⟩ := I.base.slot b o e n hb hx
    obtain ⟨sl', e2⟩ := slot b _ (neL b o e) hb (neC b o e hx) e1 (I.base.free b o e n hx)
    exact ⟨sl', e2⟩
  · obtain ⟨o', e1⟩ := I.base.there b o e hx
    exact free b o' (neC b o e hx) e1 (I.base.free b o e n hx)
  · obtain ⟨o', e1⟩ := I.base.there b o e hx
    exact there b o' (neC b o e hx) e1
  · obtain ⟨m1, e1⟩ := I.base.tbls b ps e
    obtain ⟨m2, e2⟩ := tbls b _ e1
    exact ⟨m1 ++ m2, by rw [e2, Array.append_assoc]⟩
  · obtain ⟨m, hn, hl⟩ := I.loc
    refine ⟨m, ns m hn, fun i x v e1 e2 e3 => ?_⟩
    obtain ⟨u, r, l⟩ := hl i x v e1 e2 e3
    refine ⟨u, r, ?_⟩
    rcases l with l | ⟨k, c, e, z⟩
    · exact .inl l
    · exact .inr ⟨k, c, e, cellK x c e _ z⟩
  · obtain ⟨v, z⟩ := I.cell x c e
    exact ⟨v, cellK x c e v z⟩
  · obtain ⟨m, ⟨o, _, _, ho, _⟩, _⟩ := I.loc
    exact free _ o (fun z => (hch _ z).2.1 rfl) ho I.free
  · obtain ⟨v, o, ho, hd⟩ := I.cell x c e
    exact free c o (fun z => (hch c z).2.2.1 x c e rfl) ho (I.freeC x c e)
  · obtain ⟨e, n, ne, nf, d⟩ := I.pin p hp
    have nch : p.1 ∉ ch := fun z => (hch p.1 z).2.2.2 p hp rfl
    exact ⟨keep p.1 p.2 ne nf nch e n, free p.1 p.2 nch e n, ne, nf, d⟩
theorem Inv.un {t' : Nat} (I : Inv X pins σ H s) (u : Un X.fs [] H H' s.heap h') (hok : HOk X.prog X.w H' h') : Inv X pins σ H' { s with heap := h', toks := t' } := by
  obtain ⟨m, ⟨o, es, ep, ho, r⟩, _⟩ := id I.loc
  obtain ⟨sl, hL⟩ := u.any ho I.free (by simp)
  exact I.step (g' := s.gens) (d' := s.drawn) (ch := []) (fun _ z => nomatch z) (fun b o _ hb _ e n => u.keep b o e n hb (by simp)) (fun b o _ hb _ e n => u.slot b o e n hb (by simp)) (fun b o _ e n => u.free b o e n (by simp)) (fun b o _ e => u.there b o e (by simp)) u.tups u.frzs u.tbls (fun m' hm => by
    obtain ⟨o', es', ep', ho', r'⟩ := hm
    rw [ho] at ho'; cases ho'
    exact ⟨_, es', ep', hL, r'⟩) hok I.bare
theorem Inv.call {g' : Array GenState} {t' : Nat} {d' : Drawn} {ch : List Addr} (I : Inv X pins σ H s) (u : Un (frs X.stack) ch H H' s.heap h') (hok : HOk X.prog X.w H' h') (hg : AllBare g')
    (hch : ∀ b ∈ ch, (b ∈ X.ex ∨ X.s₀.heap.objs.size ≤ b) ∧ b ≠ X.env.locals ∧ (∀ x c, X.env.cells.lookup x = some c → c ≠ b) ∧ ∀ p ∈ X.pn ++ pins, p.1 ≠ b) :
    Inv X pins σ H' { s with heap := h', gens := g', drawn := d', toks := t' } := by
  obtain ⟨m, ⟨o, es, ep, ho, r⟩, _⟩ := id I.loc
  obtain ⟨sl, hL⟩ := u.any ho I.free fun z => (hch _ z).2.1 rfl
  exact I.step (ch := ch) hch (fun b o hL hb hc e n => u.keep b o e n (fun z => (List.mem_cons.mp (I.stkSub b z)).elim hL hb) hc) (fun b o _ _ hc e n => u.any e n hc) (fun b o hc e n => u.free b o e n hc) (fun b o hc e => u.there b o e hc) u.tups u.frzs u.tbls (fun m' hm => by
    obtain ⟨o', es', ep', ho', r'⟩ := hm
    rw [ho] at ho'; cases ho'
    exact ⟨_, es', ep', hL, r'⟩) hok hg
theorem Inv.turned {t' : Nat} {it : Addr} (I : Inv X pins σ H s) (k : ∀ b o, b ≠ it → s.heap.get? b = some o → h'.get? b = some o) (hn : H it = none) (hL : it ≠ X.env.locals)
    (h1 : it ∈ X.ex ∨ X.s₀.heap.objs.size ≤ it) (h2 : ∀ x c, X.env.cells.lookup x = some c → c ≠ it) (h3 : ∀ p ∈ X.pn ++ pins, p.1 ≠ it) : Inv X pins σ H { s with heap := h', toks := t' } := by
  have nit : ∀ b u, H b = some u → b ≠ it := fun b u e z => by rw [z, hn] at e; cases e
  refine I.step (g' := s.gens) (d' := s.drawn) (ch := [it]) (fun b hb => ?_) (fun b o _ _ hc e _ => k b o (fun z => hc (by simp [z])) e) (fun b o _ _ hc e _ => ⟨o.slots, k b o (fun z => hc (by simp [z])) e⟩) (fun _ _ _ _ n => n)
    (fun b o hc e => ⟨o, k b o (fun z => hc (by simp [z])) e⟩) (fun _ _ e => e) (fun _ _ _ e => e) (fun b ps e => ⟨#[], by rw [e]; simp⟩) (fun m hm => ?_) (fun b u e => ?_) I.bare
  · have e : b = it := by simpa using hb
    subst e
    exact ⟨h1, hL, h2, h3⟩
  · obtain ⟨o, es, ep, ho, r⟩ := hm
    exact ⟨o, es, ep, k _ o (Ne.symm hL) ho, r⟩
  · refine (I.hok b u e).stay (fun c v hc q => k c v ?_ q) (fun _ q => q) fun _ _ q => q
    rcases hc with z | z
    · rw [z]; exact nit b u e
    · exact nit c _ z
theorem Inv.tok (I : Inv X pins σ H s) (t : Nat) : Inv X pins σ H { s with toks := t } := I.un (h' := s.heap) (t' := t) Un.refl I.hok
theorem Inv.kept {t' : Nat} (I : Inv X pins σ H s) (k : ∀ b u, s.heap.get? b = some u → h'.get? b = some u) : Inv X pins σ H { s with heap := h', toks := t' } := I.un (Un.kept k) (I.hok.kept k)
theorem Inv.laid {a : Addr} {o : HO} {t' : Nat} (I : Inv X pins σ H s) (k : ∀ b u, s.heap.get? b = some u → h'.get? b = some u) (hp : s.heap.objs.size ≤ a) (new : ObjOk X.prog X.w (upd H a o) h' a o) :
    Inv X pins σ (upd H a o) { s with heap := h', toks := t' } := I.un (Un.laid k hp (I.hok.fresh hp)) (I.hok.laid k hp new)
theorem Inv.write {x e : Addr} {o : HO} {t' : Nat} (I : Inv X pins σ H s) (mu : Mut (H x)) (he : e = x ∨ H e = some (.own x)) (k : ∀ b u, b ≠ e → s.heap.get? b = some u → h'.get? b = some u) (heo : ∃ u, h'.get? e = some u)
    (new : ObjOk X.prog X.w (upd H x o) h' x o) : Inv X pins σ (upd H x o) { s with heap := h', toks := t' } := I.un (Un.write mu he k heo) (I.hok.write mu he k heo new)
theorem Inv.pins_of {pins' : List (Addr × Obj)} (I : Inv X pins σ H s) (h : ∀ p ∈ pins', s.heap.get? p.1 = some p.2 ∧ H p.1 = none ∧ p.1 ≠ X.env.locals ∧ p.1 ∉ X.fs ∧ ∀ v, p.2.data ≠ .cell v) : Inv X pins' σ H s :=
  ⟨I.ok, I.os, I.bare, I.base, I.loc, I.cell, I.free, I.freeC, fun p hp => (List.mem_append.mp hp).elim (fun z => I.pin p (List.mem_append_left _ z)) (h p), I.hok, I.len⟩
theorem nodup_ix {N : List Str} (hN : N.Nodup) {i j : Nat} {x : Str} (a : N[i]? = some x) (b : N[j]? = some x) : i = j := by
  obtain ⟨h1, e1⟩ := List.getElem?_eq_some_iff.mp a
  obtain ⟨h2, e2⟩ := List.getElem?_eq_some_iff.mp b
  exact (List.getElem_inj hN).mp (e1.trans e2.symm)
theorem store_ok2 {M : Model} {A : Around} {E : Value → Shared → Prop} {i : Nat} {x : Str} {v : V} {u : Value} {Q : Unit → Shared → Prop} (I : Inv X pins σ H s) (hN : X.N.Nodup) (hi : X.N[i]? = some x) (hx : Loc X.env.scope x) (r : RelV v u)
    (h : ∀ s', Inv X pins (σ.set i (some v)) H s' → (∃ a, Heap.SameBut a s.heap s'.heap ∧ (a = X.env.locals ∨ X.env.cells.lookup x = some a)) → Q () s') (hf : X.fn x = true ∨ X.env.scope.names.lookup x = some .local := by first | exact .inl rfl | exact .inr rfl | assumption) : wpAny M A (storeName X.env x u) Q E s := by
  obtain ⟨m, hn, hl⟩ := id I.loc
  have hcls : (X.env.scope.kind == .class || (X.env.scope.kind == .module && X.env.locals != X.env.globals)) = false := by rw [I.ok.kind]; rfl
  have hiσ : i < σ.length := by rw [I.len]; exact (List.getElem?_eq_some_iff.mp hi).1
  have cne := I.cne
  have tracked : ∀ {a : Addr} {h' : Heap}, (∃ o, s.heap.get? a = some o ∧ H a = none) → Heap.SameBut a s.heap h' → HOk X.prog X.w H h' := fun {a h'} ha hs b ob e => by
    obtain ⟨_, _, hfree⟩ := ha
    refine (I.hok b ob e).stay (fun c w' hc q => (hs.2 c ?_).trans q) (fun _ q => q) fun _ _ q => q
    rintro rfl
    rcases hc with rfl | hc
    · rw [hfree] at e; cases e
    · rw [hfree] at hc; cases hc
  rcases hx with hk | hk
  · refine wpAny_storeName_local hk hn (fun h' hn' hs => ?_) hcls
    obtain ⟨oL, _, _, hoL, _⟩ := id hn
    refine h _ ⟨I.ok, I.os, I.bare, ⟨fun b o e n hb hx => ?_, fun b o e n hb hx => ?_, I.base.free, fun b o e hx => ?_, I.base.tups, I.base.frzs, I.base.tbls⟩, ⟨_, hn', fun j y v' e1 e2 e3 => ?_⟩, fun y c e => ?_, I.free, I.freeC, fun p hp => ?_, tracked ⟨oL, hoL, I.free⟩ hs, by simpa using I.len⟩ ⟨_, hs, .inl rfl⟩
    · exact (hs.2 b (Nat.ne_of_lt (Nat.lt_of_lt_of_le (Heap.lt_size e) I.ok.above))).trans (I.base.keep b o e n hb hx)
    · obtain ⟨sl, e1⟩ := I.base.slot b o e n hb hx
      exact ⟨sl, (hs.2 b (Nat.ne_of_lt (Nat.lt_of_lt_of_le (Heap.lt_size e) I.ok.above))).trans e1⟩
    · obtain ⟨o', e1⟩ := I.base.there b o e hx
      exact ⟨o', (hs.2 b (Nat.ne_of_lt (Nat.lt_of_lt_of_le (Heap.lt_size e) I.ok.above))).trans e1⟩
    · by_cases hj : j = i
      · subst hj
        rw [hi] at e1; cases e1
        rw [List.getElem?_set_self hiσ] at e2
        cases e2
        exact ⟨u, r, .inl ⟨hk, by simp⟩⟩
      · rw [List.getElem?_set_ne (Ne.symm hj)] at e2
        obtain ⟨u', r', q⟩ := hl j y v' e1 e2 e3
        refine ⟨u', r', ?_⟩
        rcases q with ⟨k, e⟩ | ⟨k, c, e, z⟩
        · refine .inl ⟨k, ?_⟩
          have : y ≠ x := fun e => hj (nodup_ix hN e1 (e ▸ hi))
          simp [this, e]
        · exact .inr ⟨k, c, e, z.sameBut hs (cne y c e)⟩
    · obtain ⟨w', z⟩ := I.cell y c e
      exact ⟨w', z.sameBut hs (cne y c e)⟩
    · obtain ⟨e, n, ne, nf, d⟩ := I.pin p hp
      exact ⟨(hs.2 p.1 ne).trans e, n, ne, nf, d⟩
  · have hfn : X.fn x = true := by
      rcases hf with z | z
      · exact z
      · rw [z] at hk; cases hk
    obtain ⟨c, hc⟩ := I.ok.has x (.inl hk)
    obtain ⟨w', z⟩ := I.cell x c hc
    refine wpAny_storeName_cell I.ok.kind hk hc z (fun h' hc' hs => ?_)
    obtain ⟨oc, hoc, hocd⟩ := id z
    refine h { s with heap := h' } ⟨I.ok, I.os, I.bare, ⟨fun b o e n hb hx => ?_, fun b o e n hb hx => ?_, I.base.free, fun b o e hx => ?_, I.base.tups, I.base.frzs, I.base.tbls⟩, ⟨m, hn.sameBut hs (Ne.symm (cne x c hc)), fun j y v' e1 e2 e3 => ?_⟩, fun y c' e => ?_, I.free, I.freeC, fun p hp => ?_, tracked ⟨oc, hoc, I.freeC x c hc⟩ hs, by simpa using I.len⟩ ⟨c, hs, .inr hc⟩
    · exact (hs.2 b (Nat.ne_of_lt (Nat.lt_of_lt_of_le (Heap.lt_size e) (I.ok.cab x c hfn hc)))).trans (I.base.keep b o e n hb hx)
    · obtain ⟨sl, e1⟩ := I.base.slot b o e n hb hx
      exact ⟨sl, (hs.2 b (Nat.ne_of_lt (Nat.lt_of_lt_of_le (Heap.lt_size e) (I.ok.cab x c hfn hc)))).trans e1⟩
    · obtain ⟨o', e1⟩ := I.base.there b o e hx
      exact ⟨o', (hs.2 b (Nat.ne_of_lt (Nat.lt_of_lt_of_le (Heap.lt_size e) (I.ok.cab x c hfn hc)))).trans e1⟩
    · by_cases hj : j = i
      · subst hj
        rw [hi] at e1; cases e1
        rw [List.getElem?_set_self hiσ] at e2
        cases e2
        exact ⟨u, r, .inr ⟨.inl hk, c, hc, hc'⟩⟩
      · rw [List.getElem?_set_ne (Ne.symm hj)] at e2
        obtain ⟨u', r', q⟩ := hl j y v' e1 e2 e3
        refine ⟨u', r', ?_⟩
        rcases q with q | ⟨k, c', e, z'⟩
        · exact .inl q
        · refine .inr ⟨k, c', e, z'.sameBut hs ?_⟩
          rintro rfl
          exact hj (nodup_ix hN e1 (I.ok.inj _ _ _ e hc ▸ hi))
    · by_cases hcc : c' = c
      · subst hcc; exact ⟨_, hc'⟩
      · obtain ⟨w2, z2⟩ := I.cell y c' e
        exact ⟨w2, z2.sameBut hs hcc⟩
    · obtain ⟨e, n, ne, nf, d⟩ := I.pin p hp
      refine ⟨(hs.2 p.1 ?_).trans e, n, ne, nf, d⟩
      intro q
      rw [q, hoc] at e
      have q' : oc = p.2 := Option.some.inj e
      exact d w' (by rw [← q']; exact hocd)
theorem store_ok {M : Model} {A : Around} {E : Value → Shared → Prop} {i : Nat} {x : Str} {v : V} {u : Value} {Q : Unit → Shared → Prop} (I : Inv X pins σ H s) (hN : X.N.Nodup) (hi : X.N[i]? = some x) (hx : Loc X.env.scope x) (r : RelV v u)
    (h : ∀ s', Inv X pins (σ.set i (some v)) H s' → Q () s') (hf : X.fn x = true ∨ X.env.scope.names.lookup x = some .local := by first | exact .inl rfl | exact .inr rfl | assumption) : wpAny M A (storeName X.env x u) Q E s :=
  store_ok2 I hN hi hx r (fun s' I' _ => h s' I') hf
theorem Inv.call' {s' : Shared} {ch : List Addr} (I : Inv X pins σ H s) (ho : s'.os = s.os) (u : Un (frs X.stack) ch H H' s.heap s'.heap) (hok : HOk X.prog X.w H' s'.heap) (hg : AllBare s'.gens)
    (hch : ∀ b ∈ ch, (b ∈ X.ex ∨ X.s₀.heap.objs.size ≤ b) ∧ b ≠ X.env.locals ∧ (∀ x c, X.env.cells.lookup x = some c → c ≠ b) ∧ ∀ p ∈ X.pn ++ pins, p.1 ≠ b) : Inv X pins σ H' s' := by
  obtain ⟨h', g', d', t', o'⟩ := s'
  have e : o' = s.os := ho
  subst e
  exact I.call (g' := g') (t' := t') (d' := d') u hok hg hch
end
abbrev XK := Value → Option Addr → Hp → Prop
abbrev St := List (Option V)
abbrev VK := V → Hp → Prop
abbrev TE := St → Hp → VK → Prop
abbrev TT := St → Hp → (Bool → Hp → Prop) → Prop
abbrev TA := St → Hp → (List V → Hp → Prop) → Prop
structure Ends where
  nx : St → Hp → Prop
  rt : VK
  bk : St → Hp → Prop := fun _ _ => False
  ct : St → Hp → Prop := fun _ _ => False
abbrev TS := Ends → St → Hp → Prop
noncomputable def EP (X : Cx) (pins : List (Addr × Obj)) (σ : St) (Q : VK) (u : Value) (s' : Shared) : Prop := ∃ v H', Inv X pins σ H' s' ∧ RelV v u ∧ Q v H'
noncomputable def TP (X : Cx) (pins : List (Addr × Obj)) (σ : St) (Q : Bool → Hp → Prop) (b : Bool) (s' : Shared) : Prop := ∃ H', Inv X pins σ H' s' ∧ Q b H'
noncomputable def AP (X : Cx) (pins : List (Addr × Obj)) (σ : St) (Q : List V → Hp → Prop) (us : List Value) (s' : Shared) : Prop := ∃ vs H', Inv X pins σ H' s' ∧ Vals vs us ∧ Q vs H'
noncomputable def SP (X : Cx) (pins : List (Addr × Obj)) (D : Ends) (f : Flow) (s' : Shared) : Prop :=
  match f with
  | .next => ∃ σ' H', Inv X pins σ' H' s' ∧ D.nx σ' H'
  | .brk => ∃ σ' H', Inv X pins σ' H' s' ∧ D.bk σ' H'
  | .cont => ∃ σ' H', Inv X pins σ' H' s' ∧ D.ct σ' H'
  | .ret u => ∃ v σ' H', Inv X pins σ' H' s' ∧ RelV v u ∧ D.rt v H'
noncomputable def PE (X : Cx) (e : Expr) (t : TE) : Prop :=
  ∀ (pins : List (Addr × Obj)) (s : Shared) (σ : St) (H : Hp) (Q : VK), Inv X pins σ H s → t σ H Q → wpAny (model X.prog X.w) X.A (eval e X.env) (EP X pins σ Q) X.xe s
noncomputable def PT (X : Cx) (e : Expr) (t : TT) : Prop :=
  ∀ (pins : List (Addr × Obj)) (s : Shared) (σ : St) (H : Hp) (Q : Bool → Hp → Prop), Inv X pins σ H s → t σ H Q → wpAny (model X.prog X.w) X.A (isTrue e X.env (eval e X.env)) (TP X pins σ Q) X.xe s
noncomputable def PW (X : Cx) (e : Expr) (t : TT) : Prop :=
  ∀ (whole : Sem Value) (pins : List (Addr × Obj)) (s : Shared) (σ : St) (H : Hp) (Q : Bool → Hp → Prop), Inv X pins σ H s → t σ H Q → wpAny (model X.prog X.w) X.A (isTrue e X.env whole) (TP X pins σ Q) X.xe s
theorem PW.pt {X : Cx} {e : Expr} {t : TT} (h : PW X e t) : PT X e t := h _
noncomputable def PA (X : Cx) (es : List Expr) (t : TA) : Prop :=
  ∀ (pos : Pos) (pins : List (Addr × Obj)) (s : Shared) (σ : St) (H : Hp) (Q : List V → Hp → Prop), Inv X pins σ H s → t σ H Q → wpAny (model X.prog X.w) X.A (spliced (backTo pos (starEach es X.env))) (AP X pins σ Q) X.xe s
noncomputable def PS (X : Cx) (st : Stmt) (t : TS) : Prop :=
  ∀ (pins : List (Addr × Obj)) (s : Shared) (σ : St) (H : Hp) (D : Ends), Inv X pins σ H s → t D σ H → wpAny (model X.prog X.w) X.A (exec st X.env) (SP X pins D) X.xe s
noncomputable def PSs (X : Cx) (st : List Stmt) (t : TS) : Prop :=
  ∀ (pins : List (Addr × Obj)) (s : Shared) (σ : St) (H : Hp) (D : Ends), Inv X pins σ H s → t D σ H → wpAny (model X.prog X.w) X.A (execs st X.env) (SP X pins D) X.xe s
theorem thn {α : Type} {t : Sem α} {Q Q' : α → Shared → Prop} {M : Model} {A : Around} {E : Value → Shared → Prop} {s : Shared} (h : wpAny M A t Q E s) (hQ : ∀ a s, Q a s → Q' a s) : wpAny M A t Q' E s := wpAny_mono h hQ fun _ _ x => x
end L2
namespace L2
open PySem PySem.Spec PyProof.Rows
section
variable {X : Cx}
noncomputable def tVar (i : Nat) : TE := fun σ H Q => ∃ v, σ[i]? = some (some v) ∧ Q v H
noncomputable def tC (v : V) : TE := fun _ H Q => Q v H
theorem pe_var {i : Nat} {x : Str} {pos : Pos} (hN : X.N[i]? = some x) (hv : Vis X.env.scope x) (hd : (x == ("__debug__" : Str)) = false := by decide) (hcd : (x == ("__classdict__" : Str)) = false := by decide) : PE X (.Name x pos) (tVar i) := by
  intro pins s σ H Q I h
  obtain ⟨v, e, h⟩ := h
  obtain ⟨m, hn, hl⟩ := I.loc
  obtain ⟨u, r, l⟩ := hl i x v hN e hv
  have fin : EP X pins σ Q u s := ⟨v, H, I, r, h⟩
  rcases l with ⟨hk, hm⟩ | ⟨hk, c, hc, hcell⟩
  · exact wpAny_Name (wpAny_loadName_local I.ok.kind hk hn hm fin) hd
  · rcases hk with hk | hk
    · exact wpAny_Name (wpAny_loadName_cell I.ok.kind hk hc hcell fin) hd
    · exact wpAny_Name (wpAny_loadName_free I.ok.kind hk hc hcell fin hcd) hd
theorem pe_int {i j pos} : PE X (.Constant (.int i) j pos) (tC (.int i)) := fun _ _ _ H _ I h => wpAny_Constant_int ⟨.int i, H, I.tok _, ⟨_, rfl⟩, h⟩
theorem pe_bl {b j pos} : PE X (.Constant (.bool b) j pos) (tC (.bl b)) := fun _ _ _ H _ I h => Constant_bool ⟨.bl b, H, I, rfl, h⟩
theorem pe_non {j pos} : PE X (.Constant .none j pos) (tC .non) := fun _ _ _ H _ I h => Constant_none ⟨.non, H, I, rfl, h⟩
theorem pe_str {x j pos} : PE X (.Constant (.str x) j pos) (tC (.str x)) := fun _ _ _ H _ I h => Calls.Constant_str ⟨.str x, H, I.tok _, ⟨_, rfl⟩, h⟩
noncomputable def Gl (X : Cx) (x : Str) : Prop := X.env.kindOf x = some .globalImplicit
theorem ld_glob {E : Value → Shared → Prop} {pins : List (Addr × Obj)} {s : Shared} {σ : St} {H : Hp} {x : Str} {u : Value} {pos : Pos} {Q : Value → Shared → Prop} (I : Inv X pins σ H s) (hg : Gl X x) (hm : X.mg x = some u) (h : Q u s)
    (hd : (x == ("__debug__" : Str)) = false := by decide) : wpAny (model X.prog X.w) X.A (eval (.Name x pos) X.env) Q E s :=
  Calls.Name_function_global I.ok.kind hg (Calls.loadGlobal_global (by rw [I.ok.glob]; exact I.mod.glob.keeps I.bk) hm h) hd
theorem ld_blt {E : Value → Shared → Prop} {pins : List (Addr × Obj)} {s : Shared} {σ : St} {H : Hp} {x : Str} {u : Value} {pos : Pos} {Q : Value → Shared → Prop} (I : Inv X pins σ H s) (hg : Gl X x) (hm : X.mg x = none) (hv : bootBuiltins x = some u) (h : Q u s)
    (hn : x ≠ "__name__" := by decide) (hd : (x == ("__debug__" : Str)) = false := by decide) : wpAny (model X.prog X.w) X.A (eval (.Name x pos) X.env) Q E s := by
  obtain ⟨mb, h1, h2⟩ := I.mod.blt
  exact Calls.Name_function_global I.ok.kind hg (Calls.loadGlobal_builtin (by rw [I.ok.glob]; exact I.mod.glob.keeps I.bk) hm (by rw [I.ok.blt]; exact h1.keeps I.bk) ((h2 x hn).trans hv) h) hd
theorem pe_bltn {x : Str} {v : V} {u : Value} {pos : Pos} (hg : Gl X x) (hm : X.mg x = none) (hv : bootBuiltins x = some u) (r : RelV v u) (hn : x ≠ "__name__" := by decide) (hd : (x == ("__debug__" : Str)) = false := by decide) : PE X (.Name x pos) (tC v) :=
  fun _ _ _ H _ I h => ld_blt I hg hm hv ⟨v, H, I, r, h⟩ hn hd
variable {a b : Expr} {ta tb : TE} {pos : Pos}
noncomputable def PC (X : Cx) (op : CmpOp) (a b : Expr) (t : TE) : Prop :=
  ∀ (pins : List (Addr × Obj)) (s : Shared) (σ : St) (H : Hp) (Q : VK), Inv X pins σ H s → t σ H Q →
    wpAny (model X.prog X.w) X.A (eval a X.env) (fun v s₁ => wpAny (model X.prog X.w) X.A (eval b X.env) (fun u s₂ => wpAny (model X.prog X.w) X.A (compareOp op v u) (EP X pins σ Q) X.xe s₂) X.xe s₁) X.xe s
noncomputable def tB (t : TE) : TT := fun σ H Q => t σ H fun x H1 => ∃ c, x = .bl c ∧ Q c H1
theorem pe_cmp {op : CmpOp} {t : TE} (h : PC X op a b t) (h1 : behindInMarks op b = false := by first | exact nobehind _ (by decide) (by decide) | rfl) : PE X (.Compare a [op] [b] pos) t := fun pins s σ H Q I hw => wpAny_Compare1 (h pins s σ H Q I hw) h1
theorem pt_cmp {op : CmpOp} {t : TE} (h : PC X op a b t) (h1 : behindInMarks op b = false := by first | exact nobehind _ (by decide) (by decide) | rfl) : PT X (.Compare a [op] [b] pos) (tB t) := by
  intro pins s σ H Q I hw
  refine wpAny_isTrue_Compare1 (thn (h pins s σ H _ I hw) fun v s1 h1 => thn h1 fun u s2 h2 => thn h2 fun c s3 ⟨x, H1, I1, r1, q1⟩ => ?_) h1
  obtain ⟨d, rfl, q⟩ := q1
  cases r1
  exact wpAny_truthy_bool ⟨H1, I1, q⟩
theorem pt_val {e : Expr} {t : TE} (h : PE X e t) (he : ∀ whole, isTrue e X.env whole = (do let v ← whole; standAt e.pos; holding [v] (truthy v)) := by intro _; rfl) : PT X e (tB t) := by
  intro pins s σ H Q I hw
  refine isTrue_plain (thn (h pins s σ H _ I hw) fun v s1 ⟨x, H1, I1, r1, q1⟩ => ?_) (he _)
  obtain ⟨d, rfl, q⟩ := q1
  cases r1
  exact wpAny_truthy_bool ⟨H1, I1, q⟩
variable {tA tB' : TT} {rest : List Expr}
noncomputable def tAnd (t u : TT) : TT := fun σ H Q => t σ H fun c H1 => if c = true then u σ H1 Q else Q false H1
noncomputable def tOr (t u : TT) : TT := fun σ H Q => t σ H fun c H1 => if c = true then Q true H1 else u σ H1 Q
noncomputable def tNot (t : TT) : TT := fun σ H Q => t σ H fun c H1 => Q (!c) H1
theorem pw_and1 (ha : PT X a tA) : PW X (.BoolOp .And [a] pos) tA := by
  intro wh pins s σ H Q I h
  refine isTrue_and (thn (ha pins s σ H Q I h) fun c s1 e => ?_)
  cases c with
  | true => exact isTrue_and_nil e
  | false => exact e
theorem pw_or1 (ha : PT X a tA) : PW X (.BoolOp .Or [a] pos) tA := by
  intro wh pins s σ H Q I h
  refine isTrue_or (thn (ha pins s σ H Q I h) fun c s1 e => ?_)
  cases c with
  | false => exact isTrue_or_nil e
  | true => exact e
theorem pw_and (ha : PT X a tA) (hb : PW X (.BoolOp .And (b :: rest) pos) tB') : PW X (.BoolOp .And (a :: b :: rest) pos) (tAnd tA tB') := by
  intro wh pins s σ H Q I h
  refine isTrue_and (thn (ha pins s σ H _ I h) fun c s1 ⟨H1, I1, q1⟩ => ?_)
  cases c with
  | true => exact hb wh pins s1 σ H1 Q I1 q1
  | false => exact ⟨H1, I1, q1⟩
theorem pw_or (ha : PT X a tA) (hb : PW X (.BoolOp .Or (b :: rest) pos) tB') : PW X (.BoolOp .Or (a :: b :: rest) pos) (tOr tA tB') := by
  intro wh pins s σ H Q I h
  refine isTrue_or (thn (ha pins s σ H _ I h) fun c s1 ⟨H1, I1, q1⟩ => ?_)
  cases c with
  | true => exact ⟨H1, I1, q1⟩
  | false => exact hb wh pins s1 σ H1 Q I1 q1
theorem pt_not (ha : PT X a tA) : PT X (.UnaryOp .Not a pos) (tNot tA) := by
  intro pins s σ H Q I h
  exact isTrue_not (ha pins s σ H (fun c H1 => Q (!c) H1) I h)
noncomputable def tAndV (ta tb : TE) : TE := fun σ H Q => ta σ H fun x H1 => ∃ c, x = .bl c ∧ if c = true then tb σ H1 Q else Q (.bl false) H1
noncomputable def tOrV (ta tb : TE) : TE := fun σ H Q => ta σ H fun x H1 => ∃ c, x = .bl c ∧ if c = true then Q (.bl true) H1 else tb σ H1 Q
theorem pe_one {op} {t : TE} (h : PE X a t) : PE X (.BoolOp op [a] pos) t := fun pins s σ H Q I hw => BoolOp_one (h pins s σ H Q I hw)
theorem pe_and (ha : PE X a ta) (hb : PE X (.BoolOp .And (b :: rest) pos) tb) : PE X (.BoolOp .And (a :: b :: rest) pos) (tAndV ta tb) := by
  intro pins s σ H Q I h
  refine BoolOp_and (thn (ha pins s σ H _ I h) fun v s1 ⟨x, H1, I1, r1, q1⟩ => ?_)
  obtain ⟨c, rfl, q1⟩ := q1
  cases r1
  refine wpAny_truthy_bool ?_
  cases c with
  | true => exact hb pins s1 σ H1 Q I1 q1
  | false => exact ⟨.bl false, H1, I1, rfl, q1⟩
theorem pe_or (ha : PE X a ta) (hb : PE X (.BoolOp .Or (b :: rest) pos) tb) : PE X (.BoolOp .Or (a :: b :: rest) pos) (tOrV ta tb) := by
  intro pins s σ H Q I h
  refine BoolOp_or (thn (ha pins s σ H _ I h) fun v s1 ⟨x, H1, I1, r1, q1⟩ => ?_)
  obtain ⟨c, rfl, q1⟩ := q1
  cases r1
  refine wpAny_truthy_bool ?_
  cases c with
  | false => exact hb pins s1 σ H1 Q I1 q1
  | true => exact ⟨.bl true, H1, I1, rfl, q1⟩
noncomputable def tIf (t : TT) (ta tb : TE) : TE := fun σ H Q => t σ H fun c H1 => if c = true then ta σ H1 Q else tb σ H1 Q
theorem pe_ifExp {c : Expr} (hc : PT X c tA) (ha : PE X a ta) (hb : PE X b tb) : PE X (.IfExp c a b pos) (tIf tA ta tb) := by
  intro pins s σ H Q I h
  refine wpAny_IfExp (thn (hc pins s σ H _ I h) fun d s1 ⟨H1, I1, q1⟩ => ?_)
  cases d with
  | true => exact ha pins s1 σ H1 Q I1 q1
  | false => exact hb pins s1 σ H1 Q I1 q1
end
end L2
namespace L2
open PySem PySem.Spec PyProof.Rows
noncomputable def SqL (K : PySem.W.Frag) (H : Hp) (a : Addr) (xs : List V) : Prop :=
  Rd H a (.lst xs) ∨
    ∃ (o : Obj) (its : Array Value) (n : Nat), K.lookup a = some o ∧ o.cls = .type "list" ∧ o.dict = none ∧ o.data = .seq its n ∧ its.size ≤ sizeLine ∧ Vals xs its.toList
noncomputable def SqT (K : PySem.W.Frag) (H : Hp) (a : Addr) (xs : List V) : Prop :=
  Rd H a (.tup xs) ∨
    ∃ (o : Obj) (its : Array Value) (n : Nat), K.lookup a = some o ∧ o.cls = .type "tuple" ∧ o.data = .seq its n ∧ its.size ≤ sizeLine ∧ Vals xs its.toList
noncomputable def absV : Value → Option V
  | .none => some .non
  | .bool b => some (.bl b)
  | .int i _ => some (.int i)
  | .str x _ => some (.str x)
  | .bytes b _ => some (.byt b)
  | .float b _ => some (.flt b)
  | .ref a => some (.ref a)
  | .type n => some (.ty n)
  | _ => none
theorem RelV.abs {x : V} {u : Value} (r : RelV x u) : absV u = some x := by
  cases x with
  | non => cases r; rfl
  | bl _ => cases r; rfl
  | int _ => obtain ⟨t, rfl⟩ := r; rfl
  | str _ => obtain ⟨t, rfl⟩ := r; rfl
  | byt _ => obtain ⟨t, rfl⟩ := r; rfl
  | flt _ => obtain ⟨t, rfl⟩ := r; rfl
  | ref _ => cases r; rfl
  | ty _ => cases r; rfl
theorem RelV.inj {x y : V} {u : Value} (r : RelV x u) (q : RelV y u) : x = y := Option.some.inj (r.abs.symm.trans q.abs)
theorem Vals.inj : ∀ {xs ys : List V} {us : List Value}, Vals xs us → Vals ys us → xs = ys
  | _, _, _, .nil, .nil => rfl
  | _, _, _, .cons r t, .cons r' t' => by rw [r.inj r', Vals.inj t t']
section
variable {X : Cx} {pins : List (Addr × Obj)} {σ : St} {H : Hp} {s : Shared} {a : Addr} {xs ys : List V}
theorem SqL.of {K : PySem.W.Frag} (h : H a = some (.lst xs)) : SqL K H a xs := .inl (.inl h)
theorem SqT.of {K : PySem.W.Frag} (h : H a = some (.tup xs)) : SqT K H a xs := .inl (.inl h)
theorem Inv.list (I : Inv X pins σ H s) (h : SqL X.K H a xs) : ∃ its : List Value, Vals xs its ∧ PlainL s.heap a its.toArray ∧ xs.length ≤ sizeLine := by
  rcases h with h | ⟨o, its, n, hk, hc, hd, hs, hz, r⟩
  · obtain ⟨z, its, n, r, e⟩ := h.ok I.hok
    exact ⟨its, r, ⟨_, n, e, rfl, rfl, rfl⟩, z⟩
  · refine ⟨its.toList, r, ⟨o, n, I.kIn a o hk, hc, hd, by simpa using hs⟩, ?_⟩
    have e := r.length
    simp only [Array.length_toList] at e
    lia
theorem Inv.tuple (I : Inv X pins σ H s) (h : SqT X.K H a xs) : ∃ its : List Value, Vals xs its ∧ IsTup s.heap a its.toArray ∧ xs.length ≤ sizeLine := by
  rcases h with h | ⟨o, its, n, hk, hc, hs, hz, r⟩
  · obtain ⟨z, its, r, p⟩ := h.ok I.hok
    exact ⟨its, r, p, z⟩
  · refine ⟨its.toList, r, ⟨o, I.kIn a o hk, hc, n, by simpa using hs⟩, ?_⟩
    have e := r.length
    simp only [Array.length_toList] at e
    lia
theorem Inv.list_inj (I : Inv X pins σ H s) (h : SqL X.K H a xs) (h' : SqL X.K H a ys) : xs = ys := by
  obtain ⟨its, r, ⟨o, n, e, _, _, d⟩, _⟩ := I.list h
  obtain ⟨its', r', ⟨o', n', e', _, _, d'⟩, _⟩ := I.list h'
  rw [e] at e'; cases e'
  rw [d] at d'
  injection d' with d1 _
  have : its = its' := by simpa using congrArg Array.toList d1
  subst this
  exact r.inj r'
end
noncomputable abbrev Cx.wish (X : Cx) (E : Value → Shared → Prop) : Cx := { X with xe := E }
noncomputable abbrev Cx.nox (X : Cx) : Cx := X.wish fun _ _ => False
theorem Cx.Ok.wish {X : Cx} (ok : X.Ok) (E : Value → Shared → Prop) : (X.wish E).Ok :=
  ⟨ok.mod, ok.kind, ok.glob, ok.blt, ok.above, ok.inj, ok.has, ok.cab, ok.hd, ok.frames, ok.stk, ok.exf, ok.bs, ok.bsz, ok.noex, ok.exfs, ok.funs, ok.frf⟩
theorem Cx.Ok.unwish {X : Cx} {E : Value → Shared → Prop} (ok : (X.wish E).Ok) : X.Ok :=
  ⟨ok.mod, ok.kind, ok.glob, ok.blt, ok.above, ok.inj, ok.has, ok.cab, ok.hd, ok.frames, ok.stk, ok.exf, ok.bs, ok.bsz, ok.noex, ok.exfs, ok.funs, ok.frf⟩
section
variable {X : Cx} {pins : List (Addr × Obj)} {σ : St} {H : Hp} {s : Shared} {E : Value → Shared → Prop}
theorem Inv.wish (I : Inv X pins σ H s) (E : Value → Shared → Prop) : Inv (X.wish E) pins σ H s := ⟨I.ok.wish E, I.os, I.bare, I.base, I.loc, I.cell, I.free, I.freeC, I.pin, I.hok, I.len⟩
theorem Inv.unwish (I : Inv (X.wish E) pins σ H s) : Inv X pins σ H s := ⟨I.ok.unwish, I.os, I.bare, I.base, I.loc, I.cell, I.free, I.freeC, I.pin, I.hok, I.len⟩
theorem SP.unwish {D : Ends} {f : Flow} {s' : Shared} (h : SP (X.wish E) pins D f s') : SP X pins D f s' := by
  cases f with
  | next => obtain ⟨σ', H', I, q⟩ := h; exact ⟨σ', H', I.unwish, q⟩
  | brk => obtain ⟨σ', H', I, q⟩ := h; exact ⟨σ', H', I.unwish, q⟩
  | cont => obtain ⟨σ', H', I, q⟩ := h; exact ⟨σ', H', I.unwish, q⟩
  | ret u => obtain ⟨v, σ', H', I, r, q⟩ := h; exact ⟨v, σ', H', I.unwish, r, q⟩
theorem PSs.nox {st : List Stmt} {t : TS} (h : PSs X.nox st t) : PSs X st t := fun pins s σ H D I hw =>
  wpAny_mono (h pins s σ H D (I.wish _) hw) (fun _ _ q => q.unwish) fun _ _ z => False.elim z
end
section
variable {X : Cx} {st : Stmt} {rest : List Stmt} {t u : TS} {e : Expr} {te : TE} {pos : Pos}
noncomputable def tNext : TS := fun D σ H => D.nx σ H
noncomputable def tSeq (t u : TS) : TS := fun D σ H => t { D with nx := u D } σ H
theorem pss_nil : PSs X [] tNext := fun _ _ σ H _ I h => wpAny_execs_nil ⟨σ, H, I, h⟩
theorem pss_cons (h1 : PS X st t) (h2 : PSs X rest u) : PSs X (st :: rest) (tSeq t u) := by
  intro pins s σ H D I h
  refine wpAny_execs_cons (thn (h1 pins s σ H { D with nx := u D } I h) fun f s1 q => ?_)
  cases f with
  | next =>
    obtain ⟨σ', H', I', q⟩ := q
    exact h2 pins s1 σ' H' D I' q
  | ret v => exact q
  | brk => exact q
  | cont => exact q
theorem pss_one (h1 : PS X st t) : PSs X [st] t := by
  intro pins s σ H D I h
  refine wpAny_execs_cons (thn (h1 pins s σ H D I h) fun f s1 q => ?_)
  cases f with
  | next => exact wpAny_execs_nil q
  | ret v => exact q
  | brk => exact q
  | cont => exact q
noncomputable def tBreak : TS := fun D σ H => D.bk σ H
theorem ps_break : PS X (.Break pos) tBreak := fun _ _ σ H _ I h => wpAny_Break ⟨σ, H, I, h⟩
theorem Inv.quiet {pins : List (Addr × Obj)} {σ : St} {H : Hp} {s : Shared} (I : Inv X pins σ H s) : interactive X.env = false := by simp [interactive, I.ok.kind]
noncomputable def tDrop (te : TE) : TS := fun D σ H => te σ H fun _ H1 => D.nx σ H1
theorem ps_expr (he : PE X e te) (hs : swapsWith e none pos.line X.env = pure false := by rfl) : PS X (.Expr e pos) (tDrop te) := by
  intro pins s σ H D I h
  exact wpAny_Expr_any (thn (he pins s σ H _ I h) fun v s1 ⟨x, H1, I1, r1, q1⟩ => ⟨σ, H1, I1, q1⟩) I.quiet hs
noncomputable def tRet (te : TE) : TS := fun D σ H => te σ H D.rt
theorem ps_ret (he : PE X e te) : PS X (.Return (some e) pos) (tRet te) := by
  intro pins s σ H D I h
  exact wpAny_Return_some (thn (he pins s σ H _ I h) fun v s1 ⟨x, H1, I1, r1, q1⟩ => ⟨x, σ, H1, I1, r1, q1⟩)
noncomputable def tIfS (c : TT) (t u : TS) : TS := fun D σ H => c σ H fun b H1 => if b = true then t D σ H1 else u D σ H1
theorem ps_if {c : Expr} {a b : List Stmt} {tc : TT} (hc : PT X c tc) (ha : PSs X a t) (hb : PSs X b u) : PS X (.If c a b pos) (tIfS tc t u) := by
  intro pins s σ H D I h
  refine wpAny_If (thn (hc pins s σ H _ I h) fun d s1 ⟨H1, I1, q1⟩ => ?_)
  cases d with
  | true => exact ha pins s1 σ H1 D I1 q1
  | false => exact hb pins s1 σ H1 D I1 q1
end
abbrev TG := V → St → Hp → (St → Hp → Prop) → Prop
abbrev TGs := List V → St → Hp → (St → Hp → Prop) → Prop
noncomputable def PG (X : Cx) (target : Expr) (t : TG) : Prop :=
  ∀ (pins : List (Addr × Obj)) (s : Shared) (σ : St) (H : Hp) (v : V) (u : Value) (Q : St → Hp → Prop), Inv X pins σ H s → RelV v u → t v σ H Q →
    wpAny (model X.prog X.w) X.A (assign target X.env u) (fun _ s' => ∃ σ' H', Inv X pins σ' H' s' ∧ Q σ' H') X.xe s
noncomputable def PGs (X : Cx) (ts : List Expr) (t : TGs) : Prop :=
  ∀ (pins : List (Addr × Obj)) (s : Shared) (σ : St) (H : Hp) (vs : List V) (us : List Value) (Q : St → Hp → Prop), Inv X pins σ H s → Vals vs us → t vs σ H Q →
    wpAny (model X.prog X.w) X.A (assignInOrder ((assignEach ts X.env).map (·.2)) us) (fun _ s' => ∃ σ' H', Inv X pins σ' H' s' ∧ Q σ' H') X.xe s
section
variable {X : Cx} {pos : Pos}
noncomputable def gName (i : Nat) : TG := fun v σ H Q => Q (σ.set i (some v)) H
theorem pg_name {i : Nat} {x : Str} (hN : X.N.Nodup) (hi : X.N[i]? = some x) (hx : Loc X.env.scope x) (hf : X.fn x = true ∨ X.env.scope.names.lookup x = some .local := by first | exact .inl rfl | exact .inr rfl | assumption) : PG X (.Name x pos) (gName i) := by
  intro pins s σ H v u Q I r h
  exact wpAny_assign_Name (store_ok I hN hi hx r (fun s' I' => ⟨_, H, I', h⟩) hf)
noncomputable def gNil : TGs := fun vs σ H Q => vs = [] ∧ Q σ H
noncomputable def gCons (t : TG) (u : TGs) : TGs := fun vs σ H Q => ∃ v r, vs = v :: r ∧ t v σ H fun σ' H' => u r σ' H' Q
theorem pgs_nil : PGs X [] gNil := by
  intro pins s σ H vs us Q I r h
  obtain ⟨e, h⟩ := h
  subst e
  cases r
  exact assignInOrder_nil ⟨σ, H, I, h⟩
theorem pgs_cons {e : Expr} {es : List Expr} {t : TG} {u : TGs} (h1 : PG X e t) (h2 : PGs X es u)
    (hs : (assignEach (e :: es) X.env).map (·.2) = assign e X.env :: (assignEach es X.env).map (·.2) := by rfl) : PGs X (e :: es) (gCons t u) := by
  intro pins s σ H vs us Q I r h
  obtain ⟨v, vr, e1, h⟩ := h
  subst e1
  cases r with
  | cons r rr =>
    rw [hs]
    refine assignInOrder_cons (thn (h1 pins s σ H _ _ _ I r h) fun _ s1 ⟨σ1, H1, I1, q1⟩ => ?_)
    exact h2 pins s1 σ1 H1 _ _ Q I1 rr q1
noncomputable def gTup (K : PySem.W.Frag) (n : Nat) (t : TGs) : TG := fun v σ H Q => ∃ a xs, v = .ref a ∧ SqT K H a xs ∧ xs.length = n ∧ t xs σ H Q
theorem pg_tup {es : List Expr} {k : Nat} {t : TGs} {n : Nat} (hc : X.calm = true) (h : PGs X es t)
    (hn : (assignEach es X.env).length = n := by rfl) (hst : (assignEach es X.env).findIdx? (·.1) = none := by rfl) : PG X (.Tuple es k pos) (gTup X.K n t) := by
  intro pins s σ H v u Q I r hw
  obtain ⟨a, xs, e1, hq, hl, hw⟩ := hw
  subst e1
  cases r
  obtain ⟨its, rv, ht, hz⟩ := I.tuple hq
  refine assign_Tuple_tuple (I.ok.hd hc) ht (by simp [hn, ← hl, rv.length]) hst fun h' hx => ?_
  have I1 : Inv X pins σ H { s with heap := h' } := I.kept (t' := s.toks) fun b o e => hx b o (Nat.ne_of_lt (Heap.lt_size e)) e
  exact h pins _ σ H xs _ Q I1 (by simpa using rv) hw
noncomputable def tAsg (te : TE) (g : TG) : TS := fun D σ H => te σ H fun x H1 => g x σ H1 D.nx
theorem ps_asg {tg e : Expr} {te : TE} {g : TG} (he : PE X e te) (hg : PG X tg g) (hs : swapsWithSole [tg] e pos.line X.env = pure false := by rfl) (hw : swappedStores [tg] e X.env = pure none := by rfl)
    (h1 : (assignEach [tg] X.env).map (·.2) = [assign tg X.env] := by rfl) : PS X (.Assign [tg] e pos) (tAsg te g) := by
  intro pins s σ H D I h
  refine wpAny_Assign_stores (thn (he pins s σ H _ I h) fun v s1 ⟨x, H1, I1, r1, q1⟩ => ?_) hs hw
  rw [h1]
  exact thn (hg pins s1 σ H1 x v _ I1 r1 q1) fun _ s2 q => q
theorem ps_set {i : Nat} {x : Str} {e : Expr} {te : TE} {pos' : Pos} (hN : X.N.Nodup) (hi : X.N[i]? = some x) (hx : Loc X.env.scope x) (he : PE X e te) (hs : swapsWith e (some (.Name x pos')) pos.line X.env = pure false := by rfl) (hf : X.fn x = true ∨ X.env.scope.names.lookup x = some .local := by first | exact .inl rfl | exact .inr rfl | assumption) :
    PS X (.Assign [.Name x pos'] e pos) (tAsg te (gName i)) := by
  intro pins s σ H D I h
  refine wpAny_Assign_Name (thn (he pins s σ H _ I h) fun v s1 ⟨y, H1, I1, r1, q1⟩ => ?_) hs
  exact store_ok I1 hN hi hx r1 (fun s2 I2 => ⟨_, H1, I2, q1⟩) hf
end
section
variable {X : Cx} {pos : Pos}
noncomputable def tWhile (c : TT) (tb : TS) : TS := fun D σ H => ∃ W : Nat → St → Hp → Prop, (∃ m, W m σ H) ∧ ∀ m σ H, W m σ H →
  c σ H fun b H1 => if b = true then ∃ N : St → Hp → Prop, (∀ σ' H', N σ' H' → ∃ m', m' < m ∧ W m' σ' H') ∧ tb { D with nx := N, ct := N, bk := D.nx } σ H1 else D.nx σ H1
theorem ps_while {c : Expr} {body : List Stmt} {tc : TT} {tb : TS} (hp : PassesOwn (model X.prog X.w) X.A X.env X.xe) (hc : PT X c tc) (hb : PSs X body tb) : PS X (.While c body [] pos) (tWhile tc tb) := by
  intro pins s σ H D I h
  obtain ⟨W, ⟨m0, w0⟩, turn⟩ := h
  refine wpAny_While (codeAny_whileLoop (fun n s' => ∃ σ' H', Inv X pins σ' H' s' ∧ W n σ' H') ?_ m0 ⟨σ, H, I, w0⟩)
  rintro n s1 ⟨σ1, H1, I1, w1⟩
  refine wpAny_passesOwn hp (thn (hc pins s1 σ1 H1 _ I1 (turn n σ1 H1 w1)) fun b s2 ⟨H2, I2, q2⟩ => ?_)
  cases b with
  | true =>
    obtain ⟨N, hN, q2⟩ := q2
    rw [if_pos rfl]
    refine wpAny_passesOwn hp (thn (hb pins s2 σ1 H2 _ I2 q2) fun f s3 q3 => ?_)
    cases f with
    | next =>
      obtain ⟨σ3, H3, I3, n3⟩ := q3
      obtain ⟨m', hm, w3⟩ := hN σ3 H3 n3
      exact ⟨m', hm, σ3, H3, I3, w3⟩
    | cont =>
      obtain ⟨σ3, H3, I3, n3⟩ := q3
      obtain ⟨m', hm, w3⟩ := hN σ3 H3 n3
      exact ⟨m', hm, σ3, H3, I3, w3⟩
    | brk => exact q3
    | ret v => exact q3
  | false =>
    rw [if_neg Bool.false_ne_true]
    exact wpAny_execs_nil ⟨σ1, H2, I2, q2⟩
end
structure It where
  go : Nat → Hp → Prop
  yld : Nat → Hp → V → Hp → Prop
  stop : Nat → Hp → Prop
noncomputable def FpOk (X : Cx) (pins : List (Addr × Obj)) (H : Hp) (b : Addr) : Prop :=
  H b = none ∧ b ≠ X.env.locals ∧ b ∉ X.fs ∧ (b ∈ X.ex ∨ X.s₀.heap.objs.size ≤ b) ∧ (∀ x c, X.env.cells.lookup x = some c → c ≠ b) ∧ ∀ p ∈ X.pn ++ pins, p.1 ≠ b
theorem Inv.fpOk {X : Cx} {pins : List (Addr × Obj)} {σ : St} {H H' : Hp} {s : Shared} {b : Addr} (I : Inv X pins σ H s) (hb : s.heap.objs.size ≤ b) (hn : H' b = none) : FpOk X pins H' b := by
  refine ⟨hn, Nat.ne_of_gt (Nat.lt_of_lt_of_le I.lt hb), I.nofs hb, .inr (Nat.le_trans I.sz hb), fun x c e z => ?_, fun p hp z => ?_⟩
  · obtain ⟨v, q⟩ := I.cell x c e
    exact absurd (Nat.lt_of_lt_of_le q.lt (by rw [z]; exact hb)) (Nat.lt_irrefl _)
  · exact absurd (Nat.lt_of_lt_of_le (Heap.lt_size (I.pin p hp).1) (by rw [z]; exact hb)) (Nat.lt_irrefl _)
structure Turn (P : Program) (w : World) (K : PySem.W.Frag) (tg : Expr) (J : It) (fp : List Addr) (it : Addr) (tn : Nat → Heap → Prop) : Prop where
  mem : it ∈ fp
  obj : ∀ i h, tn i h → ∀ b ∈ fp, ∃ o, h.get? b = some o ∧ ∀ v, o.data ≠ .cell v
  keep : ∀ i h h', tn i h → (∀ b ∈ fp, ∀ o, h.get? b = some o → h'.get? b = some o) → tn i h'
  item : ∀ (X : Cx), X.prog = P → X.w = w → X.K = K → X.calm = true → ∀ (i : Nat) (pins : List (Addr × Obj)) (s : Shared) (σ : St) (H : Hp) (E : Value → Shared → Prop), Inv X pins σ H s → (∀ b ∈ fp, FpOk X pins H b) → tn i s.heap → J.go i H →
    wpAny (model P w) X.A (pyNext (.ref it)) (fun r s1 => ∃ u, r = some u ∧
      wpAny (model P w) X.A (letOwnedTupleGo tg (.ref it) u) (fun _ s2 => ∃ x H', Inv X pins σ H' s2 ∧ RelV x u ∧ J.yld i H x H' ∧ tn (i + 1) s2.heap ∧ ∀ b ∈ fp, H' b = none) E s1) E s
  done : ∀ (X : Cx), X.prog = P → X.w = w → X.K = K → X.calm = true → ∀ (i : Nat) (pins : List (Addr × Obj)) (s : Shared) (σ : St) (H : Hp) (E : Value → Shared → Prop), Inv X pins σ H s → (∀ b ∈ fp, FpOk X pins H b) → tn i s.heap → J.stop i H →
    wpAny (model P w) X.A (pyNext (.ref it)) (fun r s1 => r = none ∧ Inv X pins σ H s1) E s
  self : ∀ (A : Around) (i : Nat) (s : Shared) (Q : Value → Shared → Prop) (E : Value → Shared → Prop), tn i s.heap → Q (.ref it) s → wpAny (model P w) A (pyIter (.ref it)) Q E s
abbrev TI := St → Hp → (It → Hp → Prop) → Prop
noncomputable def PIE (X : Cx) (pins : List (Addr × Obj)) (σ : St) (tg : Expr) (R : It → Hp → Prop) (itv : Value) (s2 : Shared) : Prop :=
  ∃ (it : Addr) (fp : List Addr) (tn : Nat → Heap → Prop) (J : It) (H' : Hp), itv = .ref it ∧ Inv X pins σ H' s2 ∧ Turn X.prog X.w X.K tg J fp it tn ∧ tn 0 s2.heap ∧ (∀ b ∈ fp, FpOk X pins H' b) ∧ R J H'
noncomputable def PI (X : Cx) (tg iter : Expr) (wi : TI) : Prop :=
  ∀ (pins : List (Addr × Obj)) (s : Shared) (σ : St) (H : Hp) (R : It → Hp → Prop), Inv X pins σ H s → wi σ H R →
    wpAny (model X.prog X.w) X.A (eval iter X.env) (fun v s1 => wpAny (model X.prog X.w) X.A (pyIter v) (PIE X pins σ tg R) X.xe s1) X.xe s
theorem go_of {M : Model} {A : Around} {E : Value → Shared → Prop} {s : Shared} {tg : Expr} {it : Addr} {u : Value} {o : Obj} {n : String} {vs : Array Value} {Q : Unit → Shared → Prop} (ho : s.heap.get? it = some o) (hc : o.cls = .type n) (hd : o.data = .fields vs)
    (hn : ["enumerate", "zip", "dict_itemiterator", "dict_reverseitemiterator", "odict_iterator", "itertools.zip_longest", "itertools.pairwise"].contains n = false) (hQ : Q () s) : wpAny M A (letOwnedTupleGo tg (.ref it) u) Q E s := by
  unfold letOwnedTupleGo
  cases tg <;> first
    | exact wpAny_pure hQ
    | (cases u <;> first
        | exact wpAny_pure hQ
        | (refine wpAny_bind (wpAny_load ho ?_)
           rw [hc, hd]
           show wpAny M A (if (["enumerate", "zip", "dict_itemiterator", "dict_reverseitemiterator", "odict_iterator", "itertools.zip_longest", "itertools.pairwise"].contains n && vs[0]? == some (rawInt _)) = true then _ else _) Q E s
           rw [if_neg (by intro h; rw [hn, Bool.false_and] at h; cases h)]
           exact wpAny_pure hQ))
noncomputable def Itl (K : PySem.W.Frag) (a : Addr) : It :=
  ⟨fun i H => ∃ xs x, SqL K H a xs ∧ xs[i]? = some x, fun i H x H' => H' = H ∧ ∀ xs, SqL K H a xs → xs[i]? = some x, fun i H => ∃ xs, SqL K H a xs ∧ xs.length ≤ i⟩
noncomputable def Itr (lo : Int) (n : Nat) : It := ⟨fun i _ => i < n, fun i H x H' => H' = H ∧ x = .int (lo + i), fun i _ => n ≤ i⟩
theorem turn_list {P : Program} {w : World} {K : PySem.W.Frag} {tg : Expr} (a it : Addr) : Turn P w K tg (Itl K a) [it] it (fun i h => h.IsListIter it a i) where
  mem := by simp
  obj := fun i h st b hb => by
    have e : b = it := by simpa using hb
    subst e
    obtain ⟨o, e, c, d⟩ := st
    exact ⟨o, e, fun v z => by rw [d] at z; cases z⟩
  keep := fun i h h' st k => st.at fun o e => k it (by simp) o e
  item := by
    intro X hP hw hK hc i pins s σ H E I hf st hg
    subst hP hw hK
    obtain ⟨xs, x, hq, hx⟩ := hg
    obtain ⟨its, rv, p, hz⟩ := I.list hq
    obtain ⟨u, hu, ru⟩ := rv.get hx
    obtain ⟨f0, f1, f2, f3, f4, f5⟩ := hf it (by simp)
    refine wpAny_pyNext_list_item st p.isList (x := u) (by simpa using hu) fun h' st' sb => ?_
    have I1 : Inv X pins σ H { s with heap := h' } := I.turned (t' := s.toks) (fun b o hb e => (sb.2 b hb).trans e) f0 f1 f3 f4 f5
    obtain ⟨o, e, c, d⟩ := id st'
    exact ⟨u, rfl, go_of (s := { s with heap := h' }) e c d (by decide) ⟨x, H, I1, ru, ⟨rfl, fun ys hy => by rw [I.list_inj hy hq]; exact hx⟩, st', fun b hb => (hf b hb).1⟩⟩
  done := by
    intro X hP hw hK hc i pins s σ H E I hf st hg
    subst hP hw hK
    obtain ⟨xs, hq, hx⟩ := hg
    obtain ⟨its, rv, p, hz⟩ := I.list hq
    obtain ⟨f0, f1, f2, f3, f4, f5⟩ := hf it (by simp)
    have hl := rv.length
    exact wpAny_pyNext_list_end (I.ok.hd hc) st p.isList (by simp; lia) fun h' eb => ⟨rfl, I.turned (t' := s.toks) (fun b o hb e => eb b o hb e) f0 f1 f3 f4 f5⟩
  self := fun _ _ _ _ _ st h => wpAny_pyIter_listiter st h
theorem turn_range {P : Program} {w : World} {K : PySem.W.Frag} {tg : Expr} (it : Addr) (lo : Int) (n : Nat) : Turn P w K tg (Itr lo n) [it] it (fun i h => IsRangeIter h it (lo + (i : Nat) * 1) ((n : Int) - (i : Nat)) 1) where
  mem := by simp
  obj := fun i h st b hb => by
    have e : b = it := by simpa using hb
    subst e
    exact ⟨_, st, fun v z => by
      have z' : Data.fields _ = Data.cell v := z
      cases z'⟩
  keep := fun i h h' st k => k it (by simp) _ st
  item := by
    intro X hP hw hK hc i pins s σ H E I hf st hg
    subst hP hw hK
    obtain ⟨f0, f1, f2, f3, f4, f5⟩ := hf it (by simp)
    have W := Walks.range (prog := X.prog) (w := X.w) (I.ok.hd hc) it lo 1 n
    refine W.item i s _ _ hg st fun v h' tk hv st' kk => ?_
    obtain ⟨t, rfl⟩ := hv
    have I1 : Inv X pins σ H { s with heap := h', toks := tk } := I.turned (fun b o hb e => kk b o (by simpa using hb) e) f0 f1 f3 f4 f5
    refine ⟨_, rfl, go_of (s := { s with heap := h', toks := tk }) (n := "range_iterator") st' rfl rfl (by decide) ⟨.int (lo + i), H, I1, ⟨t, ?_⟩, ⟨rfl, rfl⟩, st', fun b hb => (hf b hb).1⟩⟩
    rw [Int.mul_one]
  done := by
    intro X hP hw hK hc i pins s σ H E I hf st hg
    subst hP hw hK
    obtain ⟨f0, f1, f2, f3, f4, f5⟩ := hf it (by simp)
    exact wpAny_pyNext_range_end (I.ok.hd hc) st (by have : n ≤ i := hg; lia) fun h' eb => ⟨rfl, I.turned (t' := s.toks) (fun b o hb e => eb b o hb e) f0 f1 f3 f4 f5⟩
  self := fun _ _ _ _ _ st h => wpAny_pyIter_rangeiter st h
end L2
namespace L2
open PySem PySem.Spec PyProof.Rows
section
variable {X : Cx} {tg : Expr}
noncomputable def iList (K : PySem.W.Frag) (tl : TE) : TI := fun σ H R => tl σ H fun x H1 => ∃ a, x = .ref a ∧ (∃ xs, SqL K H1 a xs) ∧ R (Itl K a) H1
theorem pi_list {l : Expr} {tl : TE} (hl : PE X l tl) : PI X tg l (iList X.K tl) := by
  intro pins s σ H R I h
  refine thn (hl pins s σ H _ I h) fun v s1 ⟨x, H1, I1, r1, q1⟩ => ?_
  obtain ⟨a, e, ⟨xs, hq⟩, q⟩ := q1
  subst e
  cases r1
  obtain ⟨its, rv, p, hz⟩ := I1.list hq
  refine wpAny_pyIter_list p.isList ?_
  refine ⟨s1.heap.objs.size, [s1.heap.objs.size], _, _, H1, rfl, I1.kept (t' := s1.toks) fun b o e => Heap.get?_push_of_some _ e, turn_list a _, ⟨_, Heap.get?_push_size _ rfl, rfl, rfl⟩, fun b hb => ?_, q⟩
  have e : b = s1.heap.objs.size := by simpa using hb
  subst e
  exact I1.fpOk (Nat.le_refl _) (I1.hok.fresh (Nat.le_refl _))
theorem range_it {pins : List (Addr × Obj)} {σ : St} {H : Hp} {s : Shared} {R : It → Hp → Prop} {E : Value → Shared → Prop} {lo hi : Int} {t u v : Tok} {tk : Nat} (I : Inv X pins σ H s) (h1 : -(2 ^ 62) ≤ lo) (h2 : lo < 2 ^ 62) (h3 : -(2 ^ 62) ≤ hi) (h4 : hi < 2 ^ 62)
    (q : R (Itr lo (hi - lo).toNat) H) : wpAny (model X.prog X.w) X.A (pyIter (.ref s.heap.objs.size)) (PIE X pins σ tg R) E { s with heap := s.heap.push { cls := .type "range", data := .fields #[.int lo t, .int hi u, .int 1 v] }, toks := tk } := by
  refine wpAny_pyIter_range (IsRange.new ..) (small_one h1 h2 h3 h4) ?_
  have I1 : Inv X pins σ H { s with heap := s.heap.push { cls := .type "range", data := .fields #[.int lo t, .int hi u, .int 1 v] }, toks := tk } := I.kept fun b o e => Heap.get?_push_of_some _ e
  refine ⟨(s.heap.push { cls := .type "range", data := .fields #[.int lo t, .int hi u, .int 1 v] }).objs.size, [(s.heap.push { cls := .type "range", data := .fields #[.int lo t, .int hi u, .int 1 v] }).objs.size], _, _, H, rfl,
    I1.kept (t' := tk) fun b o e => Heap.get?_push_of_some _ e, turn_range _ lo (hi - lo).toNat, ?_, fun b hb => ?_, q⟩
  · have e1 : lo + ((0 : Nat) : Int) * 1 = lo := by simp
    have e2 : (((hi - lo).toNat : Nat) : Int) - ((0 : Nat) : Int) = Builtin.Range.rangeSize lo hi 1 := by rw [rangeSize_one]; split <;> lia
    show IsRangeIter _ _ (lo + ((0 : Nat) : Int) * 1) ((((hi - lo).toNat : Nat) : Int) - ((0 : Nat) : Int)) 1
    rw [e1, e2]
    exact Heap.get?_push_size _ rfl
  · have e : b = (s.heap.push { cls := .type "range", data := .fields #[.int lo t, .int hi u, .int 1 v] }).objs.size := by simpa using hb
    subst e
    exact I1.fpOk (Nat.le_refl _) (I1.hok.fresh (Nat.le_refl _))
noncomputable def iRng1 (ta : TA) : TI := fun σ H R => ta σ H fun vs H1 => ∃ j : Int, vs = [.int j] ∧ -(2 ^ 62) ≤ j ∧ j < 2 ^ 62 ∧ R (Itr 0 j.toNat) H1
theorem pi_range1 {a : Expr} {ta : TA} {p pos : Pos} (hg : Gl X "range") (hm : X.mg "range" = none) (ha : PA X [a] ta) (hs : starEach [a] X.env = [(false, eval a X.env)] := by rfl) : PI X tg (.Call (.Name "range" p) [a] [] pos) (iRng1 ta) := by
  intro pins s σ H R I h
  refine Call_ (ld_blt I hg hm boot_range (PyProof.Rows.callWith_type1 (thn (ha pos pins s σ H _ I h) fun us s1 ⟨vs, H1, I1, r1, q1⟩ => ?_) hs rfl))
  obtain ⟨j, e, q1, q2, q⟩ := q1
  subst e
  cases r1 with
  | cons r rr =>
    cases rr
    obtain ⟨t, rfl⟩ := r
    exact call_range_1 (range_it I1 (by lia) (by lia) q1 q2 (by simpa using q))
noncomputable def tFor (wi : TI) (g : TG) (tb : TS) : TS := fun D σ H => wi σ H fun J H1 => ∃ W : Nat → Nat → St → Hp → Prop, (∃ m, W 0 m σ H1) ∧ ∀ i m σ H, W i m σ H →
  (J.stop i H ∧ D.nx σ H) ∨ (J.go i H ∧ ∃ N : St → Hp → Prop, (∀ σ' H', N σ' H' → ∃ m', m' < m ∧ W (i + 1) m' σ' H') ∧ ∀ x H', J.yld i H x H' → g x σ H' fun σ2 H2 => tb { D with nx := N, ct := N, bk := D.nx } σ2 H2)
noncomputable def pinsAt (fp : List Addr) (h : Heap) : List (Addr × Obj) := fp.filterMap fun b => (h.get? b).map fun o => (b, o)
theorem mem_pinsAt {fp : List Addr} {h : Heap} {b : Addr} {o : Obj} (hb : b ∈ fp) (e : h.get? b = some o) : (b, o) ∈ pinsAt fp h := List.mem_filterMap.mpr ⟨b, hb, by rw [e]; rfl⟩
theorem of_pinsAt {fp : List Addr} {h : Heap} {p : Addr × Obj} (hp : p ∈ pinsAt fp h) : p.1 ∈ fp ∧ h.get? p.1 = some p.2 := by
  obtain ⟨b, hb, e⟩ := List.mem_filterMap.mp hp
  cases q : h.get? b with
  | none => rw [q] at e; cases e
  | some o =>
    rw [q] at e
    have e' : (b, o) = p := Option.some.inj e
    subst e'
    exact ⟨hb, q⟩
theorem Inv.pinned {pins : List (Addr × Obj)} {σ : St} {H : Hp} {s : Shared} {fp : List Addr} (I : Inv X pins σ H s) (hf : ∀ b ∈ fp, FpOk X pins H b) (ho : ∀ b ∈ fp, ∃ o, s.heap.get? b = some o ∧ ∀ v, o.data ≠ .cell v) : Inv X (pins ++ pinsAt fp s.heap) σ H s :=
  I.pins_of fun p hp => (List.mem_append.mp hp).elim (fun z => I.pin p (List.mem_append_right _ z)) fun z => by
    obtain ⟨hb, e⟩ := of_pinsAt z
    obtain ⟨f0, f1, f2, _⟩ := hf p.1 hb
    obtain ⟨o, e', d⟩ := ho p.1 hb
    rw [e] at e'; cases e'
    exact ⟨e, f0, f1, f2, d⟩
theorem Inv.unpinned {pins pl : List (Addr × Obj)} {σ : St} {H : Hp} {s : Shared} (I : Inv X (pins ++ pl) σ H s) : Inv X pins σ H s := I.pins_of fun p hp => I.pin p (List.mem_append_right _ (List.mem_append_left _ hp))
theorem ps_for {iter : Expr} {body : List Stmt} {wi : TI} {g : TG} {tb : TS} {pos : Pos} (hp : PassesOwn (model X.prog X.w) X.A X.env X.xe) (hc : X.calm = true) (hi : PI X tg iter wi) (hg : PG X tg g) (hb : PSs X body tb)
    (hs : ∀ x, foldedSetIterable iter X.env x = pure x := by intro _; rfl) : PS X (.For tg iter body [] pos) (tFor wi g tb) := by
  intro pins s σ H D I h
  refine wpAny_For (thn (hi pins s σ H _ I h) fun v s1 h1 => thn h1 fun itv s2 h2 => ?_) hs
  obtain ⟨it, fp, tn, J, H2, e, I2, T, st2, f2, W, ⟨m0, w0⟩, turn⟩ := h2
  subst e
  have stat : ∀ {H' : Hp}, (∀ b ∈ fp, H' b = none) → ∀ b ∈ fp, FpOk X pins H' b := fun hn b hb => ⟨hn b hb, (f2 b hb).2⟩
  refine codeAny_forLoop_any (fun n s' => ∃ i σ' H', Inv X pins σ' H' s' ∧ tn i s'.heap ∧ (∀ b ∈ fp, H' b = none) ∧ W i n σ' H') ?_ m0 ⟨0, σ, H2, I2, st2, fun b hb => (f2 b hb).1, w0⟩
  rintro n s3 ⟨i, σ3, H3, I3, st3, fr3, w3⟩
  rcases turn i n σ3 H3 w3 with ⟨stop, qn⟩ | ⟨go, N, hN, step⟩
  · refine wpAny_passesOwn hp (thn (T.done X rfl rfl rfl hc i pins s3 σ3 H3 X.xe I3 (stat fr3) st3 stop) fun r s4 ⟨hr, I4⟩ => ?_)
    subst hr
    exact wpAny_execs_nil ⟨σ3, H3, I4, qn⟩
  · refine wpAny_passesOwn hp (thn (T.item X rfl rfl rfl hc i pins s3 σ3 H3 X.xe I3 (stat fr3) st3 go) fun r s4 ⟨u, hr, h4⟩ => ?_)
    subst hr
    refine wpAny_passesOwn hp (thn h4 fun _ s5 ⟨x, H5, I5, r5, y5, st5, fr5⟩ => ?_)
    have I5' := I5.pinned (stat fr5) (T.obj _ _ st5)
    refine wpAny_passesOwn hp (thn (hg _ s5 σ3 H5 x u _ I5' r5 (step x H5 y5)) fun _ s6 ⟨σ6, H6, I6, q6⟩ => ?_)
    refine wpAny_passesOwn hp (thn (hb _ s6 σ6 H6 _ I6 q6) fun f s7 q7 => ?_)
    have again : ∀ {σ7 : St} {H7 : Hp}, Inv X (pins ++ pinsAt fp s5.heap) σ7 H7 s7 → N σ7 H7 → ∃ m, m < n ∧ ∃ i σ' H', Inv X pins σ' H' s7 ∧ tn i s7.heap ∧ (∀ b ∈ fp, H' b = none) ∧ W i m σ' H' := fun {σ7 H7} I7 n7 => by
      obtain ⟨m', hm, w7⟩ := hN σ7 H7 n7
      refine ⟨m', hm, i + 1, σ7, H7, I7.unpinned, T.keep _ _ _ st5 fun b hb o e => (I7.pin (b, o) (List.mem_append_right _ (List.mem_append_right _ (mem_pinsAt hb e)))).1, fun b hb => ?_, w7⟩
      obtain ⟨o, e, d⟩ := T.obj _ _ st5 b hb
      exact (I7.pin (b, o) (List.mem_append_right _ (List.mem_append_right _ (mem_pinsAt hb e)))).2.1
    cases f with
    | next => obtain ⟨σ7, H7, I7, n7⟩ := q7; exact again I7 n7
    | cont => obtain ⟨σ7, H7, I7, n7⟩ := q7; exact again I7 n7
    | brk => obtain ⟨σ7, H7, I7, q7⟩ := q7; exact ⟨σ7, H7, I7.unpinned, q7⟩
    | ret v => obtain ⟨x7, σ7, H7, I7, r7, q7⟩ := q7; exact ⟨x7, σ7, H7, I7.unpinned, r7, q7⟩
end
theorem for_list {K : PySem.W.Frag} {a : Addr} {xs : List V} {g : TG} {tb : TS} {D : Ends} {σ : St} {H : Hp} (Pv : Nat → St → Hp → Prop) (h0 : Pv 0 σ H) (hl : ∀ i σ H, i ≤ xs.length → Pv i σ H → SqL K H a xs)
    (hs : ∀ i x σ H, xs[i]? = some x → Pv i σ H → g x σ H fun σ2 H2 => tb { D with nx := Pv (i + 1), ct := Pv (i + 1), bk := D.nx } σ2 H2) (hd : ∀ σ H, Pv xs.length σ H → D.nx σ H) :
    ∃ W : Nat → Nat → St → Hp → Prop, (∃ m, W 0 m σ H) ∧ ∀ i m σ H, W i m σ H →
      ((Itl K a).stop i H ∧ D.nx σ H) ∨ ((Itl K a).go i H ∧ ∃ N : St → Hp → Prop, (∀ σ' H', N σ' H' → ∃ m', m' < m ∧ W (i + 1) m' σ' H') ∧ ∀ x H', (Itl K a).yld i H x H' → g x σ H' fun σ2 H2 => tb { D with nx := N, ct := N, bk := D.nx } σ2 H2) := by
  refine ⟨fun i m σ H => m = xs.length - i ∧ i ≤ xs.length ∧ Pv i σ H, ⟨xs.length, by simp, Nat.zero_le _, h0⟩, ?_⟩
  rintro i m σ H ⟨rfl, hi, p⟩
  have q := hl i σ H hi p
  by_cases hlt : i < xs.length
  · refine .inr ⟨⟨xs, xs[i], q, by simp [hlt]⟩, Pv (i + 1), fun σ' H' p' => ⟨xs.length - (i + 1), by lia, rfl, hlt, p'⟩, fun x H' y => ?_⟩
    obtain ⟨e, y⟩ := y
    subst e
    exact hs i x σ _ (y xs q) p
  · have e : i = xs.length := by lia
    subst e
    exact .inl ⟨⟨xs, q, Nat.le_refl _⟩, hd σ H p⟩
theorem for_range {lo : Int} {n : Nat} {g : TG} {tb : TS} {D : Ends} {σ : St} {H : Hp} (Pv : Nat → St → Hp → Prop) (h0 : Pv 0 σ H)
    (hs : ∀ i σ H, i < n → Pv i σ H → g (.int (lo + i)) σ H fun σ2 H2 => tb { D with nx := Pv (i + 1), ct := Pv (i + 1), bk := D.nx } σ2 H2) (hd : ∀ σ H, Pv n σ H → D.nx σ H) :
    ∃ W : Nat → Nat → St → Hp → Prop, (∃ m, W 0 m σ H) ∧ ∀ i m σ H, W i m σ H →
      ((Itr lo n).stop i H ∧ D.nx σ H) ∨ ((Itr lo n).go i H ∧ ∃ N : St → Hp → Prop, (∀ σ' H', N σ' H' → ∃ m', m' < m ∧ W (i + 1) m' σ' H') ∧ ∀ x H', (Itr lo n).yld i H x H' → g x σ H' fun σ2 H2 => tb { D with nx := N, ct := N, bk := D.nx } σ2 H2) := by
  refine ⟨fun i m σ H => m = n - i ∧ i ≤ n ∧ Pv i σ H, ⟨n, by simp, Nat.zero_le _, h0⟩, ?_⟩
  rintro i m σ H ⟨rfl, hi, p⟩
  by_cases hlt : i < n
  · refine .inr ⟨hlt, Pv (i + 1), fun σ' H' p' => ⟨n - (i + 1), by lia, rfl, hlt, p'⟩, fun x H' y => ?_⟩
    obtain ⟨e, y⟩ := y
    subst e y
    exact hs i σ _ hlt p
  · have e : i = n := by lia
    subst e
    exact .inl ⟨Nat.le_refl _, hd σ H p⟩
end L2
namespace L2
open PySem PySem.Spec PyProof.Rows
abbrev R2 := V → V → Hp → VK → Prop
noncomputable def OpR (X : Cx) (f : Value → Value → Sem Value) (r : R2) : Prop :=
  ∀ (pins : List (Addr × Obj)) (s : Shared) (σ : St) (H : Hp) (x y : V) (v u : Value) (Q : VK), Inv X pins σ H s → RelV x v → RelV y u → r x y H Q →
    wpAny (model X.prog X.w) X.A (f v u) (EP X pins σ Q) X.xe s
noncomputable def UnR (X : Cx) (f : Value → Sem Value) (r : V → Hp → VK → Prop) : Prop :=
  ∀ (pins : List (Addr × Obj)) (s : Shared) (σ : St) (H : Hp) (x : V) (v : Value) (Q : VK), Inv X pins σ H s → RelV x v → r x H Q →
    wpAny (model X.prog X.w) X.A (f v) (EP X pins σ Q) X.xe s
noncomputable def CallR (X : Cx) (f : Value) (r : List V → Hp → VK → Prop) : Prop :=
  ∀ (pins : List (Addr × Obj)) (s : Shared) (σ : St) (H : Hp) (xs : List V) (us : List Value) (Q : VK), Inv X pins σ H s → Vals xs us → r xs H Q →
    wpAny (model X.prog X.w) X.A (call f us) (EP X pins σ Q) X.xe s
noncomputable def TruR (X : Cx) (r : V → Hp → (Bool → Hp → Prop) → Prop) : Prop :=
  ∀ (pins : List (Addr × Obj)) (s : Shared) (σ : St) (H : Hp) (x : V) (v : Value) (Q : Bool → Hp → Prop), Inv X pins σ H s → RelV x v → r x H Q →
    wpAny (model X.prog X.w) X.A (truthy v) (TP X pins σ Q) X.xe s
noncomputable def tOp (r : R2) (ta tb : TE) : TE := fun σ H Q => ta σ H fun x H1 => tb σ H1 fun y H2 => r x y H2 Q
noncomputable def tUn (r : V → Hp → VK → Prop) (ta : TE) : TE := fun σ H Q => ta σ H fun x H1 => r x H1 Q
noncomputable def rI (C : Int → Int → Prop) (g : Int → Int → V) : R2 := fun x y H Q => ∃ i j, x = .int i ∧ y = .int j ∧ C i j ∧ Q (g i j) H
noncomputable def rI0 (g : Int → Int → V) : R2 := fun x y H Q => ∃ i j, x = .int i ∧ y = .int j ∧ Q (g i j) H
noncomputable def rU (g : Int → V) : V → Hp → VK → Prop := fun x H Q => ∃ i, x = .int i ∧ Q (g i) H
section
variable {X : Cx} {a b c : Expr} {ta tb tc : TE} {pos : Pos}
theorem binT (ha : PE X a ta) (hb : PE X b tb) {pins : List (Addr × Obj)} {s : Shared} {σ : St} {H : Hp} {R : V → V → Hp → Prop} (I : Inv X pins σ H s)
    (h : ta σ H fun x H1 => tb σ H1 fun y H2 => R x y H2) {Q : Value → Shared → Prop} {f : Value → Value → Sem Value}
    (hf : ∀ v u s2 x y H2, Inv X pins σ H2 s2 → RelV x v → RelV y u → R x y H2 → wpAny (model X.prog X.w) X.A (f v u) Q X.xe s2) :
    wpAny (model X.prog X.w) X.A (eval a X.env) (fun v s₁ => wpAny (model X.prog X.w) X.A (eval b X.env) (fun u s₂ => wpAny (model X.prog X.w) X.A (f v u) Q X.xe s₂) X.xe s₁) X.xe s := by
  refine thn (ha pins s σ H _ I h) fun v s1 ⟨x, H1, I1, r1, q1⟩ => ?_
  refine thn (hb pins s1 σ H1 _ I1 q1) fun u s2 ⟨y, H2, I2, r2, q2⟩ => ?_
  exact hf v u s2 x y H2 I2 r1 r2 q2
theorem pe_op {op : Operator} {r : R2} (ho : OpR X (binaryOp op) r) (ha : PE X a ta) (hb : PE X b tb) : PE X (.BinOp a op b pos) (tOp r ta tb) := by
  intro pins s σ H Q I h
  exact wpAny_BinOp (binT ha hb I h fun v u s2 x y H2 I2 rx ry q => ho pins s2 σ H2 x y v u Q I2 rx ry q)
theorem pe_un {op : UnaryOp} {r : V → Hp → VK → Prop} (ho : UnR X (unaryOp op) r) (ha : PE X a ta) : PE X (.UnaryOp op a pos) (tUn r ta) := by
  intro pins s σ H Q I h
  exact UnaryOp_ (thn (ha pins s σ H _ I h) fun v s1 ⟨x, H1, I1, r1, q1⟩ => ho pins s1 σ H1 x v Q I1 r1 q1)
theorem opI {f : Value → Value → Sem Value} {C : Int → Int → Prop} {g : Int → Int → Int}
    (rule : ∀ (i j : Int) (t u : Tok) (s : Shared) (Q : Value → Shared → Prop) (E : Value → Shared → Prop), C i j → Q (.int (g i j) s.toks) { s with toks := s.toks + 1 } → wpAny (model X.prog X.w) X.A (f (.int i t) (.int j u)) Q E s) :
    OpR X f (rI C fun i j => .int (g i j)) := by
  intro pins s σ H x y v u Q I rx ry h
  obtain ⟨i, j, rfl, rfl, hc, q⟩ := h
  obtain ⟨t, rfl⟩ := rx
  obtain ⟨t', rfl⟩ := ry
  exact rule i j t t' s _ _ hc ⟨.int (g i j), H, I.tok _, ⟨_, rfl⟩, q⟩
theorem opI0 {f : Value → Value → Sem Value} {g : Int → Int → Int}
    (rule : ∀ (i j : Int) (t u : Tok) (s : Shared) (Q : Value → Shared → Prop) (E : Value → Shared → Prop), Q (.int (g i j) s.toks) { s with toks := s.toks + 1 } → wpAny (model X.prog X.w) X.A (f (.int i t) (.int j u)) Q E s) :
    OpR X f (rI0 fun i j => .int (g i j)) := by
  intro pins s σ H x y v u Q I rx ry h
  obtain ⟨i, j, rfl, rfl, q⟩ := h
  obtain ⟨t, rfl⟩ := rx
  obtain ⟨t', rfl⟩ := ry
  exact rule i j t t' s _ _ ⟨.int (g i j), H, I.tok _, ⟨_, rfl⟩, q⟩
theorem opB0 {f : Value → Value → Sem Value} {g : Int → Int → Bool}
    (rule : ∀ (i j : Int) (t u : Tok) (s : Shared) (Q : Value → Shared → Prop) (E : Value → Shared → Prop), Q (.bool (g i j)) s → wpAny (model X.prog X.w) X.A (f (.int i t) (.int j u)) Q E s) :
    OpR X f (rI0 fun i j => .bl (g i j)) := by
  intro pins s σ H x y v u Q I rx ry h
  obtain ⟨i, j, rfl, rfl, q⟩ := h
  obtain ⟨t, rfl⟩ := rx
  obtain ⟨t', rfl⟩ := ry
  exact rule i j t t' s _ _ ⟨.bl (g i j), H, I, rfl, q⟩
noncomputable def CDiv (i j : Int) : Prop := 0 < j ∧ j < 1073741824
noncomputable def CPow (i j : Int) : Prop := 0 ≤ j ∧ j ≤ 1000000 ∧ i.natAbs < 2 ^ 64
noncomputable def CMul (i j : Int) : Prop := (-(2 ^ 64) < i ∧ i < 2 ^ 64) ∨ (-(2 ^ 64) < j ∧ j < 2 ^ 64)
theorem CMul.ok {i j : Int} (h : CMul i j) : IntMulOk i j := by
  rcases h with ⟨h1, h2⟩ | ⟨h1, h2⟩
  · exact .of_left (intBits_le_64 h1 h2)
  · exact .of_right (intBits_le_64 h1 h2)
theorem op_add : OpR X (binaryOp .Add) (rI0 fun i j => .int (i + j)) := opI0 fun _ _ _ _ _ _ _ q => add_int q
theorem op_sub : OpR X (binaryOp .Sub) (rI0 fun i j => .int (i - j)) := opI0 fun _ _ _ _ _ _ _ q => sub_int q
theorem op_mul : OpR X (binaryOp .Mult) (rI CMul fun i j => .int (i * j)) := opI fun _ _ _ _ _ _ _ hc q => mul_int q hc.ok
theorem op_fdiv : OpR X (binaryOp .FloorDiv) (rI CDiv fun i j => .int (i / j)) := opI fun i j _ _ _ _ _ hc q => by
  have h1 : (0 : Int) < j := hc.1
  have h2 : j < 1073741824 := hc.2
  exact floordiv_int (by lia) (by rw [Int.fdiv_eq_ediv_of_nonneg i (by lia)]; exact q) (.inl (PyProof.noPylong_small (by lia)))
theorem op_mod : OpR X (binaryOp .Mod) (rI (fun _ j => 0 < j) fun i j => .int (i % j)) := opI fun i j _ _ _ _ _ hc q => by
  have h1 : (0 : Int) < j := hc
  exact mod_int' (by lia) (by rw [Int.fmod_eq_emod_of_nonneg i (by lia)]; exact q)
theorem op_pow : OpR X (binaryOp .Pow) (rI CPow fun i j => .int (i ^ j.toNat)) := opI fun _ _ _ _ _ _ _ hc q => pow_int_small hc.1 hc.2.1 hc.2.2 q
theorem unI {f : Value → Sem Value} {g : Int → Int}
    (rule : ∀ (i : Int) (t : Tok) (s : Shared) (Q : Value → Shared → Prop) (E : Value → Shared → Prop), Q (.int (g i) s.toks) { s with toks := s.toks + 1 } → wpAny (model X.prog X.w) X.A (f (.int i t)) Q E s) :
    UnR X f (rU fun i => .int (g i)) := by
  intro pins s σ H x v Q I rx h
  obtain ⟨i, rfl, q⟩ := h
  obtain ⟨t, rfl⟩ := rx
  exact rule i t s _ _ ⟨.int (g i), H, I.tok _, ⟨_, rfl⟩, q⟩
theorem un_neg : UnR X (unaryOp .USub) (rU fun i => .int (-i)) := unI fun _ _ _ _ _ q => neg_int q
end
noncomputable def scal : V → V → Bool
  | .non, .non => true | .non, .int _ => true | .int _, .non => true | .non, .bl _ => true | .bl _, .non => true | .non, .str _ => true | .str _, .non => true
  | .int _, .int _ => true | .bl _, .bl _ => true | .str _, .str _ => true | .byt _, .byt _ => true
  | .int _, .str _ => true | .str _, .int _ => true | .bl _, .str _ => true | .str _, .bl _ => true
  | _, _ => false
noncomputable def rEq : R2 := fun x y H Q => scal x y = true ∧ Q (.bl (decide (x = y))) H
noncomputable def rNe : R2 := fun x y H Q => scal x y = true ∧ Q (.bl (!decide (x = y))) H
theorem dec_int {i j : Int} : decide (V.int i = V.int j) = (i == j) := by
  rw [Bool.eq_iff_iff]
  simp
theorem dec_bl {i j : Bool} : decide (V.bl i = V.bl j) = (i == j) := by
  rw [Bool.eq_iff_iff]
  simp
theorem dec_str {i j : Str} : decide (V.str i = V.str j) = (i == j) := by
  rw [Bool.eq_iff_iff]
  simp
theorem dec_byt {i j : Array UInt8} : decide (V.byt i = V.byt j) = (i.toList == j.toList) := by
  rw [Bool.eq_iff_iff]
  cases i
  cases j
  simp
section
variable {X : Cx} {a b c : Expr} {ta tb tc : TE} {pos : Pos}
theorem fin_bl {pins : List (Addr × Obj)} {σ : St} {H : Hp} {s : Shared} {Q : VK} {k k' : Bool} (I : Inv X pins σ H s) (q : Q (.bl k) H) (e : k = k') : EP X pins σ Q (.bool k') s := by
  subst e
  exact ⟨.bl k, H, I, rfl, q⟩
theorem op_eq : OpR X (compareOp .Eq) rEq := by
  intro pins s σ H x y v u Q I rx ry h
  obtain ⟨hs, q⟩ := h
  cases x with
  | non =>
    cases rx
    cases y with
    | non => cases ry; exact PySem.EqNone.eq_none_none (fin_bl I q (by simp))
    | bl j => cases ry; exact PySem.EqNone.eq_none_bool (fin_bl I q (by simp))
    | int j => obtain ⟨t', rfl⟩ := ry; exact PySem.EqNone.eq_none_int (fin_bl I q (by simp))
    | str j => obtain ⟨t', rfl⟩ := ry; exact PySem.EqNone.eq_none_str (fin_bl I q (by simp))
    | _ => exact absurd (show false = true from hs) Bool.false_ne_true
  | bl i =>
    cases rx
    cases y with
    | non => cases ry; exact PySem.EqNone.eq_bool_none (fin_bl I q (by simp))
    | bl j => cases ry; exact eq_bool (fin_bl I q dec_bl)
    | str j => obtain ⟨t', rfl⟩ := ry; exact PySem.EqMixed.eq_bool_str (fin_bl I q (by simp))
    | _ => exact absurd (show false = true from hs) Bool.false_ne_true
  | int i =>
    obtain ⟨t, rfl⟩ := rx
    cases y with
    | non => cases ry; exact PySem.EqNone.eq_int_none (fin_bl I q (by simp))
    | int j => obtain ⟨t', rfl⟩ := ry; exact eq_int (fin_bl I q dec_int)
    | str j => obtain ⟨t', rfl⟩ := ry; exact PySem.EqMixed.eq_int_str (fin_bl I q (by simp))
    | _ => exact absurd (show false = true from hs) Bool.false_ne_true
  | str i =>
    obtain ⟨t, rfl⟩ := rx
    cases y with
    | non => cases ry; exact PySem.EqNone.eq_str_none (fin_bl I q (by simp))
    | bl j => cases ry; exact PySem.EqMixed.eq_str_bool (fin_bl I q (by simp))
    | int j => obtain ⟨t', rfl⟩ := ry; exact PySem.EqMixed.eq_str_int (fin_bl I q (by simp))
    | str j => obtain ⟨t', rfl⟩ := ry; exact eq_str (fin_bl I q dec_str)
    | _ => exact absurd (show false = true from hs) Bool.false_ne_true
  | byt i =>
    obtain ⟨t, rfl⟩ := rx
    cases y with
    | byt j => obtain ⟨t', rfl⟩ := ry; exact PySem.W.eq_bytes (fin_bl I q dec_byt)
    | _ => exact absurd (show false = true from hs) Bool.false_ne_true
  | _ => cases y <;> exact absurd (show false = true from hs) Bool.false_ne_true
theorem op_ne : OpR X (compareOp .NotEq) rNe := by
  intro pins s σ H x y v u Q I rx ry h
  obtain ⟨hs, q⟩ := h
  cases x with
  | non =>
    cases rx
    cases y with
    | non => cases ry; exact PySem.EqNone.ne_none_none (fin_bl I q (by simp))
    | bl j => cases ry; exact PySem.EqNone.ne_none_bool (fin_bl I q (by simp))
    | int j => obtain ⟨t', rfl⟩ := ry; exact PySem.EqNone.ne_none_int (fin_bl I q (by simp))
    | str j => obtain ⟨t', rfl⟩ := ry; exact PySem.EqNone.ne_none_str (fin_bl I q (by simp))
    | _ => exact absurd (show false = true from hs) Bool.false_ne_true
  | bl i =>
    cases rx
    cases y with
    | non => cases ry; exact PySem.EqNone.ne_bool_none (fin_bl I q (by simp))
    | bl j => cases ry; exact ne_bool (fin_bl I q (congrArg not dec_bl))
    | str j => obtain ⟨t', rfl⟩ := ry; exact PySem.EqMixed.ne_bool_str (fin_bl I q (by simp))
    | _ => exact absurd (show false = true from hs) Bool.false_ne_true
  | int i =>
    obtain ⟨t, rfl⟩ := rx
    cases y with
    | non => cases ry; exact PySem.EqNone.ne_int_none (fin_bl I q (by simp))
    | int j => obtain ⟨t', rfl⟩ := ry; exact ne_int (fin_bl I q (congrArg not dec_int))
    | str j => obtain ⟨t', rfl⟩ := ry; exact PySem.EqMixed.ne_int_str (fin_bl I q (by simp))
    | _ => exact absurd (show false = true from hs) Bool.false_ne_true
  | str i =>
    obtain ⟨t, rfl⟩ := rx
    cases y with
    | non => cases ry; exact PySem.EqNone.ne_str_none (fin_bl I q (by simp))
    | bl j => cases ry; exact PySem.EqMixed.ne_str_bool (fin_bl I q (by simp))
    | int j => obtain ⟨t', rfl⟩ := ry; exact PySem.EqMixed.ne_str_int (fin_bl I q (by simp))
    | str j => obtain ⟨t', rfl⟩ := ry; exact ne_str (fin_bl I q (congrArg not dec_str))
    | _ => exact absurd (show false = true from hs) Bool.false_ne_true
  | byt i =>
    obtain ⟨t, rfl⟩ := rx
    cases y with
    | byt j => obtain ⟨t', rfl⟩ := ry; exact PySem.W.ne_bytes (fin_bl I q (congrArg not dec_byt))
    | _ => exact absurd (show false = true from hs) Bool.false_ne_true
  | _ => cases y <;> exact absurd (show false = true from hs) Bool.false_ne_true
theorem op_lt : OpR X (compareOp .Lt) (rI0 fun i j => .bl (decide (i < j))) := opB0 fun _ _ _ _ _ _ _ q => lt_int q
theorem op_gt : OpR X (compareOp .Gt) (rI0 fun i j => .bl (decide (j < i))) := opB0 fun _ _ _ _ _ _ _ q => gt_int q
theorem op_isN : OpR X (compareOp .Is) (fun x y H Q => y = .non ∧ Q (.bl (decide (x = .non))) H) := by
  intro pins s σ H x y v u Q I rx ry h
  obtain ⟨rfl, q⟩ := h
  cases ry
  refine is_none_gen (fin_bl I q ?_)
  cases x <;> first
    | (cases rx; rfl)
    | (obtain ⟨t, rfl⟩ := rx; rfl)
theorem nomark (b : Expr) {op : CmpOp} (h : op ≠ .In := by decide) (h2 : op ≠ .NotIn := by decide) : behindInMarks op b = false := by
  have e1 : (op == CmpOp.In) = false := by cases op <;> first | rfl | exact absurd rfl h
  have e2 : (op == CmpOp.NotIn) = false := by cases op <;> first | rfl | exact absurd rfl h2
  cases b <;> simp [behindInMarks, e1, e2]
theorem pe_cmpR {op : CmpOp} {r : R2} (ho : OpR X (compareOp op) r) (ha : PE X a ta) (hb : PE X b tb) (hm : behindInMarks op b = false) : PE X (.Compare a [op] [b] pos) (tOp r ta tb) := by
  intro pins s σ H Q I h
  exact wpAny_Compare1 (binT ha hb I h fun v u s2 x y H2 I2 rx ry q => ho pins s2 σ H2 x y v u Q I2 rx ry q) hm
noncomputable def tTest (t : TE) : TT := fun σ H Q => t σ H fun x H' => ∃ k, x = .bl k ∧ Q k H'
theorem pt_cmpR {op : CmpOp} {r : R2} (ho : OpR X (compareOp op) r) (ha : PE X a ta) (hb : PE X b tb) (hm : behindInMarks op b = false) : PT X (.Compare a [op] [b] pos) (tTest (tOp r ta tb)) := by
  intro pins s σ H Q I h
  refine wpAny_isTrue_Compare1 (thn (ha pins s σ H _ I h) fun v s1 ⟨x, H1, I1, r1, q1⟩ => thn (hb pins s1 σ H1 _ I1 q1) fun u s2 ⟨y, H2, I2, r2, q2⟩ =>
    thn (ho pins s2 σ H2 x y v u _ I2 r1 r2 q2) fun c s3 ⟨z, H3, I3, r3, k, e, q3⟩ => ?_) hm
  subst e
  cases r3
  exact wpAny_truthy_bool ⟨H3, I3, q3⟩
noncomputable def TruV (K : PySem.W.Frag) (x : V) (H : Hp) (k : Bool) : Prop :=
  match x with
  | .non => k = false
  | .bl b => k = b
  | .int i => k = (i != 0)
  | .str y => y.length ≤ sizeLine ∧ k = ((y.length : Int) != 0)
  | .byt y => y.size ≤ sizeLine ∧ k = ((y.size : Int) != 0)
  | .ref p => (∃ xs, SqL K H p xs ∧ k = !xs.isEmpty) ∨ (∃ xs, SqT K H p xs ∧ k = !xs.isEmpty) ∨ ∃ kvs, H p = some (.dK kvs) ∧ k = !kvs.isEmpty
  | _ => False
theorem isEmpty_kv {κ : Type} {kvs : List (κ × V)} {vs : List (κ × Value)} (r : KV kvs vs) : (!vs.isEmpty) = !kvs.isEmpty := by
  cases r <;> rfl
theorem isEmpty_of {xs : List V} {its : List Value} (r : Vals xs its) : (!its.toArray.isEmpty) = !xs.isEmpty := by
  cases r <;> simp
theorem line63 : (sizeLine : Nat) < 2 ^ 63 := by rw [sizeLine_eq]; decide
theorem tru_ok : TruR X (fun x H Q => ∃ k, TruV X.K x H k ∧ Q k H) := by
  intro pins s σ H x v Q I rx h
  obtain ⟨k, e, q⟩ := h
  have hl := line63
  have hs : sizeLine = 16777216 := sizeLine_eq
  cases x with
  | non =>
    cases rx
    have e' : k = false := e
    subst e'
    exact truthy_none ⟨H, I, q⟩
  | bl b =>
    cases rx
    have e' : k = b := e
    subst e'
    exact wpAny_truthy_bool ⟨H, I, q⟩
  | int i =>
    obtain ⟨t, rfl⟩ := rx
    have e' : k = (i != 0) := e
    subst e'
    exact PySem.P.truthy_int ⟨H, I, q⟩
  | str y =>
    obtain ⟨t, rfl⟩ := rx
    obtain ⟨hy, e'⟩ : y.length ≤ sizeLine ∧ k = ((y.length : Int) != 0) := e
    subst e'
    exact PySem.P.truthy_str (by lia) ⟨H, I.tok _, q⟩
  | byt y =>
    obtain ⟨t, rfl⟩ := rx
    obtain ⟨hy, e'⟩ : y.size ≤ sizeLine ∧ k = ((y.size : Int) != 0) := e
    subst e'
    exact PySem.W.truthy_bytes (by lia) ⟨H, I.tok _, q⟩
  | ref p =>
    cases rx
    have e' : (∃ xs, SqL X.K H p xs ∧ k = !xs.isEmpty) ∨ (∃ xs, SqT X.K H p xs ∧ k = !xs.isEmpty) ∨ ∃ kvs, H p = some (.dK kvs) ∧ k = !kvs.isEmpty := e
    rcases e' with ⟨xs, hx, e'⟩ | ⟨xs, hx, e'⟩ | ⟨kvs, hx, e'⟩
    · subst e'
      obtain ⟨its, r, pl, hz⟩ := I.list hx
      have hlen := r.length
      exact wpAny_truthy_list pl.isList (by simp only [List.size_toArray]; lia) ⟨H, I.tok _, by rw [isEmpty_of r]; exact q⟩
    · subst e'
      obtain ⟨its, r, pl, hz⟩ := I.tuple hx
      have hlen := r.length
      exact truthy_tuple pl (by simp only [List.size_toArray]; lia) ⟨H, I.tok _, by rw [isEmpty_of r]; exact q⟩
    · subst e'
      obtain ⟨hz, hS, vs, r, m⟩ : kvs.length ≤ sizeLine ∧ (p == sysModules) = false ∧ ∃ vs, KV kvs vs ∧ s.heap.DictOf (mixKind X.prog X.w) p vs := I.hok p _ hx
      have hlen : kvs.length = vs.length := Paired.length r
      exact wpAny_truthy_dict hS m (by lia) ⟨H, I.tok _, by rw [isEmpty_kv r]; exact q⟩
  | _ => exact (show False from e).elim
theorem pt_truth (ha : PE X a ta) (he : ∀ whole, isTrue a X.env whole = (do let v ← whole; standAt a.pos; holding [v] (truthy v))) :
    PT X a (fun σ H Q => ta σ H fun x H' => ∃ k, TruV X.K x H' k ∧ Q k H') := by
  intro pins s σ H Q I h
  exact isTrue_plain (thn (ha pins s σ H _ I h) fun v s1 ⟨x, H1, I1, r1, q1⟩ => tru_ok pins s1 σ H1 x v Q I1 r1 q1) (he _)
theorem op_add_str : OpR X (binaryOp .Add) (fun x y H Q => ∃ i j, x = .str i ∧ y = .str j ∧ i.length + j.length ≤ sizeLine ∧ Q (.str (i ++ j)) H) := by
  intro pins s σ H x y v u Q I rx ry h
  obtain ⟨i, j, rfl, rfl, hz, q⟩ := h
  obtain ⟨t, rfl⟩ := rx
  obtain ⟨t', rfl⟩ := ry
  exact add_str (fun t' tk => ⟨.str (i ++ j), H, I.tok _, ⟨_, rfl⟩, q⟩) hz
theorem vals1 {x : V} {us : List Value} (r : Vals [x] us) : ∃ u, us = [u] ∧ RelV x u := by
  cases r with
  | cons r1 r2 => cases r2; exact ⟨_, rfl, r1⟩
end
end L2
namespace L2
open PySem PySem.Spec PyProof.Rows
structure ObjM (h : Heap) (x dx C : Addr) (mA : Str → Option Value) : Prop where
  obj : h.get? x = some (PySem.W.instObj C dx)
  ns : h.Ns1 dx mA
  ne : dx ≠ x
theorem lookIn_ns {h : Heap} {dx : Addr} {mA : Str → Option Value} (n : h.Ns1 dx mA) : ∃ od, h.get? dx = some od ∧ ∀ name, PySem.W.lookIn name od = some (mA name) := by
  obtain ⟨o, es, ep, ho, hd, hk, _, hm⟩ := n
  refine ⟨o, ho, fun name => ?_⟩
  have e := hm name
  unfold nsFind findBy at e
  rw [← Array.find?_toList] at e
  unfold PySem.W.lookIn
  rw [hd]
  dsimp only
  split
  · rename_i y q
    rw [q] at e
    exact congrArg some e
  · rename_i q
    rw [q] at e
    have a : es.toList.any (·.refKey) = false := by
      rw [List.any_eq_false]
      intro y hy
      obtain ⟨z, t, hkey⟩ := hk y (Array.mem_toList_iff.mp hy)
      simp [DictEntry.refKey, hkey]
    have a' : ¬ es.toList.any (·.refKey) = true := by rw [a]; exact Bool.false_ne_true
    rw [if_neg a']
    exact congrArg some e
theorem ObjM.look {h : Heap} {x dx C : Addr} {mA : Str → Option Value} (I : ObjM h x dx C mA) : ∃ od, PySem.W.InstAt h x (PySem.W.instObj C dx) C (some od) ∧ ∀ name, PySem.W.lookIn name od = some (mA name) :=
  let ⟨od, ho, hl⟩ := lookIn_ns I.ns
  ⟨od, ⟨I.obj, rfl, rfl, ho⟩, hl⟩
section
variable {prog : Program} {w : World} {A : Around} {E : Value → Shared → Prop} {s : Shared} {K : PySem.W.Frag} {x dx C f : Addr} {mA : Str → Option Value} {name : Str} {v : Value}
theorem get_map {expr : Bool} {Q : Value → Shared → Prop} (X : K.In s.heap) (I : ObjM s.heap x dx C mA) (hg : PySem.W.plainGet K C name = true) (hh : PySem.W.hasDictIn K C = true)
    (ha : PySem.W.findIn K (.ref C) name = some none) (hv : mA name = some v) (hv' : PySem.W.handedIn v = true) (h : Q v { s with toks := s.toks + 1 }) :
    wpAny (model prog w) A (getAttr (.ref x) name expr) Q E s := by
  obtain ⟨od, J, hl⟩ := I.look
  exact PySem.W.get_value X J (PySem.W.plainGet_of hg).1 (PySem.W.findObj_own hh ha rfl (by rw [hl, hv])) hv' h
theorem get_meth {pl : Sem Bool} {Q : Value × List Value → Shared → Prop} (X : K.In s.heap) (I : ObjM s.heap x dx C mA) (hg : PySem.W.plainGet K C name = true)
    (hf : PySem.W.findIn K (.ref C) name = some (some (.ref f))) (ht : PySem.W.isFn K (.ref f) = true) (hv : mA name = none) (h : Q (.ref f, [.ref x]) s) :
    wpAny (model prog w) A (getMethod (.ref x) name pl) Q E s := by
  obtain ⟨od, J, hl⟩ := I.look
  exact PySem.W.method_fn X J (PySem.W.plainGet_of hg).1 (PySem.W.plainGet_of hg).2 hf (beq_iff_eq.mp ht) (by show (PySem.W.lookIn name od).map (·.isSome) = some false; rw [hl, hv]; rfl) h
theorem set_map {ns : List Str} {Q : Unit → Shared → Prop} (X : K.In s.heap) (I : ObjM s.heap x dx C mA)
    (hs : PySem.W.findIn K (.ref C) "__setattr__" = some (some (.builtin "object.__setattr__"))) (hp : PySem.W.plainOver K C = true) (ht : PySem.W.takerIn K C name = some none) (hh : PySem.W.hasDictIn K C = true)
    (hw : PySem.Within mA ns) (hsz : ns.length ≤ sizeLine)
    (h : ∀ h', ObjM h' x dx C (fun y => if y = name then some v else mA y) → Heap.SameBut dx s.heap h' → Q () { s with heap := h', toks := s.toks + 2 }) :
    wpAny (model prog w) A (setAttr (.ref x) name v) Q E s := by
  obtain ⟨od, J, hl⟩ := I.look
  refine PySem.W.set_plain X J hs (PySem.W.osa_open (s := { s with toks := s.toks + 1 }) (r := none) X J hp ht fun b => ?_)
  obtain ⟨cd, hc, hd'⟩ := PySem.W.any_some hh
  have hx : s.heap.get? x = some ⟨.ref C, some dx, .plain, #[]⟩ := I.obj
  refine wpAny_bind (wpAny_pure (wpAny_bind (wpAny_bind (wpAny_loadPart hx (wpAny_bind (PySem.W.Looks.here (s := { s with toks := s.toks + 1 }) (PySem.W.looks_clsIn X hc) ?_))))))
  rw [hd']
  refine wpAny_pure (a := some dx) (wpAny_bind (wpAny_pure (wpAny_bind ?_)))
  refine wpAny_nsSet1 (s := { s with toks := s.toks + 1 }) I.ns fun h' hn2 hs2 => ?_
  obtain ⟨oD, esD, epD, hoD, hdD, hcD⟩ := hn2.count (PySem.Within.cons name v hw)
  refine wpAny_bind (wpAny_lookBehind hoD (by rw [hdD]; exact pastItsLine_dict (Nat.le_trans hcD (by rw [List.length_cons]; lia))) ?_)
  exact wpAny_pure (h _ ⟨(hs2.2 _ (Ne.symm I.ne)).trans I.obj, hn2, I.ne⟩ hs2)
theorem make_map {R : Result → Shared → Prop} {vs : List Value} {kw : List (Str × Value)} (X : K.In s.heap) (hm : PySem.W.makesIn K C = true)
    (hi : PySem.W.findIn K (.ref C) "__init__" = some (some (.ref f))) (hf : PySem.W.typeIn K (.ref f) = some (.type "function"))
    (h : codeAny (model prog w) (A.under (.builtin "type.__call__" ⟨.ref C :: vs, kw⟩)) (.call (.ref f) ⟨.ref (s.heap.objs.size + 1) :: vs, kw⟩) (PySem.W.InitBack (s.heap.objs.size + 1) R)
      { s with heap := (s.heap.push PySem.W.emptyDict).push (PySem.W.instObj C s.heap.objs.size) }) :
    codeAny (model prog w) A (.call (.ref C) ⟨vs, kw⟩) R s := by
  obtain ⟨hh, g, d, t, os⟩ := s
  exact PySem.W.make_core (PySem.W.makes_of X hm) (PySem.W.looks_findIn X hi) (fun self => PySem.W.bind_fn X self hf) (.inl rfl) h
end
noncomputable def putF (f : Str) (v : V) : List (Str × V) → List (Str × V)
  | [] => [(f, v)]
  | (g, x) :: r => if g = f then (g, v) :: r else (g, x) :: putF f v r
theorem lookup_putF (f g : Str) (v : V) : ∀ fs : List (Str × V), (putF f v fs).lookup g = if g = f then some v else fs.lookup g
  | [] => by
    show List.lookup g [(f, v)] = _
    by_cases h : g = f
    · have hb : (g == f) = true := beq_iff_eq.mpr h
      simp only [List.lookup, hb, if_pos h]
    · have hb : (g == f) = false := beq_eq_false_iff_ne.mpr h
      simp only [List.lookup, hb, if_neg h]
  | (k, x) :: r => by
    have ih := lookup_putF f g v r
    rw [show putF f v ((k, x) :: r) = (if k = f then (k, v) :: r else (k, x) :: putF f v r) from rfl]
    by_cases hk : k = f
    · rw [if_pos hk]
      by_cases h : g = k
      · have hb : (g == k) = true := beq_iff_eq.mpr h
        simp only [List.lookup, hb, if_pos (h.trans hk)]
      · have hb : (g == k) = false := beq_eq_false_iff_ne.mpr h
        simp only [List.lookup, hb, if_neg (fun e : g = f => h (e.trans hk.symm))]
    · rw [if_neg hk]
      by_cases h : g = k
      · have hb : (g == k) = true := beq_iff_eq.mpr h
        simp only [List.lookup, hb, if_neg (fun e : g = f => hk (h.symm.trans e))]
      · have hb : (g == k) = false := beq_eq_false_iff_ne.mpr h
        simp only [List.lookup, hb]
        exact ih
theorem keys_putF (f : Str) (v : V) : ∀ fs : List (Str × V), f ∈ (putF f v fs).map (·.1) ∧ ∀ g, g ∈ fs.map (·.1) → g ∈ (putF f v fs).map (·.1)
  | [] => ⟨by simp [putF], fun g h => by simp at h⟩
  | (k, x) :: r => by
    obtain ⟨i1, i2⟩ := keys_putF f v r
    rw [show putF f v ((k, x) :: r) = (if k = f then (k, v) :: r else (k, x) :: putF f v r) from rfl]
    by_cases hk : k = f
    · rw [if_pos hk]
      subst hk
      exact ⟨by simp, fun g h => by simpa using h⟩
    · rw [if_neg hk]
      refine ⟨?_, fun g h => ?_⟩
      · rw [List.map_cons]
        exact List.mem_cons_of_mem _ i1
      · rw [List.map_cons] at h ⊢
        rcases List.mem_cons.mp h with e | e
        · exact List.mem_cons.mpr (.inl e)
        · exact List.mem_cons_of_mem _ (i2 g e)
theorem length_putF (f : Str) (v : V) : ∀ fs : List (Str × V), (putF f v fs).length ≤ fs.length + 1
  | [] => by simp [putF]
  | (k, x) :: r => by
    have ih := length_putF f v r
    rw [show putF f v ((k, x) :: r) = (if k = f then (k, v) :: r else (k, x) :: putF f v r) from rfl]
    by_cases hk : k = f
    · rw [if_pos hk, List.length_cons, List.length_cons]; lia
    · rw [if_neg hk, List.length_cons, List.length_cons]; lia
theorem RelO.some_of {v : V} {o : Option Value} (r : RelO (some v) o) : ∃ u, o = some u ∧ RelV v u := by
  cases o with
  | none => exact (show False from r).elim
  | some u => exact ⟨u, rfl, r⟩
theorem RelO.none_of {o : Option Value} (r : RelO none o) : o = none := by
  cases o with
  | none => rfl
  | some u => exact (show False from r).elim
theorem handed_of {v : V} {u : Value} (r : RelV v u) : PySem.W.handedIn u = true := by
  cases v with
  | non => cases (show u = Value.none from r); rfl
  | bl b => cases (show u = Value.bool b from r); rfl
  | int i => obtain ⟨t, e⟩ := (show ∃ t, u = Value.int i t from r); cases e; rfl
  | str x => obtain ⟨t, e⟩ := (show ∃ t, u = Value.str x t from r); cases e; rfl
  | byt b => obtain ⟨t, e⟩ := (show ∃ t, u = Value.bytes b t from r); cases e; rfl
  | flt b => obtain ⟨t, e⟩ := (show ∃ t, u = Value.float b t from r); cases e; rfl
  | ref a => cases (show u = Value.ref a from r); rfl
  | ty n => cases (show u = Value.type n from r); rfl
section
variable {P : Program} {w : World} {H H' : Hp} {h h' : Heap} {a C dx : Addr} {fs fs' : List (Str × V)}
theorem ins_get (hok : HOk P w H h) (e : H a = some (.ins C dx fs)) : ∃ mA, ObjM h a dx C mA ∧ (∀ f, RelO (fs.lookup f) (mA f)) ∧ PySem.Within mA (fs.map (·.1)) ∧ fs.length ≤ 1000 ∧ H dx = some (.own a) := by
  obtain ⟨d, z, ne, ob, mA, n, r, q⟩ := (show ObjOk P w H h a (.ins C dx fs) from hok a _ e)
  exact ⟨mA, ⟨ob, n, ne⟩, r, q, z, d⟩
end
structure Cls (K : PySem.W.Frag) (C : Addr) : Prop where
  pg : PySem.W.plainGet K C Str.empty = true
  hd : PySem.W.hasDictIn K C = true
  po : PySem.W.plainOver K C = true
  sa : PySem.W.findIn K (.ref C) "__setattr__" = some (some (.builtin "object.__setattr__"))
theorem Cls.get {K : PySem.W.Frag} {C : Addr} (c : Cls K C) (f : Str) : PySem.W.plainGet K C f = true := c.pg
noncomputable def NoAttr (K : PySem.W.Frag) (C : Addr) (f : Str) : Prop := PySem.W.findIn K (.ref C) f = some none
theorem NoAttr.taker {K : PySem.W.Frag} {C : Addr} {f : Str} (n : NoAttr K C f) : PySem.W.takerIn K C f = some none := by
  unfold PySem.W.takerIn
  rw [show PySem.W.findIn K (.ref C) f = some none from n]
  rfl
structure Con (K : PySem.W.Frag) (C : Addr) (f : Str) (v : V) (u : Value) : Prop where
  at_ : PySem.W.findIn K (.ref C) f = some (some u)
  rel : RelV v u
  get : PySem.W.specialIn K u "__get__" = some none
  cp : PySem.W.copiedNames.contains f = false
structure Meth (K : PySem.W.Frag) (C : Addr) (m : Str) (f : Addr) : Prop where
  at_ : PySem.W.findIn K (.ref C) m = some (some (.ref f))
  fn : PySem.W.isFn K (.ref f) = true
  kp : PySem.W.keepIn K (.ref f) = true
section
variable {X : Cx} {pins : List (Addr × Obj)} {σ : St} {H : Hp} {s : Shared} {a C dx : Addr} {fs : List (Str × V)} {f : Str} {v : V} {A : Around} {E : Value → Shared → Prop}
theorem getattr_ok {b : Bool} {Q : Value → Shared → Prop} (I : Inv X pins σ H s) (e : H a = some (.ins C dx fs)) (c : Cls X.K C) (n : NoAttr X.K C f) (l : fs.lookup f = some v)
    (h : ∀ u s', Inv X pins σ H s' → RelV v u → Q u s') : wpAny (model X.prog X.w) A (getAttr (.ref a) f b) Q E s := by
  obtain ⟨mA, O, r, _, _, _⟩ := ins_get I.hok e
  obtain ⟨u, hu, ru⟩ := RelO.some_of (v := v) (o := mA f) (by rw [← l]; exact r f)
  exact get_map I.kIn O (c.get f) c.hd n hu (handed_of ru) (h u _ (I.tok _) ru)
theorem getmeth_ok {m : Str} {g : Addr} {pl : Sem Bool} {Q : Value × List Value → Shared → Prop} (I : Inv X pins σ H s) (e : H a = some (.ins C dx fs)) (c : Cls X.K C) (k : Meth X.K C m g) (l : fs.lookup m = none)
    (h : Q (.ref g, [.ref a]) s) : wpAny (model X.prog X.w) A (getMethod (.ref a) m pl) Q E s := by
  obtain ⟨mA, O, r, _, _, _⟩ := ins_get I.hok e
  have hn : mA m = none := RelO.none_of (by rw [← l]; exact r m)
  exact get_meth I.kIn O (c.get m) k.at_ k.fn hn h
theorem setattr_ok {y : V} {u : Value} {Q : Unit → Shared → Prop} (I : Inv X pins σ H s) (e : H a = some (.ins C dx fs)) (c : Cls X.K C) (n : NoAttr X.K C f) (hl : fs.length < 1000) (ry : RelV y u)
    (h : ∀ s', Inv X pins σ (upd H a (.ins C dx (putF f y fs))) s' → Q () s') : wpAny (model X.prog X.w) A (setAttr (.ref a) f u) Q E s := by
  obtain ⟨mA, O, r, wi, _, ho⟩ := ins_get I.hok e
  have hz : (fs.map (·.1)).length ≤ sizeLine := by rw [List.length_map, sizeLine_eq]; lia
  refine set_map I.kIn O c.sa c.po n.taker c.hd wi hz fun h' O' sb => h _ ?_
  have hd : ∃ o, h'.get? dx = some o := let ⟨o, _, _, e', _⟩ := O'.ns; ⟨o, e'⟩
  refine I.write (x := a) (e := dx) (by rw [e]; exact True.intro) (.inr ho) (fun b q hb z => (sb.2 b hb).trans z) hd ?_
  refine ⟨by rw [upd_ne O.ne]; exact ho, ?_, O.ne, O'.obj, _, O'.ns, fun g => ?_, fun g hg => ?_⟩
  · have := length_putF f y fs; lia
  · show RelO ((putF f y fs).lookup g) (if g = f then some u else mA g)
    rw [lookup_putF]
    by_cases q : g = f
    · rw [if_pos q, if_pos q]; exact ry
    · rw [if_neg q, if_neg q]; exact r g
  · by_cases q : g = f
    · rw [q]; exact (keys_putF f y fs).1
    · refine (keys_putF f y fs).2 g (wi g fun z => hg ?_)
      show (if g = f then some u else mA g) = none
      rw [if_neg q]; exact z
theorem Inv.made (I : Inv X pins σ H s) : Inv X pins σ (upd (upd H s.heap.objs.size (.own (s.heap.objs.size + 1))) (s.heap.objs.size + 1) (.ins C s.heap.objs.size []))
    { s with heap := (s.heap.push PySem.W.emptyDict).push (PySem.W.instObj C s.heap.objs.size) } := by
  have e1 : (s.heap.push PySem.W.emptyDict).get? s.heap.objs.size = some PySem.W.emptyDict := Heap.get?_push_size s.heap rfl
  have e2 : ((s.heap.push PySem.W.emptyDict).push (PySem.W.instObj C s.heap.objs.size)).get? (s.heap.objs.size + 1) = some (PySem.W.instObj C s.heap.objs.size) := by
    have := Heap.get?_push_size (s.heap.push PySem.W.emptyDict) (o := PySem.W.instObj C s.heap.objs.size) rfl
    rwa [Heap.size_push] at this
  have e3 : (s.heap.push PySem.W.emptyDict).Ns s.heap.objs.size (fun _ => none) := ⟨PySem.W.emptyDict, #[], _, e1, rfl, (fun e he => absurd he (by simp)), fun _ => rfl⟩
  have I1 := I.laid (a := s.heap.objs.size) (o := .own (s.heap.objs.size + 1)) (h' := s.heap.push PySem.W.emptyDict) (t' := s.toks) (fun b u q => Heap.get?_push_of_some _ q) (Nat.le_refl _) ⟨_, e1⟩
  refine I1.laid (a := s.heap.objs.size + 1) (o := .ins C s.heap.objs.size []) (t' := s.toks) (fun b u q => Heap.get?_push_of_some _ q) (Nat.le_of_eq (Heap.size_push _ _)) ?_
  have ne : s.heap.objs.size ≠ s.heap.objs.size + 1 := Nat.ne_of_lt (Nat.lt_succ_self _)
  refine ⟨by rw [upd_ne ne, upd_same], Nat.zero_le _, ne, e2, fun _ => none, (Heap.Ns1.of_empty e3).at fun o q => Heap.get?_push_of_some _ q, fun _ => True.intro, fun y hy => absurd rfl hy⟩
theorem attr_of {prog : Program} {w : World} {env : Env} {e : Expr} {f : Str} {pos : Pos} {s : Shared} {Q : Value → Shared → Prop} (hb : attributeBase e f env (eval e env) = eval e env)
    (h : wpAny (model prog w) A (eval e env) (fun o s₁ => wpAny (model prog w) A (getAttr o f true) Q E s₁) E s) : wpAny (model prog w) A (eval (.Attribute e f pos) env) Q E s :=
  Attribute_any_ h (by rw [arm_eval_Attribute, hb])
end
noncomputable def tFld (K : PySem.W.Frag) (ta : TE) (f : Str) : TE := fun σ H Q => ta σ H fun x H1 => ∃ a C dx fs v, x = .ref a ∧ H1 a = some (.ins C dx fs) ∧ Cls K C ∧ NoAttr K C f ∧ fs.lookup f = some v ∧ Q v H1
noncomputable def sFld (K : PySem.W.Frag) (ta tv : TE) (f : Str) : TS := fun D σ H => tv σ H fun y H1 => ta σ H1 fun x H2 => ∃ a C dx fs, x = .ref a ∧ H2 a = some (.ins C dx fs) ∧ Cls K C ∧ NoAttr K C f ∧ fs.length < 1000 ∧
  D.nx σ (upd H2 a (.ins C dx (putF f y fs)))
section
variable {X : Cx} {o e value : Expr} {f : Str} {pos pos' tpos : Pos} {ta tv : TE}
theorem pe_fld (he : PE X e ta) (hb : attributeBase e f X.env (eval e X.env) = eval e X.env) : PE X (.Attribute e f pos) (tFld X.K ta f) := by
  intro pins s σ H Q I h
  refine attr_of hb (thn (he pins s σ H _ I h) fun u s1 ⟨x, H1, I1, rx, a, C, dx, fs, v, ex, ea, c, n, l, q⟩ => ?_)
  subst ex
  obtain rfl : u = Value.ref a := rx
  exact getattr_ok I1 ea c n l fun u' s2 I2 ru => ⟨v, H1, I2, ru, q⟩
theorem ps_fld (ha : PE X o ta) (hv : PE X value tv) (hs : swapsWith value (some (.Attribute o f pos')) pos.line X.env = pure false) : PS X (.Assign [.Attribute o f pos'] value pos) (sFld X.K ta tv f) := by
  intro pins s σ H D I h
  refine plainObj_wpAny_Assign_Attribute (thn (hv pins s σ H _ I h) fun u s1 ⟨y, H1, I1, ry, q⟩ => thn (ha pins s1 σ H1 _ I1 q) fun ov s2 ⟨x, H2, I2, rx, a, C, dx, fs, ex, ea, c, n, l, q2⟩ => ?_) hs
  subst ex
  obtain rfl : ov = Value.ref a := rx
  exact setattr_ok I2 ea c n l ry fun s3 I3 => ⟨σ, _, I3, q2⟩
end
section
variable {X : Cx} {pins : List (Addr × Obj)} {σ : St} {H : Hp} {s : Shared} {A : Around} {E : Value → Shared → Prop} {Q : Value → Shared → Prop} {c : Value} {b : Bool}
end
end L2
namespace L2
open PySem PySem.Spec PyProof.Rows
structure Room (k : Nat) (A : Around) : Prop where
  hd : A.handled = none
  dp : A.depth + 3 * k + 5 < recursionLimit
  un : A.units + 16 * k + 200 < cLine
theorem Room.mono {j k : Nat} {A : Around} (r : Room k A) (h : j ≤ k) : Room j A := ⟨r.hd, by have := r.dp; lia, by have := r.un; lia⟩
theorem Room.deeper {k : Nat} {A : Around} (r : Room (k + 1) A) (env : Env) : Room k (A.deeper env) :=
  ⟨r.hd, by have := r.dp; show A.depth + 1 + 3 * k + 5 < _; lia, by have := r.un; show A.units + 3 + 16 * k + 200 < _; lia⟩
theorem make_depth {A : Around} {C : Addr} {us : List Value} {kw : List (Str × Value)} : (A.under (.builtin "type.__call__" ⟨.ref C :: us, kw⟩)).depth = A.depth + 1 := by
  first | rfl | simp [Around.under, Code.weight, Code.isCreation, Code.isGuard, Code.isCaller, Code.frames, Code.isFrame, guardIds]
theorem make_units {A : Around} {C : Addr} {us : List Value} {kw : List (Str × Value)} : (A.under (.builtin "type.__call__" ⟨.ref C :: us, kw⟩)).units = A.units + 1 := by
  first | rfl | simp [Around.under, Code.cUnits, Code.frames, Code.isFrame]
theorem Room.make {k : Nat} {A : Around} (r : Room (k + 1) A) (C : Addr) (us : List Value) (kw : List (Str × Value)) : Room k (A.under (.builtin "type.__call__" ⟨.ref C :: us, kw⟩)) :=
  ⟨r.hd, by have := r.dp; rw [make_depth]; lia, by have := r.un; rw [make_units]; lia⟩
theorem Room.depth {k : Nat} {A : Around} (r : Room k A) : A.depth < recursionLimit := by have := r.dp; lia
theorem Room.units {k : Nat} {A : Around} (r : Room k A) : A.units + 64 < cLine := by have := r.un; lia
noncomputable def tNil : TA := fun _ H Q => Q [] H
noncomputable def tCons (ta : TE) (tr : TA) : TA := fun σ H Q => ta σ H fun x H1 => tr σ H1 fun xs H2 => Q (x :: xs) H2
section
variable {X : Cx} {e : Expr} {es : List Expr} {te : TE} {t : TA} {pos : Pos}
theorem pa_nil : PA X [] tNil := fun _ _ _ _ H Q I h => Calls.spliced_nil ⟨[], H, I, .nil, h⟩
theorem pa_cons (ha : PE X e te) (hr : PA X es t) (hs : starEach (e :: es) X.env = (false, eval e X.env) :: starEach es X.env := by rfl) : PA X (e :: es) (tCons te t) := by
  intro pos pins s σ H Q I h
  rw [hs]
  show wpAny _ _ (spliced ((false, eval e X.env) :: backTo pos (starEach es X.env))) _ _ s
  refine Calls.spliced_cons (thn (ha pins s σ H _ I h) fun u s1 ⟨x, H1, I1, r1, q1⟩ => ?_)
  exact thn (hr pos pins s1 σ H1 _ I1 q1) fun us s2 ⟨xs, H2, I2, r2, q2⟩ => ⟨x :: xs, H2, I2, .cons r1 r2, q2⟩
noncomputable def tTup (t : TA) : TE := fun σ H Q => t σ H fun xs H1 => xs.length ≤ sizeLine ∧ ∀ p, H1 p = none → Q (.ref p) (upd H1 p (.tup xs))
noncomputable def tLst (t : TA) : TE := fun σ H Q => t σ H fun xs H1 => xs.length ≤ sizeLine ∧ ∀ p, H1 p = none → Q (.ref p) (upd H1 p (.lst xs))
theorem pe_tup {x1} (h : PA X es t) : PE X (.Tuple es x1 pos) (tTup t) := by
  intro pins s σ H Q I hq
  refine wpAny_Tuple_spliced (thn (h pos pins s σ H _ I hq) fun us s1 ⟨xs, H1, I1, r, z, q⟩ => ⟨by rw [← r.length]; exact z, ?_⟩)
  have hf : H1 s1.heap.objs.size = none := I1.hok.fresh (Nat.le_refl _)
  refine ⟨.ref s1.heap.objs.size, upd H1 s1.heap.objs.size (.tup xs), I1.laid (t' := s1.toks) (fun b u e => Heap.get?_push_of_some _ e) (Nat.le_refl _) ?_, rfl, q _ hf⟩
  exact ⟨z, us, r, ⟨_, Heap.get?_push_size _ rfl, rfl, _, rfl⟩⟩
theorem pe_lst (h : PA X es t) : PE X (.List es pos) (tLst t) := by
  intro pins s σ H Q I hq
  refine wpAny_List_spliced (thn (h pos pins s σ H _ I hq) fun us s1 ⟨xs, H1, I1, r, z, q⟩ => ⟨by rw [← r.length]; exact z, ?_⟩)
  have hf : H1 s1.heap.objs.size = none := I1.hok.fresh (Nat.le_refl _)
  refine ⟨.ref s1.heap.objs.size, upd H1 s1.heap.objs.size (.lst xs), I1.laid (t' := s1.toks) (fun b u e => Heap.get?_push_of_some _ e) (Nat.le_refl _) ?_, rfl, q _ hf⟩
  exact ⟨z, us, 0, r, Heap.get?_push_size _ rfl⟩
end
abbrev Sp := List V → Hp → VK → XK → Prop
abbrev CXT := List Env → Hp → Shared → XK → Value → Shared → Prop
structure Env0 (P : Program) (w : World) (K : PySem.W.Frag) (mg : Str → Option Value) (base : Heap) (A : Around) (outer : List Env) (s : Shared) (H : Hp) : Prop where
  frames : A.frames = some outer
  mod : Mod K mg base
  bs : ∀ b o, base.get? b = some o → s.heap.get? b = some o ∧ H b = none
  bsz : base.objs.size ≤ s.heap.objs.size
  funs : s.heap.FunFrames base outer
  frf : ∀ b ∈ frs outer, H b = none
  hok : HOk P w H s.heap
  bare : AllBare s.gens
noncomputable def CE (outer : List Env) (P : Program) (w : World) (H : Hp) (s : Shared) (Q : VK) (u : Value) (s' : Shared) : Prop :=
  ∃ v H', s'.os = s.os ∧ AllBare s'.gens ∧ Un (frs outer) [] H H' s.heap s'.heap ∧ HOk P w H' s'.heap ∧ RelV v u ∧ Q v H'
noncomputable def CR (CX : CXT) (outer : List Env) (P : Program) (w : World) (H : Hp) (s : Shared) (Q : VK) (E : XK) (r : Result) (s' : Shared) : Prop :=
  match r with
  | .ok (.ret u) => CE outer P w H s Q u s'
  | .ok _ => False
  | .error e => CX outer H s E e s'
structure FnOk (P : Program) (w : World) (K : PySem.W.Frag) (mg : Str → Option Value) (base : Heap) (CX : CXT) (k : Nat) (f : Addr) (fd : FuncData) (ps : List Str) (sp : Sp) : Prop where
  len : ∀ vs H Q E, sp vs H Q E → vs.length = ps.length
  run : ∀ (A : Around) (outer : List Env) (s : Shared) (H : Hp) (args : Args) (us : List Value) (vs : List V) (Q : VK) (E : XK), Room k A → Env0 P w K mg base A outer s H → BindsTo s fd args (ps.zip us) → Vals vs us → sp vs H Q E →
    codeAny (model P w) A (.call (.ref f) args) (CR CX outer P w H s Q E) s
theorem Env0.make {P : Program} {w : World} {K : PySem.W.Frag} {mg : Str → Option Value} {base : Heap} {A : Around} {outer : List Env} {s : Shared} {H : Hp} (e : Env0 P w K mg base A outer s H) (C : Addr) (us : List Value) (kw : List (Str × Value)) :
    Env0 P w K mg base (A.under (.builtin "type.__call__" ⟨.ref C :: us, kw⟩)) outer s H := ⟨by first | exact e.frames | (simpa [Around.under, Code.envs, Code.isFrame, pushEnvs] using e.frames), e.mod, e.bs, e.bsz, e.funs, e.frf, e.hok, e.bare⟩
section
variable {X : Cx} {pins : List (Addr × Obj)} {σ : St} {H : Hp} {s s' : Shared}
theorem Inv.env0 (I : Inv X pins σ H s) : Env0 X.prog X.w X.K X.mg X.base X.A X.stack s H :=
  ⟨I.ok.frames, I.ok.mod, I.bs, Nat.le_trans I.ok.bsz I.sz, I.stack, I.stkFree, I.hok, I.bare⟩
theorem Inv.after {Q : VK} {u : Value} (I : Inv X pins σ H s) (h : CE X.stack X.prog X.w H s Q u s') : EP X pins σ Q u s' := by
  obtain ⟨v, H', os, bare, un, hok, r, q⟩ := h
  obtain ⟨hh, g, d, t, os'⟩ := s'
  obtain rfl : os' = s.os := os
  exact ⟨v, H', I.call (h' := hh) (g' := g) (d' := d) (t' := t) (ch := []) un hok bare (fun b z => absurd z (by simp)), r, q⟩
end
noncomputable def tCall (sp : Sp) (dvs : List V) (E : XK) (t : TA) : TE := fun σ H Q => t σ H fun vs H1 => sp (vs ++ dvs) H1 Q E
noncomputable def tMeth (C : Addr) (m : Str) (sp : Sp) (dvs : List V) (E : XK) (ta : TE) (t : TA) : TE := fun σ H Q => ta σ H fun x H1 => ∃ a dx fs, x = .ref a ∧ H1 a = some (.ins C dx fs) ∧ fs.lookup m = none ∧
  t σ H1 fun vs H2 => sp (x :: (vs ++ dvs)) H2 Q E
noncomputable def tMake (C : Addr) (sp : Sp) (dvs : List V) (E : XK) (t : TA) : TE := fun σ H Q => t σ H fun vs H1 => ∀ x dx, H1 x = none → H1 dx = none → dx ≠ x →
  sp (.ref x :: (vs ++ dvs)) (upd (upd H1 dx (.own x)) x (.ins C dx [])) (fun v H2 => v = .non ∧ Q (.ref x) H2) E
noncomputable def Binds (K : PySem.W.Frag) (fd : FuncData) (ps : List Str) (ds : List Value) : Prop :=
  ∀ (s : Shared) (us : List Value), K.In s.heap → (us ++ ds).length = ps.length → BindsTo s fd ⟨us, []⟩ (ps.zip (us ++ ds))
theorem Binds.all {K : PySem.W.Frag} {fd : FuncData} {ps : List Str} (h : ∀ us : List Value, us.length = ps.length → bindArgs fd ⟨us, []⟩ = pure (ps.zip us)) : Binds K fd ps [] := fun s us _ hl => by
  rw [List.append_nil] at hl ⊢
  exact .of_eq (h us hl)
noncomputable def Passes (CX : CXT) (X : Cx) (E : XK) : Prop := ∀ (pins : List (Addr × Obj)) (σ : St) (H : Hp) (s : Shared) (e : Value) (s' : Shared), Inv X pins σ H s → CX X.stack H s E e s' → X.xe e s'
section
variable {X : Cx} {CX : CXT} {k : Nat} {f C : Addr} {fd : FuncData} {ps : List Str} {sp : Sp} {dvs : List V} {ds : List Value} {E : XK} {x m : Str} {p pos apos : Pos} {e o : Expr} {es : List Expr} {ta : TE} {t : TA}
theorem run_fn {pins : List (Addr × Obj)} {σ : St} {H : Hp} {s : Shared} {Q : VK} {us : List Value} {vs : List V} (F : FnOk X.prog X.w X.K X.mg X.base CX k f fd ps sp) (hr : Room k X.A) (hb : Binds X.K fd ps ds) (hd : Vals dvs ds) (hx : Passes CX X E)
    (I : Inv X pins σ H s) (r : Vals vs us) (h : sp (vs ++ dvs) H Q E) : wpAny (model X.prog X.w) X.A (call (.ref f) us) (EP X pins σ Q) X.xe s := by
  have r2 : Vals (vs ++ dvs) (us ++ ds) := r.append hd
  have hl : (us ++ ds).length = ps.length := by rw [← r2.length]; exact F.len _ _ _ _ h
  refine wpAny_call (codeAny_mono (F.run X.A X.stack s H ⟨us, []⟩ (us ++ ds) (vs ++ dvs) Q E hr I.env0 (hb s us I.kIn hl) r2 h) fun r s' hq => ?_)
  cases r with
  | error e => exact hx pins σ H s e s' I hq
  | ok fl =>
    cases fl with
    | ret u => exact I.after hq
    | next => exact False.elim hq
    | brk => exact False.elim hq
    | cont => exact False.elim hq
theorem pe_call (F : FnOk X.prog X.w X.K X.mg X.base CX k f fd ps sp) (hr : Room k X.A) (hg : Gl X x) (hm : X.mg x = some (.ref f)) (hk : PySem.W.keepIn X.K (.ref f) = true) (hb : Binds X.K fd ps ds) (hd : Vals dvs ds) (hx : Passes CX X E)
    (ha : PA X (e :: es) t) (hdb : (x == ("__debug__" : Str)) = false := by decide) (he : starEach (e :: es) X.env = (false, eval e X.env) :: starEach es X.env := by rfl) (hpl : (backTo pos (starEach es X.env)).any (·.1) = false := by rfl) :
    PE X (.Call (.Name x p) (e :: es) [] pos) (tCall sp dvs E t) := by
  intro pins s σ H Q I h
  refine wpAny_Call_Name_kw (ld_glob I hg hm ?_ hdb)
  refine PySem.W.callWith_K (h₀ := X.base) I.ok.mod.kin hk (thn (ha pos pins s σ H _ I h) fun us s1 ⟨vs, H1, I1, r, q⟩ => ⟨I1.kIn, ?_⟩) he hpl
  exact run_fn F hr hb hd hx I1 r q
theorem pe_meth {pl : Sem Bool} (he : PE X o ta) (c : Cls X.K C) (hm : Meth X.K C m f) (F : FnOk X.prog X.w X.K X.mg X.base CX k f fd ps sp) (hr : Room k X.A) (hb : Binds X.K fd ps ds) (hd : Vals dvs ds) (hx : Passes CX X E) (ha : PA X (e :: es) t)
    (hst : starEach (e :: es) X.env = (false, eval e X.env) :: starEach es X.env := by rfl) (hpl : (backTo pos (starEach es X.env)).any (·.1) = false := by rfl)
    (ht : eval (.Call (.Attribute o m apos) (e :: es) [] pos) X.env = (do
      let ov ← eval o X.env
      standAt apos.atName
      let (f, first) ← holding [ov] (getMethod ov m pl)
      callWith pos f first (backTo pos (starEach (e :: es) X.env)) (backToKw pos (keywordEach [] X.env))) := by rfl) :
    PE X (.Call (.Attribute o m apos) (e :: es) [] pos) (tMeth C m sp dvs E ta t) := by
  intro pins s σ H Q I h
  refine PySem.W.methodCall_KW (pl := pl) (thn (he pins s σ H _ I h) fun u s1 ⟨x, H1, I1, rx, a, dx, fs, ex, ea, l, q⟩ => ?_) ht
  subst ex
  obtain rfl : u = Value.ref a := rx
  refine getmeth_ok I1 ea c hm l ?_
  refine PySem.W.callWith_K (first := [.ref a]) (h₀ := X.base) I.ok.mod.kin hm.kp (thn (ha pos pins s1 σ H1 _ I1 q) fun us s2 ⟨vs, H2, I2, r, q2⟩ => ⟨I2.kIn, ?_⟩) hst hpl
  exact run_fn (us := .ref a :: us) (vs := .ref a :: vs) F hr hb hd hx I2 (.cons rfl r) q2
theorem pe_meth0 {pl : Sem Bool} (he : PE X o ta) (c : Cls X.K C) (hm : Meth X.K C m f) (F : FnOk X.prog X.w X.K X.mg X.base CX k f fd ps sp) (hr : Room k X.A) (hb : Binds X.K fd ps ds) (hd : Vals dvs ds) (hx : Passes CX X E)
    (ht : eval (.Call (.Attribute o m apos) [] [] pos) X.env = (do
      let ov ← eval o X.env
      standAt apos.atName
      let (f, first) ← holding [ov] (getMethod ov m pl)
      callWith pos f first (backTo pos (starEach [] X.env)) (backToKw pos (keywordEach [] X.env))) := by rfl) :
    PE X (.Call (.Attribute o m apos) [] [] pos) (tMeth C m sp dvs E ta tNil) := by
  intro pins s σ H Q I h
  refine PySem.W.methodCall_KW (pl := pl) (thn (he pins s σ H _ I h) fun u s1 ⟨x, H1, I1, rx, a, dx, fs, ex, ea, l, q⟩ => ?_) ht
  subst ex
  obtain rfl : u = Value.ref a := rx
  refine getmeth_ok I1 ea c hm l ?_
  exact PySem.W.callWith_K0 (first := [.ref a]) I1.kIn hm.kp (run_fn (us := [.ref a]) (vs := [.ref a]) F hr hb hd hx I1 (.cons rfl .nil) q)
structure Mk (K : PySem.W.Frag) (C f : Addr) : Prop where
  makes : PySem.W.makesIn K C = true
  init : PySem.W.findIn K (.ref C) "__init__" = some (some (.ref f))
  fn : PySem.W.isFn K (.ref f) = true
  kp : PySem.W.keepIn K (.ref C) = true
theorem run_make {pins : List (Addr × Obj)} {σ : St} {H : Hp} {s : Shared} {Q : VK} {us : List Value} {vs : List V} (M : Mk X.K C f) (F : FnOk X.prog X.w X.K X.mg X.base CX k f fd ps sp) (hr : Room (k + 1) X.A) (hb : Binds X.K fd ps ds) (hd : Vals dvs ds)
    (hx : Passes CX X E) (I : Inv X pins σ H s) (r : Vals vs us)
    (h : ∀ x dx, H x = none → H dx = none → dx ≠ x → sp (.ref x :: (vs ++ dvs)) (upd (upd H dx (.own x)) x (.ins C dx [])) (fun v H2 => v = .non ∧ Q (.ref x) H2) E) :
    wpAny (model X.prog X.w) X.A (call (.ref C) us) (EP X pins σ Q) X.xe s := by
  have hq := h (s.heap.objs.size + 1) s.heap.objs.size (I.hok.fresh (Nat.le_succ _)) (I.hok.fresh (Nat.le_refl _)) (Nat.ne_of_lt (Nat.lt_succ_self _))
  have I2 := Inv.made (C := C) I
  have r2 : Vals (V.ref (s.heap.objs.size + 1) :: (vs ++ dvs)) (Value.ref (s.heap.objs.size + 1) :: (us ++ ds)) := .cons rfl (r.append hd)
  have hl : (Value.ref (s.heap.objs.size + 1) :: us ++ ds).length = ps.length := by
    have e := r2.length
    rw [F.len _ _ _ _ hq] at e
    exact e.symm
  refine wpAny_call (make_map (f := f) I.kIn M.makes M.init (beq_iff_eq.mp M.fn) (codeAny_mono (F.run _ X.stack _ _ ⟨Value.ref (s.heap.objs.size + 1) :: us, []⟩ (Value.ref (s.heap.objs.size + 1) :: (us ++ ds)) _ _ E (hr.make C us [])
    (I2.env0.make C us []) (hb _ (Value.ref (s.heap.objs.size + 1) :: us) I2.kIn hl) r2 hq) fun r s' hq' => ?_))
  cases r with
  | error e => exact hx pins σ _ _ e s' I2 hq'
  | ok fl =>
    cases fl with
    | ret u =>
      obtain ⟨v, H', I3, rv, ev, q3⟩ := I2.after hq'
      subst ev
      exact ⟨rv, ⟨V.ref (s.heap.objs.size + 1), H', I3, rfl, q3⟩⟩
    | next => exact False.elim hq'
    | brk => exact False.elim hq'
    | cont => exact False.elim hq'
theorem pe_make (M : Mk X.K C f) (F : FnOk X.prog X.w X.K X.mg X.base CX k f fd ps sp) (hr : Room (k + 1) X.A) (hg : Gl X x) (hm : X.mg x = some (.ref C)) (hb : Binds X.K fd ps ds) (hd : Vals dvs ds) (hx : Passes CX X E)
    (ha : PA X (e :: es) t) (hdb : (x == ("__debug__" : Str)) = false := by decide) (he : starEach (e :: es) X.env = (false, eval e X.env) :: starEach es X.env := by rfl) (hpl : (backTo pos (starEach es X.env)).any (·.1) = false := by rfl) :
    PE X (.Call (.Name x p) (e :: es) [] pos) (tMake C sp dvs E t) := by
  intro pins s σ H Q I h
  refine wpAny_Call_Name_kw (ld_glob I hg hm ?_ hdb)
  refine PySem.W.callWith_K (h₀ := X.base) I.ok.mod.kin M.kp (thn (ha pos pins s σ H _ I h) fun us s1 ⟨vs, H1, I1, r, q⟩ => ⟨I1.kIn, ?_⟩) he hpl
  exact run_make M F hr hb hd hx I1 r q
end
section
variable {X : Cx} {CX : CXT} {k : Nat} {f C : Addr} {fd : FuncData} {ps ks : List Str} {sp : Sp} {E : XK} {x m : Str} {p pos apos kpos : Pos} {e o : Expr} {es : List Expr} {kws : List Keyword} {te ta : TE} {t tk : TA} {nm : Option Str}
variable {g : List Value → List Value → List Value} {gV : List V → List V → List V}
end
structure FnScope (N P : List Str) (sc : Scope) : Prop where
  kind : sc.kind = .function
  co : sc.isCoroutine = false
  gen : sc.isGenerator = false
  nd : N.Nodup
  pre : N.take P.length = P
  par : ∀ x ∈ P, sc.names.lookup x = some .local ∨ sc.names.lookup x = some .cell
  nofree : ∀ y ∈ sc.names, y.2 ≠ .free
theorem bindL_out {kindOf : Str → Option NameKind} {x : Str} : ∀ {binds : List (Str × Value)} {m : Str → Option Value}, (∀ v, (x, v) ∉ binds) → bindL kindOf binds m x = m x
  | [], _, _ => rfl
  | (n, v) :: r, m, h => by
    unfold bindL
    rw [bindL_out fun w hw => h w (List.mem_cons_of_mem _ hw)]
    split
    · have : x ≠ n := by rintro rfl; exact h v List.mem_cons_self
      simp [this]
    · rfl
theorem bindC_out {kindOf : Str → Option NameKind} {x : Str} : ∀ {binds : List (Str × Value)} {m : Str → Option Value}, (∀ v, (x, v) ∉ binds) → bindC kindOf binds m x = m x
  | [], _, _ => rfl
  | (n, v) :: r, m, h => by
    unfold bindC
    rw [bindC_out fun w hw => h w (List.mem_cons_of_mem _ hw)]
    split
    · rfl
    · have : x ≠ n := by rintro rfl; exact h v List.mem_cons_self
      simp [this]
theorem bindL_get {kindOf : Str → Option NameKind} {x : Str} {v : Value} : ∀ {P : List Str} {vs : List Value} {i : Nat} {m : Str → Option Value}, P.Nodup → P[i]? = some x → vs[i]? = some v → kindOf x = some .local →
    bindL kindOf (P.zip vs) m x = some v
  | [], _, _, _, _, h, _, _ => by simp at h
  | _ :: _, [], _, _, _, _, h, _ => by simp at h
  | p :: P, w :: vs, 0, m, nd, h1, h2, hk => by
    simp at h1 h2; subst h1; subst h2
    show bindL kindOf ((p, w) :: P.zip vs) m p = _
    unfold bindL
    rw [bindL_out fun v hv => (List.nodup_cons.mp nd).1 (List.of_mem_zip hv).1, if_pos hk]
    simp
  | p :: P, w :: vs, i + 1, m, nd, h1, h2, hk => by
    show bindL kindOf ((p, w) :: P.zip vs) m x = _
    unfold bindL
    exact bindL_get (i := i) (List.nodup_cons.mp nd).2 (by simpa using h1) (by simpa using h2) hk
theorem bindC_get {kindOf : Str → Option NameKind} {x : Str} {v : Value} : ∀ {P : List Str} {vs : List Value} {i : Nat} {m : Str → Option Value}, P.Nodup → P[i]? = some x → vs[i]? = some v → kindOf x ≠ some .local →
    bindC kindOf (P.zip vs) m x = some v
  | [], _, _, _, _, h, _, _ => by simp at h
  | _ :: _, [], _, _, _, _, h, _ => by simp at h
  | p :: P, w :: vs, 0, m, nd, h1, h2, hk => by
    simp at h1 h2; subst h1; subst h2
    show bindC kindOf ((p, w) :: P.zip vs) m p = _
    unfold bindC
    rw [bindC_out fun v hv => (List.nodup_cons.mp nd).1 (List.of_mem_zip hv).1, if_neg hk]
    simp
  | p :: P, w :: vs, i + 1, m, nd, h1, h2, hk => by
    show bindC kindOf ((p, w) :: P.zip vs) m x = _
    unfold bindC
    exact bindC_get (i := i) (List.nodup_cons.mp nd).2 (by simpa using h1) (by simpa using h2) hk
noncomputable def start (N : List Str) (vs : List V) : St := vs.map some ++ List.replicate (N.length - vs.length) none
noncomputable def cxOf (CX : CXT) (P : Program) (w : World) (K : PySem.W.Frag) (mg : Str → Option Value) (base : Heap) (N : List Str) (qual : Str) (scope : Scope) (f : Addr) (cd : Value) (A : Around) (outer : List Env) (s : Shared) (H : Hp) (E : XK) : Cx where
  prog := P
  w := w
  K := K
  mg := mg
  base := base
  A := A.deeper (envOfC qual scope s.heap.objs.size f cd)
  N := N
  s₀ := s
  H₀ := H
  env := envOfC qual scope s.heap.objs.size f cd
  outer := outer
  stack := envOfC qual scope s.heap.objs.size f cd :: outer
  ex := []
  calm := true
  fn := fun _ => true
  pn := []
  xe := fun e s' => wpAny (model P w) (A.deeper (envOfC qual scope s.heap.objs.size f cd)) (leaving (envOfC qual scope s.heap.objs.size f cd) e) (fun _ s'' => CX outer H s E e s'') (fun e' s'' => CX outer H s E e' s'') s'
theorem cell_has {sc : Scope} {n : Nat} {x : Str} (h : sc.names.lookup x = some .cell) : ∃ c, (cellsFrom n sc.names []).lookup x = some c := by
  have q := PySem.W.cellsFrom_some sc.names n [] (.inl h)
  exact Option.isSome_iff_exists.mp q
theorem inv_start {CX : CXT} {P : Program} {w : World} {K : PySem.W.Frag} {mg : Str → Option Value} {base : Heap} {N ps : List Str} {qual : Str} {scope : Scope} {f : Addr} {cd : Value} {A : Around} {outer : List Env} {s s1 : Shared} {H : Hp} {E : XK} {us : List Value} {vs : List V}
    (S : FnScope N ps scope) (hd : A.handled = none) (e0 : Env0 P w K mg base A outer s H) (hl : vs.length = ps.length) (r : Vals vs us)
    (x : InCallC s s.heap.objs.size (bindL (envOfC qual scope s.heap.objs.size f cd).kindOf (ps.zip us) fun _ => none) (cellsFrom (s.heap.objs.size + 1) scope.names []) (bindC (envOfC qual scope s.heap.objs.size f cd).kindOf (ps.zip us) fun _ => none) s1) :
    Inv (cxOf CX P w K mg base N qual scope f cd A outer s H E) [] (start N vs) H s1 := by
  have hpl : ps.length ≤ N.length := by have := congrArg List.length S.pre; rw [List.length_take] at this; lia
  obtain ⟨h1, tk, rfl, hk⟩ := x.done
  have noA : ∀ b : Addr, b ∉ (cxOf CX P w K mg base N qual scope f cd A outer s H E).ex := fun b z => absurd (show b ∈ ([] : List Addr) from z) (by simp)
  refine ⟨⟨e0.mod, S.kind, rfl, rfl, Nat.le_refl _, fun y z c h1 h2 => ?_, fun y hy => ?_, fun y c _ h => ?_, fun _ => hd, Around.frames_deeper e0.frames, .inr ⟨rfl, rfl⟩, fun b z => absurd z (noA b), e0.bs, e0.bsz, fun b _ _ => noA b, fun b z => absurd z (noA b), e0.funs, e0.frf⟩,
    rfl, e0.bare, Un.kept hk, ⟨_, x.toInCall.ns, fun i y v h1 h2 h3 => ?_⟩, fun y c h => ⟨_, x.cell y c h⟩, e0.hok.fresh (Nat.le_refl _), fun y c h => ?_, fun p hp => absurd (show p ∈ ([] : List (Addr × Obj)) from hp) (by simp), e0.hok.kept hk, ?_⟩
  · exact name_of_addr x.apart (PySem.mem_of_lookup h1) (PySem.mem_of_lookup h2)
  · have hy : scope.names.lookup y = some .cell ∨ scope.names.lookup y = some .free := hy
    rcases hy with hy | hy
    · exact cell_has hy
    · exact absurd rfl (S.nofree _ (PySem.mem_of_lookup hy))
  · exact Nat.le_of_lt (x.above y c (PySem.mem_of_lookup h))
  · have hi : i < vs.length := by
      unfold start at h2
      by_cases hi : i < vs.length
      · exact hi
      · rw [List.getElem?_append_right (by simpa using hi)] at h2
        rw [List.getElem?_replicate] at h2
        split at h2 <;> cases h2
    have ha : vs[i]? = some v := by
      unfold start at h2
      rw [List.getElem?_append_left (by simpa using hi), List.getElem?_map] at h2
      cases e : vs[i]? with
      | none => rw [e] at h2; cases h2
      | some a => rw [e] at h2; cases h2; rfl
    obtain ⟨u, hu, rv⟩ := r.get ha
    have hp : ps[i]? = some y := by
      rw [← S.pre, List.getElem?_take_of_lt (by lia)]; exact h1
    have ndP : ps.Nodup := by rw [← S.pre]; exact S.nd.sublist (List.take_sublist _ _)
    refine ⟨u, rv, ?_⟩
    rcases S.par y (List.mem_of_getElem? hp) with k | k
    · exact .inl ⟨k, bindL_get ndP hp hu k⟩
    · obtain ⟨c, e⟩ := cell_has (n := s.heap.objs.size + 1) k
      refine .inr ⟨.inl k, c, e, ?_⟩
      have q := x.cell y c e
      rw [bindC_get ndP hp hu (by show scope.names.lookup y ≠ _; rw [k]; decide)] at q
      exact q
  · exact e0.hok.fresh (Nat.le_of_lt (x.above y c (PySem.mem_of_lookup h)))
  · unfold start
    show _ = N.length
    rw [List.length_append, List.length_map, List.length_replicate]
    lia
theorem fn_of {CX : CXT} {P : Program} {w : World} {K : PySem.W.Frag} {mg : Str → Option Value} {base : Heap} {k : Nat} {f : Addr} {name qual : Str} {params : Arguments} {body : List Stmt} {scope : Scope} {dV kV doc pm cdv ct oc : Value} {an od : Option Addr}
    {osl : Array (Option Value)} {N ps : List Str} {sp : Sp} (lk : K.lookup f = some ⟨oc, od, .func (PySem.W.fnOf name qual params body scope dV kV doc pm an cdv ct), osl⟩) (hcd : PySem.W.codeIn K cdv qual = true) (S : FnScope N ps scope)
    (len : ∀ vs H Q E, sp vs H Q E → vs.length = ps.length)
    (hbody : ∀ (A : Around) (outer : List Env) (s : Shared) (H : Hp) (vs : List V) (Q : VK) (E : XK), Room k (A.deeper (envOfC qual scope s.heap.objs.size f cdv)) → sp vs H Q E →
      ∃ t, PSs (cxOf CX P w K mg base N qual scope f cdv A outer s H E) body t ∧ t { nx := fun _ H' => Q .non H', rt := Q } (start N vs) H) :
    FnOk P w K mg base CX (k + 1) f (PySem.W.fnOf name qual params body scope dV kV doc pm an cdv ct) ps sp := by
  refine ⟨len, fun A outer s H args us vs Q E hr e0 hb r hsp => ?_⟩
  have hl := len _ _ _ _ hsp
  have KX : K.In s.heap := e0.mod.kin.keeps fun b o e => (e0.bs b o e).1
  have lim : s.heap.NoLimit := e0.mod.nolimit.keeps fun b o e => (e0.bs b o e).1
  have hkind : ∀ y ∈ ps.zip us, scope.names.lookup y.1 = some .local ∨ (scope.names.lookup y.1 = some .cell ∧ ((cellsFrom (s.heap.objs.size + 1) scope.names []).lookup y.1).isSome = true) := fun ⟨n, v⟩ hy => by
    rcases S.par n (List.of_mem_zip hy).1 with q | q
    · exact .inl q
    · exact .inr ⟨q, PySem.W.cellsFrom_some _ _ _ (.inl q)⟩
  refine codeAny_call_function hr.depth (KX _ _ lk) rfl S.co S.gen rfl (PySem.W.codeRec_of KX hcd) (hb _ _ _ _ ?_)
  refine wpAny_newFunctionEnv_cells S.kind hkind fun env he s1 x => ?_
  subst he
  refine ⟨lim.keeps x.toInCall.keep, codeAny_func ?_⟩
  obtain ⟨t, ht, hq⟩ := hbody A outer s H vs Q E (hr.deeper _) hsp
  have I : Inv (cxOf CX P w K mg base N qual scope f cdv A outer s H E) [] (start N vs) H s1 := inv_start S hr.hd e0 hl r x
  refine wpAny_mono (ht [] s1 (start N vs) H _ I hq) (fun fl s' hs => ?_) fun e s' hs => hs
  have fin : ∀ {σ' : St} {H' : Hp} {v : V} {u : Value}, Inv (cxOf CX P w K mg base N qual scope f cdv A outer s H E) [] σ' H' s' → RelV v u → Q v H' → CE outer P w H s Q u s' :=
    fun {σ' H' v u} J rv q => ⟨v, H', J.os, J.bare, J.base, J.hok, rv, q⟩
  cases fl with
  | ret u =>
    obtain ⟨v, σ', H', J, rv, q⟩ := hs
    exact fin J rv q
  | next =>
    obtain ⟨σ', H', J, q⟩ := hs
    exact fin (v := V.non) (u := Value.none) J rfl q
  | brk =>
    obtain ⟨_, _, _, q⟩ := hs
    exact False.elim q
  | cont =>
    obtain ⟨_, _, _, q⟩ := hs
    exact False.elim q
end L2
namespace L2
open PySem PySem.Spec PyProof.Rows
section
variable {X : Cx} {x : Str} {p pos : Pos} {e : Expr} {es : List Expr} {t : TA} {id T : String} {r : List V → Hp → VK → Prop}
noncomputable def tCB (r : List V → Hp → VK → Prop) (t : TA) : TE := fun σ H Q => t σ H fun vs H1 => r vs H1 Q
theorem pe_callB (hc : CallR X (.builtin id) r) (hg : Gl X x) (hm : X.mg x = none) (hv : bootBuiltins x = some (.builtin id)) (ha : PA X (e :: es) t) (hn : x ≠ "__name__" := by decide) (hdb : (x == ("__debug__" : Str)) = false := by decide)
    (he : starEach (e :: es) X.env = (false, eval e X.env) :: starEach es X.env := by rfl) (hpl : (backTo pos (starEach es X.env)).any (·.1) = false := by rfl) : PE X (.Call (.Name x p) (e :: es) [] pos) (tCB r t) := by
  intro pins s σ H Q I h
  refine wpAny_Call_Name_kw (ld_blt I hg hm hv ?_ hn hdb)
  exact PyProof.Rows.callWith_builtin1 (thn (ha pos pins s σ H _ I h) fun us s1 ⟨vs, H1, I1, r1, q1⟩ => hc pins s1 σ H1 vs us Q I1 r1 q1) he hpl
theorem pe_callTy (hc : CallR X (.type T) r) (hg : Gl X x) (hm : X.mg x = none) (hv : bootBuiltins x = some (.type T)) (ha : PA X (e :: es) t) (hn : x ≠ "__name__" := by decide) (hdb : (x == ("__debug__" : Str)) = false := by decide)
    (he : starEach (e :: es) X.env = (false, eval e X.env) :: starEach es X.env := by rfl) (hpl : (backTo pos (starEach es X.env)).any (·.1) = false := by rfl) : PE X (.Call (.Name x p) (e :: es) [] pos) (tCB r t) := by
  intro pins s σ H Q I h
  refine wpAny_Call_Name_kw (ld_blt I hg hm hv ?_ hn hdb)
  exact PyProof.Rows.callWith_type1 (thn (ha pos pins s σ H _ I h) fun us s1 ⟨vs, H1, I1, r1, q1⟩ => hc pins s1 σ H1 vs us Q I1 r1 q1) he hpl
end
end L2
namespace HT
open PySem PyProof.Rows
section
open PySem.SeqAt
open PySem.AutoSeq1 (wpAny_loadPart')
open PySem.MeetsSeq PySem.MeetsSeq2 PySem.MeetsSeq3
end
section
variable {prog : Program} {w : World} {A : Around} {E : Value → Shared → Prop} {s : Shared}
noncomputable def sIx (n d : Nat) : Option Int → Nat
  | none => d
  | some v => if v < 0 then (v + (n : Int)).toNat else min v.toNat n
end
end HT
namespace L2
open PySem PySem.Spec PyProof.Rows
abbrev TO := St → Hp → (Option Int → Hp → Prop) → Prop
noncomputable def PO (X : Cx) (e : Option Expr) (t : TO) : Prop :=
  ∀ (pins : List (Addr × Obj)) (s : Shared) (σ : St) (H : Hp) (Q : Option Int → Hp → Prop), Inv X pins σ H s → t σ H Q →
    wpAny (model X.prog X.w) X.A (evalPart e X.env) (fun u s' => ∃ o H', Inv X pins σ H' s' ∧ IsPart u o ∧ Q o H') X.xe s
noncomputable def tNoPart : TO := fun _ H Q => Q none H
noncomputable def tPart (t : TE) : TO := fun σ H Q => t σ H fun x H1 => ∃ i, x = .int i ∧ Q (some i) H1
section
variable {X : Cx} {e : Expr} {te : TE} {lo hi : Option Expr} {tl th : TO} {pos p2 : Pos}
theorem po_none : PO X none tNoPart := by
  intro pins s σ H Q I h
  rw [evalPart_none]
  exact wpAny_pure ⟨none, H, I, .none, h⟩
theorem po_some (h : PE X e te) : PO X (some e) (tPart te) := by
  intro pins s σ H Q I hw
  rw [evalPart_some]
  refine thn (h pins s σ H _ I hw) fun u s1 ⟨x, H1, I1, r1, q1⟩ => ?_
  obtain ⟨i, rfl, q⟩ := q1
  obtain ⟨t, rfl⟩ := r1
  exact ⟨some i, H1, I1, .int i t, q⟩
noncomputable def SlR (X : Cx) (r : V → Option Int → Option Int → Hp → VK → Prop) : Prop :=
  ∀ (pins : List (Addr × Obj)) (s : Shared) (σ : St) (H : Hp) (x : V) (v vl vu : Value) (lo hi : Option Int) (sl : Addr) (Q : VK), Inv X pins σ H s → RelV x v → s.heap.IsSliceOf sl vl vu .none → IsPart vl lo → IsPart vu hi → r x lo hi H Q →
    ∃ T id, typeLookup (.type T) "__getitem__" = pure (some (.builtin id)) ∧ s.TypeIs v T ∧ wpAny (model X.prog X.w) X.A (getItem v (.ref sl)) (EP X pins σ Q) X.xe s
noncomputable def tSl (r : V → Option Int → Option Int → Hp → VK → Prop) (te : TE) (tl th : TO) : TE := fun σ H Q => te σ H fun x H1 => tl σ H1 fun l H2 => th σ H2 fun u H3 => r x l u H3 Q
theorem pe_slice {r : V → Option Int → Option Int → Hp → VK → Prop} (hr : SlR X r) (he : PE X e te) (hl : PO X lo tl) (hu : PO X hi th) : PE X (.Subscript e (.Slice lo hi none p2) pos) (tSl r te tl th) := by
  intro pins s σ H Q I h
  refine Subscript_ (thn (he pins s σ H _ I h) fun v s1 ⟨x, H1, I1, r1, q1⟩ => ?_)
  refine wpAny_Slice (thn (hl pins s1 σ H1 _ I1 q1) fun vl s2 ⟨l, H2, I2, pl, q2⟩ => thn (hu pins s2 σ H2 _ I2 q2) fun vu s3 ⟨u, H3, I3, pu, q3⟩ => ?_)
  rw [evalPart_none]
  refine wpAny_pure ?_
  have I4 : Inv X pins σ H3 { s3 with heap := s3.heap.push { cls := .type "slice", data := .fields #[vl, vu, .none] } } := I3.kept (t' := s3.toks) fun b ob q => Heap.get?_push_of_some _ q
  obtain ⟨T, id, hT, ht, hg⟩ := hr pins { s3 with heap := s3.heap.push { cls := .type "slice", data := .fields #[vl, vu, .none] } } σ H3 x v vl vu l u s3.heap.objs.size Q I4 r1 (Heap.IsSliceOf.new ..) pl pu q3
  show wpAny (model X.prog X.w) X.A (subscriptTail e (.Slice lo hi none p2) v (.ref s3.heap.objs.size)) (EP X pins σ Q) X.xe { s3 with heap := s3.heap.push { cls := .type "slice", data := .fields #[vl, vu, .none] } }
  exact tail_any (ops := [.ref s3.heap.objs.size, v]) ht hT hg (by with_unfolding_all rfl)
noncomputable def cutV (xs : List V) (lo hi : Option Int) : List V := (xs.drop (HT.sIx xs.length 0 lo)).take (HT.sIx xs.length xs.length hi - HT.sIx xs.length 0 lo)
theorem cutV_length (xs : List V) (lo hi : Option Int) : (cutV xs lo hi).length ≤ xs.length := by
  unfold cutV
  rw [List.length_take, List.length_drop]
  lia
end
end L2
namespace L2
open PySem PySem.Spec PyProof.Rows
noncomputable def ixN (n : Nat) (i : Int) : Option Nat := if 0 ≤ i then (if i < n then some i.toNat else none) else if -(n : Int) ≤ i then some (i + n).toNat else none
noncomputable def atI {α : Type} (xs : List α) (i : Int) : Option α := (ixN xs.length i).bind fun j => xs[j]?
theorem ixN_seq {n : Nat} {i : Int} {j : Nat} (h : ixN n i = some j) : seqIndex? i n = some j ∧ j < n ∧ -(n : Int) ≤ i ∧ i < n := by
  unfold ixN at h
  by_cases h0 : 0 ≤ i
  · rw [if_pos h0] at h
    by_cases h1 : i < n
    · rw [if_pos h1] at h
      have e : i.toNat = j := Option.some.inj h
      exact ⟨by rw [seqIndex_of h0 h1, e], by lia, by lia, h1⟩
    · rw [if_neg h1] at h; cases h
  · rw [if_neg h0] at h
    by_cases h1 : -(n : Int) ≤ i
    · rw [if_pos h1] at h
      have e : (i + n).toNat = j := Option.some.inj h
      exact ⟨by rw [seqIndex_neg (by lia) h1, e], by lia, h1, by lia⟩
    · rw [if_neg h1] at h; cases h
theorem atI_get {α : Type} {xs : List α} {i : Int} {v : α} (h : atI xs i = some v) : ∃ j, seqIndex? i xs.length = some j ∧ xs[j]? = some v ∧ j < xs.length ∧ -(xs.length : Int) ≤ i ∧ i < xs.length := by
  unfold atI at h
  cases e : ixN xs.length i with
  | none => rw [e] at h; cases h
  | some j =>
    rw [e] at h
    obtain ⟨h1, h2, h3, h4⟩ := ixN_seq e
    exact ⟨j, h1, h, h2, h3, h4⟩
theorem atI_nat {α : Type} {xs : List α} {j : Nat} {v : α} (h : xs[j]? = some v) : atI xs (j : Int) = some v := by
  have hj : j < xs.length := (List.getElem?_eq_some_iff.mp h).1
  have e : ixN xs.length (j : Int) = some j := by
    unfold ixN
    rw [if_pos (by lia), if_pos (by lia)]; simp
  unfold atI; rw [e]; exact h
noncomputable def PlainIx (b : Expr) : Prop := ∀ o i, subscripted b false o i = operate [o, i] (getItem o i)
noncomputable def IxR (X : Cx) (r : R2) : Prop :=
  ∀ (value slice : Expr) (pins : List (Addr × Obj)) (s : Shared) (σ : St) (H : Hp) (x y : V) (v u : Value) (Q : VK), Inv X pins σ H s → RelV x v → RelV y u → r x y H Q →
    subscripted slice false v u = operate [v, u] (getItem v u) → wpAny (model X.prog X.w) X.A (subscriptTail value slice v u) (EP X pins σ Q) X.xe s
noncomputable def MtR (X : Cx) (id : String) (r : V → List V → Hp → VK → Prop) : Prop :=
  ∀ (pins : List (Addr × Obj)) (s : Shared) (σ : St) (H : Hp) (x : V) (xs : List V) (v : Value) (us : List Value) (Q : VK), Inv X pins σ H s → RelV x v → Vals xs us → r x xs H Q →
    wpAny (model X.prog X.w) X.A (call (.builtin id) (v :: us)) (EP X pins σ Q) X.xe s
section
variable {X : Cx} {a b : Expr} {ta tb : TE} {pos : Pos}
theorem pe_ix {r : R2} (hr : IxR X r) (ha : PE X a ta) (hb : PE X b tb) (hs : PlainIx b) : PE X (.Subscript a b pos) (tOp r ta tb) := by
  intro pins s σ H Q I h
  exact Subscript_ (binT ha hb I h fun v u s2 x y H2 I2 rx ry q => hr a b pins s2 σ H2 x y v u Q I2 rx ry q (hs _ _))
noncomputable def rIxL (K : PySem.W.Frag) : R2 := fun x y H Q => ∃ p xs i v, x = .ref p ∧ y = .int i ∧ SqL K H p xs ∧ atI xs i = some v ∧ Q v H
noncomputable def rIxT (K : PySem.W.Frag) : R2 := fun x y H Q => ∃ p xs i v, x = .ref p ∧ y = .int i ∧ SqT K H p xs ∧ atI xs i = some v ∧ Q v H
noncomputable def rIxS : R2 := fun x y H Q => ∃ z i c, x = .str z ∧ y = .int i ∧ z.length ≤ sizeLine ∧ atI z.cps.toList i = some c ∧ Q (.str ⟨#[c]⟩) H
theorem ix_list : IxR X (rIxL X.K) := by
  intro value slice pins s σ H x y v u Q I rx ry h hs
  obtain ⟨p, xs, i, z, rfl, rfl, hq, he, q⟩ := h
  cases rx
  obtain ⟨t, rfl⟩ := ry
  obtain ⟨its, r, pl, hz⟩ := I.list hq
  obtain ⟨j, h1, h2, h3, h4, h5⟩ := atI_get he
  obtain ⟨w, ew, rw'⟩ := r.get h2
  have hl := r.length
  have hn := line63
  have fin : EP X pins σ Q w s := ⟨z, H, I, rw', q⟩
  by_cases h0 : 0 ≤ i
  · have hj : i.toNat = j := by
      rw [seqIndex_of h0 h5] at h1
      exact Option.some.inj h1
    exact item_listR pl.isList h0 (by lia) (by rw [hj]; simpa using ew) fin hs
  · have hj : (i + (its.toArray.size : Int)).toNat = j := by
      rw [seqIndex_neg (by lia) h4] at h1
      rw [List.size_toArray, ← hl]
      exact Option.some.inj h1
    exact subscriptTail_builtinR (x := w) pl.isList.typeIs slot_list_getitem.lookup
      (wpAny_getItem_list_neg (Q := fun r s' => r = w ∧ EP X pins σ Q r s') pl.isList (by lia) (by rw [List.size_toArray] <;> lia) (by lia) (by rw [hj]; simpa using ew) ⟨rfl, fin⟩) hs
theorem ix_tup : IxR X (rIxT X.K) := by
  intro value slice pins s σ H x y v u Q I rx ry h hs
  obtain ⟨p, xs, i, z, rfl, rfl, hq, he, q⟩ := h
  cases rx
  obtain ⟨t, rfl⟩ := ry
  obtain ⟨its, r, pl, hz⟩ := I.tuple hq
  obtain ⟨j, h1, h2, h3, h4, h5⟩ := atI_get he
  obtain ⟨w, ew, rw'⟩ := r.get h2
  have hl := r.length
  have hn := line63
  have fin : EP X pins σ Q w s := ⟨z, H, I, rw', q⟩
  exact subscriptTail_builtinR (x := w) pl.typeIs slot_tuple_getitem.lookup
    (getItem_tuple (j := j) (Q := fun r s' => r = w ∧ EP X pins σ Q r s') pl (by lia) (by lia) (by rw [List.size_toArray, ← hl]; exact h1) (by simpa using ew) ⟨rfl, fin⟩) hs
theorem ix_str : IxR X rIxS := by
  intro value slice pins s σ H x y v u Q I rx ry h hs
  obtain ⟨z, i, c, rfl, rfl, hz, he, q⟩ := h
  obtain ⟨t, rfl⟩ := rx
  obtain ⟨t', rfl⟩ := ry
  obtain ⟨j, h1, h2, h3, h4, h5⟩ := atI_get he
  have hl : z.cps.toList.length = z.length := by simp [Str.length]
  rw [hl] at h1 h4 h5
  have hn := line63
  exact tail_any (typeIs_str s z t) slot_str_getitem.lookup (getItem_str (c := c) (by
    have e1 : decide (i < -(2 ^ 63 : Int)) = false := decide_eq_false (by lia)
    have e2 : decide (i ≥ 2 ^ 63) = false := decide_eq_false (by lia)
    rw [e1, e2, Bool.or_false]) (by rw [h1]; simpa using h2) ⟨.str ⟨#[c]⟩, H, I.tok _, ⟨_, rfl⟩, q⟩) hs
theorem slice_bounds (lo hi : Option Int) (n : Nat) : (sliceBounds lo hi none n).1 = ((HT.sIx n 0 lo : Nat) : Int) ∧ (sliceBounds lo hi none n).2.1 = ((HT.sIx n n hi : Nat) : Int) ∧ (sliceBounds lo hi none n).2.2 = 1 := by
  refine ⟨?_, ?_, rfl⟩
  · cases lo with
    | none => simp [sliceBounds, HT.sIx]
    | some i =>
      simp only [sliceBounds, HT.sIx, Option.getD_none, show (1 : Int) > 0 by decide, if_true]
      by_cases h : i < 0
      · simp only [h, if_true] <;> lia
      · simp only [h, if_false] <;> lia
  · cases hi with
    | none => simp [sliceBounds, HT.sIx]
    | some i =>
      simp only [sliceBounds, HT.sIx, Option.getD_none, show (1 : Int) > 0 by decide, if_true]
      by_cases h : i < 0
      · simp only [h, if_true] <;> lia
      · simp only [h, if_false] <;> lia
theorem slicePick_cut (its : List Value) (lo hi : Option Int) : slicePick its.toArray lo hi none = ((its.drop (HT.sIx its.length 0 lo)).take (HT.sIx its.length its.length hi - HT.sIx its.length 0 lo)).toArray := by
  obtain ⟨h1, h2, h3⟩ := slice_bounds lo hi its.toArray.size
  unfold slicePick
  rw [h1, h2, h3]
  simp only [sliceRange_one, pick_run, List.size_toArray] <;> rfl
noncomputable def rSlL (K : PySem.W.Frag) : V → Option Int → Option Int → Hp → VK → Prop := fun x lo hi H Q => ∃ a xs, x = .ref a ∧ SqL K H a xs ∧ ∀ p, H p = none → Q (.ref p) (upd H p (.lst (cutV xs lo hi)))
theorem sl_list : SlR X (rSlL X.K) := by
  intro pins s σ H x v vl vu lo hi sl Q I rx hs pl pu h
  obtain ⟨a, xs, rfl, hx, q⟩ := h
  cases rx
  obtain ⟨its, r, ht, hz⟩ := I.list hx
  have hlen := r.length
  refine ⟨"list", _, slot_list_getitem.lookup, ht.isList.typeIs, ?_⟩
  refine wpAny_getItem_list_slice ht.isList hs pl pu .none (by simp) ?_ (by rw [List.size_toArray] <;> lia)
  rw [slicePick_cut, ← hlen]
  refine ⟨.ref s.heap.objs.size, _, I.laid (t' := s.toks) (o := .lst (cutV xs lo hi)) (fun b ob q => Heap.get?_push_of_some _ q) (Nat.le_refl _) ?_, rfl, q _ (I.hok.fresh (Nat.le_refl _))⟩
  exact ⟨Nat.le_trans (cutV_length xs lo hi) hz, _, 0, (r.drop (HT.sIx xs.length 0 lo)).take (HT.sIx xs.length xs.length hi - HT.sIx xs.length 0 lo), Heap.get?_push_size _ rfl⟩
noncomputable def flatV : V → Bool
  | .non => true
  | .bl _ => true
  | .int _ => true
  | .str _ => true
  | _ => false
noncomputable def eqV : V → V → Bool
  | .non, .non => true
  | .bl a, .bl b => a == b
  | .bl a, .int b => (if a then 1 else 0) == b
  | .int a, .bl b => a == (if b then 1 else 0)
  | .int a, .int b => a == b
  | .str a, .str b => a == b
  | _, _ => false
theorem eqAt_V {A : Around} {s : Shared} {y x : V} {u v : Value} (ry : RelV y u) (rx : RelV x v) (fy : flatV y = true) (fx : flatV x = true) : SeqAt.EqAt A s u v (eqV y x) := by
  cases y with
  | non =>
    cases ry
    cases x with
    | non => cases rx; exact SeqAt.EqAt.same _
    | bl b => cases rx; exact SeqAt.EqAt.none_bool b
    | int b => obtain ⟨t, rfl⟩ := rx; exact SeqAt.EqAt.none_int b t
    | str b => obtain ⟨t, rfl⟩ := rx; exact SeqAt.EqAt.none_str b t
    | _ => exact absurd (show false = true from fx) Bool.false_ne_true
  | bl a =>
    cases ry
    cases x with
    | non => cases rx; exact SeqAt.EqAt.bool_none a
    | bl b => cases rx; exact SeqAt.EqAt.bool_bool a b
    | int b => obtain ⟨t, rfl⟩ := rx; exact SeqAt.EqAt.bool_int a b t
    | str b => obtain ⟨t, rfl⟩ := rx; exact SeqAt.EqAt.bool_str a b t
    | _ => exact absurd (show false = true from fx) Bool.false_ne_true
  | int a =>
    obtain ⟨t', rfl⟩ := ry
    cases x with
    | non => cases rx; exact SeqAt.EqAt.int_none a t'
    | bl b => cases rx; exact SeqAt.EqAt.int_bool a t' b
    | int b => obtain ⟨t, rfl⟩ := rx; exact SeqAt.EqAt.int_int a t' b t
    | str b => obtain ⟨t, rfl⟩ := rx; exact SeqAt.EqAt.int_str a t' b t
    | _ => exact absurd (show false = true from fx) Bool.false_ne_true
  | str a =>
    obtain ⟨t', rfl⟩ := ry
    cases x with
    | non => cases rx; exact SeqAt.EqAt.str_none a t'
    | bl b => cases rx; exact SeqAt.EqAt.str_bool a t' b
    | int b => obtain ⟨t, rfl⟩ := rx; exact SeqAt.EqAt.str_int a t' b t
    | str b => obtain ⟨t, rfl⟩ := rx; exact SeqAt.EqAt.str_str a t' b t
    | _ => exact absurd (show false = true from fx) Bool.false_ne_true
  | _ => exact absurd (show false = true from fy) Bool.false_ne_true
noncomputable def eqU (x : V) (u : Value) : Bool := match u with
  | .none => eqV .non x
  | .bool b => eqV (.bl b) x
  | .int i _ => eqV (.int i) x
  | .str z _ => eqV (.str z) x
  | _ => false
theorem eqU_of {x y : V} {u : Value} (r : RelV y u) (f : flatV y = true) : eqU x u = eqV y x := by
  cases y with
  | non => cases r; rfl
  | bl b => cases r; rfl
  | int i => obtain ⟨t, rfl⟩ := r; rfl
  | str z => obtain ⟨t, rfl⟩ := r; rfl
  | _ => exact absurd (show false = true from f) Bool.false_ne_true
theorem any_eqU {x : V} : ∀ {xs : List V} {us : List Value}, Vals xs us → xs.all flatV = true → us.any (eqU x) = xs.any fun y => eqV y x
  | _, _, .nil, _ => rfl
  | y :: xs, u :: us, .cons r t, f => by
    rw [List.all_cons, Bool.and_eq_true] at f
    rw [List.any_cons, List.any_cons, eqU_of r f.1, any_eqU t f.2]
theorem mem_eqAt {A : Around} {s : Shared} {x : V} {v : Value} (rx : RelV x v) (fx : flatV x = true) : ∀ {xs : List V} {us : List Value}, Vals xs us → xs.all flatV = true → ∀ u ∈ us, SeqAt.EqAt A s u v (eqU x u)
  | _, _, .nil, _ => fun u hu => by cases hu
  | y :: xs, u :: us, .cons r t, f => fun u' hu => by
    rw [List.all_cons, Bool.and_eq_true] at f
    rcases List.mem_cons.mp hu with rfl | hu
    · rw [eqU_of r f.1]; exact eqAt_V r rx f.1 fx
    · exact mem_eqAt rx fx t f.2 u' hu
noncomputable def inV (x : V) (xs : List V) : Bool := xs.any fun y => eqV y x
noncomputable def rIn (K : PySem.W.Frag) (neg : Bool) : R2 := fun x y H Q => ∃ p xs, y = .ref p ∧ (SqL K H p xs ∨ SqT K H p xs) ∧ flatV x = true ∧ xs.all flatV = true ∧ Q (.bl (if neg then !inV x xs else inV x xs)) H
theorem op_in_seq : OpR X (compareOp .In) (rIn X.K false) := by
  intro pins s σ H x y v u Q I rx ry h
  obtain ⟨p, xs, rfl, hq, fx, fs, q⟩ := h
  cases ry
  rcases hq with hq | hq
  · obtain ⟨its, r, pl, hz⟩ := I.list hq
    refine SeqAt.in_listAt (eqU x) pl.isList (fun w hw => mem_eqAt rx fx r fs w (by simpa using hw)) ⟨.bl _, H, I, rfl, ?_⟩
    rw [show its.toArray.any (eqU x) = its.any (eqU x) by simp, any_eqU r fs]
    exact q
  · obtain ⟨its, r, pl, hz⟩ := I.tuple hq
    refine SeqAt.in_tupleAt (eqU x) pl (fun w hw => mem_eqAt rx fx r fs w (by simpa using hw)) ⟨.bl _, H, I, rfl, ?_⟩
    rw [show its.toArray.any (eqU x) = its.any (eqU x) by simp, any_eqU r fs]
    exact q
theorem call_len_seq : CallR X (.builtin "len") (fun xs H Q => ∃ p ys, xs = [.ref p] ∧ (SqL X.K H p ys ∨ SqT X.K H p ys) ∧ Q (.int ys.length) H) := by
  intro pins s σ H xs us Q I r h
  obtain ⟨p, ys, rfl, hq, q⟩ := h
  obtain ⟨u, rfl, rx⟩ := vals1 r
  cases rx
  have hn := line63
  rcases hq with hq | hq
  · obtain ⟨its, r', pl, hz⟩ := I.list hq
    have hlen := r'.length
    exact Calls.call_len_list pl.isList (by simp only [List.size_toArray] <;> lia) ⟨.int ys.length, H, I.tok _, ⟨s.toks + 1, by rw [List.size_toArray, hlen]⟩, q⟩
  · obtain ⟨its, r', pl, hz⟩ := I.tuple hq
    have hlen := r'.length
    exact len_tuple pl (by simp only [List.size_toArray] <;> lia) ⟨.int ys.length, H, I.tok _, ⟨s.toks + 1, by rw [List.size_toArray, hlen]⟩, q⟩
theorem call_list_of : CallR X (.type "list") (fun xs H Q => ∃ p ys, xs = [.ref p] ∧ (SqL X.K H p ys ∨ SqT X.K H p ys) ∧ ∀ l, H l = none → Q (.ref l) (upd H l (.lst ys))) := by
  intro pins s σ H xs us Q I r h
  obtain ⟨p, ys, rfl, hq, q⟩ := h
  obtain ⟨u, rfl, rx⟩ := vals1 r
  cases rx
  have fin : ∀ (its : List Value), Vals ys its → ys.length ≤ sizeLine → ∀ (h' : Heap) (c' : Nat), (∀ b o', s.heap.get? b = some o' → h'.get? b = some o') →
      h'.get? s.heap.objs.size = some { cls := .type "list", dict := none, data := .seq its.toArray c', slots := #[] } → EP X pins σ Q (.ref s.heap.objs.size) { s with heap := h' } := fun its r' hz h' c' kp e =>
    ⟨.ref s.heap.objs.size, _, I.laid (t' := s.toks) kp (Nat.le_refl _) (show ObjOk X.prog X.w _ h' _ (.lst ys) from ⟨hz, its, c', r', e⟩), rfl, q _ (I.hok.fresh (Nat.le_refl _))⟩
  rcases hq with hq | hq
  · obtain ⟨its, r', pl, hz⟩ := I.list hq
    have hlen := r'.length
    obtain ⟨o, ho, hc, n, hd⟩ := pl.isList
    exact call_list_seq p (.inl rfl) ho hc hd (fun h' c' kp e => fin its r' hz h' c' kp e) (by simp only [List.size_toArray] <;> lia)
  · obtain ⟨its, r', pl, hz⟩ := I.tuple hq
    have hlen := r'.length
    obtain ⟨o, ho, hc, n, hd⟩ := pl
    exact call_list_seq p (.inr rfl) ho hc hd (fun h' c' kp e => fin its r' hz h' c' kp e) (by simp only [List.size_toArray] <;> lia)
noncomputable def tyV (K : PySem.W.Frag) (T : String) (x : V) (H : Hp) : Prop := match x with
  | .str _ => T = "str"
  | .int _ => T = "int"
  | .ref p => (T = "list" ∧ ∃ xs, SqL K H p xs) ∨ (T = "tuple" ∧ ∃ o, K.lookup p = some o ∧ o.cls = .type "tuple" ∧ o.dict = none) ∨
      (T = "dict" ∧ ((∃ kvs, H p = some (.dK kvs)) ∨ ∃ kvs, H p = some (.dT kvs))) ∨ (T = "set" ∧ ∃ S n, H p = some (.set S n))
  | _ => False
theorem tyV_is {pins : List (Addr × Obj)} {σ : St} {H : Hp} {s : Shared} {T : String} {x : V} {v : Value} (I : Inv X pins σ H s) (r : RelV x v) (ty : tyV X.K T x H) :
    s.TypeIs v T ∧ ∀ a, v = .ref a → ∃ ob, s.heap.get? a = some ob ∧ ob.dict = none := by
  cases x with
  | str z =>
    obtain ⟨t, rfl⟩ := r
    cases (show T = "str" from ty)
    exact ⟨typeIs_str s z t, fun _ e => nomatch e⟩
  | int i =>
    obtain ⟨t, rfl⟩ := r
    cases (show T = "int" from ty)
    exact ⟨typeIs_int s i t, fun _ e => nomatch e⟩
  | ref p =>
    cases r
    rcases ty with ⟨rfl, xs, hq⟩ | ⟨rfl, o, hk, hc, hd⟩ | ⟨rfl, hk⟩ | ⟨rfl, S, n, hk⟩
    · obtain ⟨its, _, pl, _⟩ := I.list hq
      refine ⟨pl.isList.typeIs, fun a e => ?_⟩
      cases e
      obtain ⟨o, n, e, c, hd, _⟩ := pl
      exact ⟨o, e, hd⟩
    · refine ⟨⟨o, I.kIn p o hk, hc⟩, fun a e => ?_⟩
      cases e
      exact ⟨o, I.kIn _ o hk, hd⟩
    · have z : ∃ o, s.heap.get? p = some o ∧ o.ExactDict := by
        rcases hk with ⟨kvs, hk⟩ | ⟨kvs, hk⟩
        · obtain ⟨_, _, _, _, o, _, _, e, ex, _⟩ := I.hok p _ hk
          exact ⟨o, e, ex⟩
        · obtain ⟨_, _, _, _, o, _, _, e, ex, _⟩ := I.hok p _ hk
          exact ⟨o, e, ex⟩
      obtain ⟨o, e, ex⟩ := z
      refine ⟨⟨o, e, ex.1⟩, fun a e2 => ?_⟩
      cases e2
      exact ⟨o, e, ex.2.1⟩
    · obtain ⟨o, _, _, _, e, ex, _⟩ := I.hok p _ hk
      refine ⟨⟨o, e, ex.1⟩, fun a e2 => ?_⟩
      cases e2
      exact ⟨o, e, ex.2.1⟩
  | _ => exact False.elim ty
noncomputable def tBM (K : PySem.W.Frag) (T : String) (r : V → List V → Hp → VK → Prop) (to : TE) (t : TA) : TE := fun σ H Q => to σ H fun x H1 => tyV K T x H1 ∧ t σ H1 fun xs H2 => r x xs H2 Q
variable {o e : Expr} {es : List Expr} {to : TE} {t : TA} {name : Str} {apos cpos : Pos} {T id : String} {r : V → List V → Hp → VK → Prop}
theorem pe_bm (pa : PlainAttrs T) (slot : Slot T name id) (hty : typeOf (.builtin id) = pure (.type "method_descriptor")) (hm : MtR X id r) (ho : PE X o to) (ha : PA X (e :: es) t)
    (hbase : attributeBase o name X.env (eval o X.env) = eval o X.env := by rfl)
    (hfew : ((backTo cpos (starEach (e :: es) X.env)).all (fun x => !x.1) && (backToKw cpos (keywordEach [] X.env)).all (fun x => x.1.isSome)
      && decide ((e :: es).length + ([] : List Keyword).length + (if ([] : List Keyword).isEmpty then 0 else 1) < 30)) = true := by rfl)
    (hline : (apos.endLine == cpos.line) = true := by rfl) (hs : starEach (e :: es) X.env = (false, eval e X.env) :: starEach es X.env := by rfl) (hplain : (backTo cpos (starEach es X.env)).any (·.1) = false := by rfl) :
    PE X (.Call (.Attribute o name apos) (e :: es) [] cpos) (tBM X.K T r to t) := by
  intro pins s σ H Q I h
  refine wpAny_Call_method_late hbase hfew hline rfl (thn (ho pins s σ H _ I h) fun v s1 ⟨x, H1, I1, r1, ty, q1⟩ => ?_)
  obtain ⟨h1, h2⟩ := tyV_is I1 r1 ty
  refine ⟨T, id, pa, slot, hty, h1, h2, ?_⟩
  have hA := ha cpos pins s1 σ H1 _ I1 q1
  rw [hs] at hA ⊢
  refine Calls.callWith_builtin (by show (false || (backTo cpos (starEach es X.env)).any (·.1)) = false; rw [hplain] <;> rfl) (Calls.evalArgs_plain ?_)
  exact thn hA fun us s2 ⟨vs, H2, I2, r2, q2⟩ => hm pins s2 σ H2 x vs v us Q I2 r1 r2 q2
/- xs.append(e), list.index on a module's tuple .. are MtR facts of 06m -/
end
end L2
namespace L2
open PySem PySem.Spec PyProof.Rows
noncomputable def MtM (X : Cx) (id : String) (r : V → List V → Hp → VK → Prop) : Prop :=
  ∀ (pins : List (Addr × Obj)) (s : Shared) (σ : St) (H : Hp) (x : V) (xs : List V) (v : Value) (us : List Value) (Q : VK), Inv X pins σ H s → RelV x v → Vals xs us → r x xs H Q →
    wpAny (model X.prog X.w) X.A (call (.builtin id) (v :: us)) (EP X pins σ Q) X.xe s
theorem Vals.one : ∀ {x : V} {us : List Value}, Vals [x] us → ∃ u, us = [u] ∧ RelV x u
  | _, _, .cons r .nil => ⟨_, rfl, r⟩
section
variable {X : Cx} {pins : List (Addr × Obj)} {σ : St} {H : Hp} {s : Shared} {l b : Addr} {xs ys zs : List V}
theorem Inv.lset {its its' : List Value} {n : Nat} {f : Array Value → Array Value} {t' : Nat} (I : Inv X pins σ H s) (hH : H l = some (.lst xs))
    (e : s.heap.get? l = some { cls := .type "list", data := .seq its.toArray n }) (hf : f its.toArray = its'.toArray) (hv : Vals ys its') (hz : ys.length ≤ sizeLine) :
    Inv X pins σ (upd H l (.lst ys)) { s with heap := s.heap.update l (Obj.mapSeq f), toks := t' } := by
  have q := PySem.IsL.update e f
  rw [hf] at q
  refine I.write (x := l) (e := l) (by rw [hH]; exact trivial) (.inl rfl) (fun b' u hb hu => (Heap.get?_update_other s.heap (Obj.mapSeq f) (Ne.symm hb)).trans hu) ⟨_, q⟩ ?_
  exact ⟨hz, its', _, hv, q⟩
theorem Inv.lnew {its : List Value} {t' : Nat} (I : Inv X pins σ H s) (hv : Vals ys its) (hz : ys.length ≤ sizeLine) :
    Inv X pins σ (upd H s.heap.objs.size (.lst ys)) { s with heap := s.heap.push { cls := .type "list", data := .seq its.toArray }, toks := t' } :=
  I.laid (fun _ _ q => Heap.get?_push_of_some _ q) (Nat.le_refl _) ⟨hz, its, 0, hv, Heap.get?_push_size _ rfl⟩
theorem Inv.fresh (I : Inv X pins σ H s) : H s.heap.objs.size = none := I.hok.fresh (Nat.le_refl _)
theorem Inv.lstM (I : Inv X pins σ H s) (hH : H l = some (.lst xs)) : xs.length ≤ sizeLine ∧ ∃ (its : List Value) (n : Nat), Vals xs its ∧ xs.length = its.length ∧ s.heap.get? l = some { cls := .type "list", data := .seq its.toArray n } := by
  obtain ⟨z, its, n, r, e⟩ := I.hok l _ hH
  exact ⟨z, its, n, r, r.length, e⟩
end
section
variable {X : Cx}
noncomputable def rAppend : V → List V → Hp → VK → Prop := fun x vs H Q => ∃ l xs y, x = .ref l ∧ vs = [y] ∧ H l = some (.lst xs) ∧ xs.length < sizeLine ∧ Q .non (upd H l (.lst (xs ++ [y])))
theorem mt_append : MtM X "list.append" rAppend := by
  intro pins s σ H x vs v us Q I rx rv h
  obtain ⟨l, xs, y, rfl, rfl, hH, hz, q⟩ := h
  cases rx
  obtain ⟨u, rfl, ru⟩ := rv.one
  obtain ⟨z, its, n, r, hl, e⟩ := I.lstM hH
  refine call_meets F.slot_list_append ⟨_, e, rfl⟩ F.entry_list_append (F.args_list_append_2 _ _) (PySem.list_append l its.toArray n u (by rw [List.size_toArray]; lia)) ⟨e, ?_⟩
  refine ⟨.non, _, I.lset (its' := its ++ [u]) hH e (by simp) (r.append (.cons ru .nil)) ?_, rfl, q⟩
  rw [List.length_append, List.length_singleton]
  lia
noncomputable def rCat : R2 := fun x y H Q => ∃ l b xs zs, x = .ref l ∧ y = .ref b ∧ H l = some (.lst xs) ∧ H b = some (.lst zs) ∧ xs.length + zs.length ≤ sizeLine ∧ ∀ p, H p = none → Q (.ref p) (upd H p (.lst (xs ++ zs)))
theorem op_cat : OpR X (binaryOp .Add) rCat := by
  intro pins s σ H x y v u Q I rx ry h
  obtain ⟨l, b, xs, zs, rfl, rfl, hH, hB, hz, q⟩ := h
  cases rx
  cases ry
  obtain ⟨z, its, n, r, hl, e⟩ := I.lstM hH
  obtain ⟨z2, its2, n2, r2, hl2, e2⟩ := I.lstM hB
  refine PySem.P.add_list e e2 ?_ (by rw [List.size_toArray, List.size_toArray]; lia)
  have ea : its.toArray ++ its2.toArray = (its ++ its2).toArray := by simp
  rw [ea]
  exact ⟨.ref _, _, I.lnew (t' := s.toks) (r.append r2) (by rw [List.length_append]; lia), rfl, q _ I.fresh⟩
end
section
variable {prog : Program} {w : World} {A : Around} {E : Value → Shared → Prop} {s : Shared}
end
section
variable {X : Cx}
end
end L2
namespace Att
open PySem PySem.W PySem.Calls PyProof.Rows
theorem ints_of_wellAll {P : Params} {h : Heap} : ∀ (ns : List Int) (vs : List Value), WellAll P h vs (ns.map WData.int) → IntsAre vs ns := by
  intro ns
  induction ns with
  | nil =>
    intro vs w
    rw [List.map_nil] at w
    cases w
    exact .nil
  | cons n ns ih =>
    intro vs w
    rw [List.map_cons] at w
    cases w with
    | cons a b =>
      cases a
      exact .cons _ _ (ih _ b)
theorem script_of {l : OpenLaw} {n : Nat} (hn : l.most = some n) {P : Params} {h : Heap} {args : List WData} {vals : List Value}
    (hpre : l.row.toRowW.claim.pre args = true) (hwl : WellAll P h vals args) :
    ∃ a vs ns, vals = [Value.ref a] ∧ args = [WData.list (ns.map WData.int)] ∧ h.get? a = some { cls := .type "list", data := .seq vs.toArray } ∧ IntsAre vs ns ∧ ns.length ≤ n := by
  have hsh : WShape.hasAll [] args [.list .int] = true := (pre_splitW hpre).1
  have hc : l.pre.holds [] { args := args } = true := (pre_splitW hpre).2
  obtain ⟨d, r, rfl, h1, h2⟩ := hasAllW_cons hsh
  obtain rfl := hasAllW_nil h2
  obtain ⟨xs, rfl, h3⟩ := hasW_list h1
  obtain ⟨ns, rfl⟩ := items_int h3
  have hlen : ns.length ≤ n := by
    unfold OpenLaw.pre at hc
    have h4 : (WTm.not (.lt (.lit (.int (n : Int))) (.len (.arg 0)))).holds [] { args := [.list (ns.map .int)] } = true := by
      have h4 := (holds_andW hc).1
      rw [hn] at h4
      exact h4
    have h5 := condW_of h4 (w_not (w_lt w_lit (w_len_list (w_arg rfl))))
    rw [List.length_map] at h5
    refine Nat.le_of_not_lt fun q => ?_
    have q' : (n : Int) < ((ns.length : Nat) : Int) := by lia
    first
      | (rw [decide_eq_true q'] at h5; exact absurd h5 (by decide))
      | (simp at h5; lia)
  cases hwl with
  | cons w1 w2 =>
    cases w2
    cases w1 with
    | list ho hall => exact ⟨_, _, ns, rfl, rfl, ho, ints_of_wellAll ns _ hall, hlen⟩
theorem post_true (l : OpenLaw) (args : List WData) : l.row.toRowW.claim.post args (.bool true) args = true :=
  postW_of (r := l.row.toRowW) (X := (true == true))
    (show WShape.has [] (.bool true) .bool = true by first | rfl | decide | simp [WShape.has, WShape.arms, WShape.armsAll])
    (show (WTm.eq .res (.lit (.bool true))).value [] { args := args, res := some (.bool true), after := args } = some (.bool (true == true)) from w_eq_bool (w_res rfl) w_lit) rfl
theorem attach_call {l : OpenLaw} {n : Nat} {q : Program} {loose : List Str} {XP : (Str → Option Value) → Heap → Prop} {YP : World → Heap → Prop} {d : DefRec}
    (hn : l.most = some n) (hdf : d.params.defaults = [])
    (call : ∀ (w : World) (s₀ s₁ : Shared) (mg mb : Str → Option Value) (fa : Addr) (o : Obj) (pm cd doc : Value) (a : Addr) (vs : List Value) (ns : List Int),
      Ground q loose [] XP w s₀ mg mb s₁.heap → YP w s₁.heap →
      s₁.heap.get? fa = some o → o.data = .func (docDef d.name d.params d.body d.scope pm cd doc) → s₁.heap.CodeRec cd d.name → mg d.name = some (.ref fa) →
      s₁.heap.get? a = some { cls := .type "list", data := .seq vs.toArray } → IntsAre vs ns → ns.length ≤ n → s₁.gens = #[] →
      codeAny (model l.prog w) callerA (.call (.ref fa) ⟨[.ref a], []⟩) (fun r s' => r = .ok (.ret (.bool true)) ∧ OldK s₁.heap s'.heap ∧ s'.os = s₁.os ∧ AllBare s'.gens) s₁) :
    WalkO q loose XP YP l.row.toRowW d [] (fun f vs => PySem.call f vs) := by
  intro w s₀ s₁ mg mb G Y fa o pm cd doc dV kV ho hd hcd hD hmg hg args vals as hpre hlay hrd hwl hlo
  obtain rfl : dV = .none := Dflts.none hD hdf
  obtain rfl : kV = .none := Dflts.noKw hD
  obtain ⟨a, vs, ns, rfl, rfl, hobj, hints, hlen⟩ := script_of hn hpre hwl
  refine enter_call (codeAny_mono (call w s₀ s₁ mg mb fa o pm cd doc a vs ns G Y ho (fd_plain hd) hcd hmg hobj hints hlen hg) fun r s' hq => ?_)
  obtain ⟨rfl, h2, h3, h4⟩ := hq
  exact ⟨.inl ⟨.bool true, .bool true, [], rfl, fun _ => rfl, .bool true, post_true l _, fun _ => ⟨List.Pairwise.nil, fun _ hm => (nomatch hm)⟩⟩, h2, h3, h4⟩
section
variable {prog : Program} {w : World} {A : Around} {E : Value → Shared → Prop} {s : Shared} {K : Frag}
end
end Att
namespace L2
open PySem PySem.Spec PyProof.Rows
theorem vals_ints : ∀ {vs : List Value} {ns : List Int}, IntsAre vs ns → Vals (ns.map V.int) vs
  | _, _, .nil => .nil
  | _, _, .cons n t h => .cons ⟨t, rfl⟩ (vals_ints h)
noncomputable def Only (H : Hp) : Prop := ∀ b, H b = none ∨ ∃ o xs, H b = some (.frz o (.lst xs))
theorem law_call {P : Program} {w : World} {K : PySem.W.Frag} {mg mb : Str → Option Value} {CX : CXT} {k : Nat} {fa a : Addr} {fd : FuncData} {x : Str} {sp : Sp} {s₁ : Shared} {vs : List Value} {ns : List Int}
    (KX : K.In s₁.heap) (hns : s₁.heap.Ns mainGlobals mg) (hb : s₁.heap.Ns builtinsNs mb) (hbb : ∀ x : Str, x ≠ "__name__" → mb x = bootBuiltins x) (hlim : s₁.heap.NoLimit) (hg : s₁.gens = #[])
    (ha : s₁.heap.get? a = some { cls := .type "list", data := .seq vs.toArray }) (hi : IntsAre vs ns) (hl : ns.length ≤ sizeLine) (hr : Room k callerA)
    (F : ∀ base : Heap, K.In base → base.Ns mainGlobals mg → FnOk P w K mg base CX k fa fd [x] sp) (hbind : ∀ (s : Shared) (u : Value), BindsTo s fd ⟨[u], []⟩ [(x, u)])
    (hsp : ∀ H : Hp, Only H → SqL K H a (ns.map V.int) → sp [.ref a] H (fun v _ => v = .bl true) fun _ _ _ => False)
    (hCX : ∀ H e s', CX [] H s₁ (fun _ _ _ => False) e s' → False) :
    codeAny (model P w) callerA (.call (.ref fa) ⟨[.ref a], []⟩) (fun r s' => r = .ok (.ret (.bool true)) ∧ OldK s₁.heap s'.heap ∧ s'.os = s₁.os ∧ AllBare s'.gens) s₁ := by
  have rv := vals_ints hi
  have lenV := hi.length
  have core : ∀ H : Hp, Only H → SqL K H a (ns.map V.int) → HOk P w H s₁.heap → (∀ b, H b ≠ none → b = a) → (H a ≠ none → K.lookup a = none) →
      codeAny (model P w) callerA (.call (.ref fa) ⟨[.ref a], []⟩) (fun r s' => r = .ok (.ret (.bool true)) ∧ OldK s₁.heap s'.heap ∧ s'.os = s₁.os ∧ AllBare s'.gens) s₁ := by
    intro H hO hS hok hA hK
    have base_of : ∀ {b : Addr} {o : Obj}, s₁.heap.get? b = some o → H b = none → (hidT s₁.heap H).get? b = some o := fun e n => hidT_get e n
    have noA : ∀ {b : Addr} {o : Obj} {es : Array DictEntry} {ep : Nat}, s₁.heap.get? b = some o → o.data = .dict es ep → H b = none := fun {b o es ep} e d => by
      cases q : H b with
      | none => rfl
      | some u =>
        have e' : b = a := hA b (by rw [q]; simp)
        subst e'
        rw [ha] at e; cases e
        have d' : Data.seq vs.toArray _ = Data.dict es ep := d
        cases d'
    have nsK : ∀ {b : Addr} {m : Str → Option Value}, s₁.heap.Ns b m → (hidT s₁.heap H).Ns b m := fun {b m} ⟨o, es, ep, e, d, r⟩ => ⟨o, es, ep, base_of e (noA e d), d, r⟩
    have hKb : K.In (hidT s₁.heap H) := fun b o e => base_of (KX b o e) (by
      cases q : H b with
      | none => rfl
      | some u =>
        have e' : b = a := hA b (by rw [q]; simp)
        subst e'
        rw [hK (by rw [q]; simp)] at e; cases e)
    have hM : Mod K mg (hidT s₁.heap H) := ⟨hKb, nsK hns, ⟨mb, nsK hb, hbb⟩, let ⟨mc, h1, h2⟩ := hlim; ⟨mc, nsK h1, h2⟩⟩
    have e0 : Env0 P w K mg (hidT s₁.heap H) callerA [] s₁ H := ⟨rfl, hM, fun b o e => of_hidT e, Nat.le_of_eq (hidT_size _ _), trivial, fun b hb => absurd (show b ∈ ([] : List Addr) from hb) (by simp), hok, .of_eq hg⟩
    refine codeAny_mono ((F _ hKb (nsK hns)).run callerA [] s₁ H ⟨[.ref a], []⟩ [.ref a] [.ref a] _ _ hr e0 (hbind s₁ (.ref a)) (.cons rfl .nil) (hsp H hO hS)) fun r s' h => ?_
    cases r with
    | error e => exact (hCX H e s' h).elim
    | ok fl =>
      cases fl with
      | next => exact False.elim h
      | brk => exact False.elim h
      | cont => exact False.elim h
      | ret u =>
        obtain ⟨v, H', os, bare, un, hok', r', q⟩ := h
        have q' : v = .bl true := q
        subst q'
        obtain rfl : u = Value.bool true := r'
        refine ⟨rfl, OldK.of_keep fun b o e => ?_, os, bare⟩
        cases q : H b with
        | none => exact un.keep b o e q (by intro z; exact absurd (show b ∈ ([] : List Addr) from z) (by simp)) (by simp)
        | some u =>
          rcases hO b with z | ⟨ob, xs, z⟩
          · rw [q] at z; cases z
          · have z2 := un.frzs b ob _ z
            obtain ⟨e1, _⟩ := hok b _ z
            obtain ⟨e2, _⟩ := hok' b _ z2
            rw [e] at e1; cases e1
            exact e2
  cases hk : K.lookup a with
  | some o =>
    have e := KX a o hk
    rw [ha] at e
    cases e
    refine core (fun _ => none) (fun _ => .inl rfl) (.inr ⟨_, vs.toArray, _, hk, rfl, rfl, rfl, by rw [List.size_toArray, lenV]; exact hl, by simpa using rv⟩) (fun b u z => by have z' : (none : Option HO) = some u := z; cases z') (fun b z => absurd rfl z) fun z => absurd rfl z
  | none =>
    refine core (fun b => if b = a then some (.frz { cls := .type "list", data := .seq vs.toArray } (.lst (ns.map V.int))) else none) (fun b => ?_) (.inl (.inr ⟨{ cls := .type "list", data := .seq vs.toArray }, if_pos rfl⟩)) (fun b u z => ?_) (fun b z => ?_) fun _ => hk
    · by_cases hb : b = a
      · exact .inr ⟨_, _, if_pos hb⟩
      · exact .inl (if_neg hb)
    · by_cases hb : b = a
      · have z' := (if_pos hb).symm.trans z
        cases z'
        subst hb
        exact ⟨ha, by rw [List.length_map]; exact hl, vs, _, rv, ha⟩
      · have z' := (if_neg hb).symm.trans z
        cases z'
    · by_cases hb : b = a
      · exact hb
      · exact absurd (if_neg hb) z
end L2
namespace L2
open PySem PySem.Spec PyProof.Rows
theorem walk_of {l : PySem.W.OpenLaw} {n k : Nat} {q : Program} {loose : List Str} {XP : (Str → Option Value) → Heap → Prop} {YP : World → Heap → Prop} {d : DefRec} {K : Params → PySem.W.Frag} {CX : World → CXT} {sp : World → Sp} {x : Str}
    (hn : l.most = some n) (hn2 : n ≤ sizeLine) (hdf : d.params.defaults = []) (hr : Room k callerA)
    (hY : ∀ (w : World) (h : Heap), YP w h → (K w.params).In h)
    (F : ∀ (w : World) (mg : Str → Option Value) (fa : Addr) (h : Heap), (K w.params).In h → h.Ns mainGlobals mg → mg d.name = some (.ref fa) →
      ∃ fd : FuncData, (∀ (s : Shared) (u : Value), BindsTo s fd ⟨[u], []⟩ [(x, u)]) ∧
        ∀ base : Heap, (K w.params).In base → base.Ns mainGlobals mg → FnOk l.prog w (K w.params) mg base (CX w) k fa fd [x] (sp w))
    (hsp : ∀ (w : World) (H : Hp) (a : Addr) (ns : List Int), ns.length ≤ n → Only H → SqL (K w.params) H a (ns.map V.int) → sp w [.ref a] H (fun v _ => v = .bl true) fun _ _ _ => False)
    (hCX : ∀ (w : World) (H : Hp) (s : Shared) (e : Value) (s' : Shared), CX w [] H s (fun _ _ _ => False) e s' → False) :
    PySem.W.WalkO q loose XP YP l.row.toRowW d [] (fun f vs => PySem.call f vs) := by
  refine Att.attach_call hn hdf fun w s₀ s₁ mg mb fa o pm cd doc a vs ns G Y ho hd hcd hmg hobj hints hlen hg => ?_
  have KX := hY w _ Y
  obtain ⟨fd, hb, hF⟩ := F w mg fa _ KX G.T.g hmg
  exact law_call KX G.T.g G.T.b G.T.builtins G.T.nolimit hg hobj hints (Nat.le_trans hlen hn2) hr hF hb (fun H hO hS => hsp w H a ns hlen hO hS) fun H e s' => hCX w H s₁ e s'
end L2
/- THE LAST THEOREM (shape; LID, My.* are yours):
   My.Adr: a structure of the addresses that your layer names (classes, functions); My.Txt K t: a structure (Prop) of the equations over K;
   My.txt_mk : {K} {implicit addresses ..} (e1 : nsIn K mainGlobals "law" = some (some (.ref f))) (e2 : K.lookup f = some ⟨oc, od, .func (fnOf "law" "law" params body scope dV kV doc pm an cdv ct), sl⟩) (e3 : codeIn K cdv "law" = true) .. : ∃ t, My.Txt K t
(the tactic k_is has no namespace: write k_is) -/
namespace L2
open PySem PySem.Spec PyProof.Rows
noncomputable def inClass (s : Stmt) (j : Nat) : Stmt := match s with
  | .ClassDef _ _ _ body _ _ _ _ _ _ _ => body.getD j (.Pass ⟨0, 0, 0, 0⟩)
  | _ => .Pass ⟨0, 0, 0, 0⟩
noncomputable def defArgs (s : Stmt) : Arguments := match s with
  | .FunctionDef _ a _ _ _ _ _ _ _ _ => a
  | _ => { posonlyargs := [], args := [], vararg := none, kwonlyargs := [], kw_defaults := [], kwarg := none, defaults := [] }
noncomputable def defBody (s : Stmt) : List Stmt := match s with
  | .FunctionDef _ _ b _ _ _ _ _ _ _ => b
  | _ => []
noncomputable def defScope (s : Stmt) : Scope := match s with
  | .FunctionDef _ _ _ _ _ _ sc _ _ _ => sc
  | _ => { kind := .function, names := [], isGenerator := false, isCoroutine := false }
abbrev CX0 : CXT := fun _ _ _ _ _ _ => False
abbrev E0 : XK := fun _ _ _ => False
theorem pass0 {X : Cx} : Passes CX0 X E0 := fun _ _ _ _ _ _ _ h => h.elim
structure Fun (K : PySem.W.Frag) (x qual : Str) (st : Stmt) (f : Addr) (fd : FuncData) : Prop where
  ex : ∃ (oc : Value) (od : Option Addr) (kV doc pm : Value) (an : Option Addr) (cdv ct : Value) (osl : Array (Option Value)),
    fd = PySem.W.fnOf x qual (defArgs st) (defBody st) (defScope st) .none kV doc pm an cdv ct ∧ K.lookup f = some ⟨oc, od, .func fd, osl⟩ ∧ PySem.W.codeIn K cdv qual = true
  kp : PySem.W.keepIn K (.ref f) = true
section
variable {P : Program} {w : World} {K : PySem.W.Frag} {mg : Str → Option Value} {base : Heap}
theorem Fun.ok {x qual : Str} {st : Stmt} {f : Addr} {fd : FuncData} {N ps : List Str} {k : Nat} {sp : Sp} (F : Fun K x qual st f fd) (S : FnScope N ps (defScope st)) (len : ∀ vs H Q E, sp vs H Q E → vs.length = ps.length)
    (hbody : ∀ (cdv : Value) (A : Around) (outer : List Env) (s : Shared) (H : Hp) (vs : List V) (Q : VK) (E : XK), Room k (A.deeper (envOfC qual (defScope st) s.heap.objs.size f cdv)) → sp vs H Q E →
      ∃ t, PSs (cxOf CX0 P w K mg base N qual (defScope st) f cdv A outer s H E).nox (defBody st) t ∧ t { nx := fun _ H' => Q .non H', rt := Q } (start N vs) H) : FnOk P w K mg base CX0 (k + 1) f fd ps sp := by
  obtain ⟨oc, od, kV, doc, pm, an, cdv, ct, osl, rfl, lk, hcd⟩ := F.ex
  refine fn_of lk hcd S len fun A outer s H vs Q E hr hsp => ?_
  obtain ⟨t, h, q⟩ := hbody cdv A outer s H vs Q E hr hsp
  exact ⟨t, h.nox, q⟩
theorem Fun.binds {x qual : Str} {st : Stmt} {f : Addr} {fd : FuncData} {ps : List Str} (F : Fun K x qual st f fd)
    (h : ∀ (kV doc pm : Value) (an : Option Addr) (cdv ct : Value) (us : List Value), us.length = ps.length → bindArgs (PySem.W.fnOf x qual (defArgs st) (defBody st) (defScope st) .none kV doc pm an cdv ct) ⟨us, []⟩ = pure (ps.zip us)) : Binds K fd ps [] := by
  obtain ⟨oc, od, kV, doc, pm, an, cdv, ct, osl, rfl, lk, hcd⟩ := F.ex
  exact .all (h kV doc pm an cdv ct)
theorem fun_mk {x qual : Str} {st : Stmt} {f : Addr} {oc : Value} {od an : Option Addr} {osl : Array (Option Value)} {kV doc pm cdv ct : Value} (l : K.lookup f = some ⟨oc, od, .func (PySem.W.fnOf x qual (defArgs st) (defBody st) (defScope st) .none kV doc pm an cdv ct), osl⟩)
    (c : PySem.W.codeIn K cdv qual = true) (k : PySem.W.keepIn K (.ref f) = true) : Fun K x qual st f (PySem.W.fnOf x qual (defArgs st) (defBody st) (defScope st) .none kV doc pm an cdv ct) := ⟨⟨oc, od, kV, doc, pm, an, cdv, ct, osl, rfl, l, c⟩, k⟩
end
theorem hu_of {A : Around} {k : Nat} (hr : Room k A) : A.units + 1 < cLine := Nat.lt_of_le_of_lt (Nat.add_le_add_left (by decide : 1 ≤ 64) _) hr.units
theorem small1000 {n : Nat} (h : n ≤ 1000) : n < sizeLine := Nat.lt_of_le_of_lt h (by decide)
section
variable {X : Cx}
theorem pv (i : Nat) {x : Str} {pos : Pos} (hN : X.N[i]? = some x := by rfl) (hv : Vis X.env.scope x := by first | exact Or.inl rfl | exact Or.inr (Or.inl rfl) | exact Or.inr (Or.inr rfl)) (hd : (x == ("__debug__" : Str)) = false := by decide)
    (hcd : (x == ("__classdict__" : Str)) = false := by decide) : PE X (.Name x pos) (tVar i) := pe_var hN hv hd hcd
end
noncomputable def Same (H H' : Hp) : Prop := ∀ b o, H b = some o → H' b = some o
theorem Same.refl (H : Hp) : Same H H := fun _ _ h => h
theorem Same.trans {H H1 H2 : Hp} (a : Same H H1) (b : Same H1 H2) : Same H H2 := fun c o h => b c o (a c o h)
theorem Same.seq {K : PySem.W.Frag} {H H' : Hp} {a : Addr} {xs : List V} (e : Same H H') (h : SqL K H a xs) : SqL K H' a xs := by
  rcases h with (h | ⟨o, h⟩) | h
  · exact .inl (.inl (e _ _ h))
  · exact .inl (.inr ⟨o, e _ _ h⟩)
  · exact .inr h
end L2
set_option maxHeartbeats 16000000
namespace L2
open PySem PySem.Spec PyProof.Rows
noncomputable def blk (X : Cx) (N : List Str) (s : Shared) (H : Hp) (sc : Scope) (cl : List (Str × Addr)) (C : Addr) (ex : List Addr) : Cx where
  prog := X.prog
  w := X.w
  K := X.K
  mg := X.mg
  base := X.base
  A := X.A
  N := N
  s₀ := s
  H₀ := H
  env := compEnvC sc cl C X.env
  outer := X.stack
  stack := X.stack
  ex := ex
  fn := fun _ => false
  calm := X.calm
  pn := []
  xe := fun _ _ => False
section
variable {prog : Program} {w : World} {A : Around} {R : Result → Shared → Prop} {s : Shared}
theorem compLoop_go {elt target iter : Expr} {ifs : List Expr} {scope : Scope} {pos : Pos} {it acc : Value} {env : Env} (I : Nat → Shared → Prop)
    (turn : ∀ n s, I n s → wpAny (model prog w) A (pyNext it) (fun r s₁ => match r with
      | none => R (.ok .next) s₁
      | some v => wpAny (model prog w) A (letOwnedTupleGo target it v) (fun _ s₁' => wpAny (model prog w) A (assign target env v) (fun _ s₂ =>
          wpAny (model prog w) A (forIn ifs true fun c r => if r = true then do let ok ← isTrue c env (eval c env); pure (ForInStep.yield ok) else pure (ForInStep.yield r)) (fun ok s₃ =>
            if ok = true then wpAny (model prog w) A (eval elt env) (fun x s₄ =>
              wpAny (model prog w) A (call (.builtin "list.append") [acc, x]) (fun _ s₅ => ∃ m, m < n ∧ I m s₅) (fun _ _ => False) s₄) (fun _ _ => False) s₃
            else ∃ m, m < n ∧ I m s₃) (fun _ _ => False) s₂) (fun _ _ => False) s₁') (fun _ _ => False) s₁) (fun _ _ => False) s)
    (n : Nat) (h : I n s) :
    codeAny (model prog w) A (.compLoop (.ListComp elt [⟨target, iter, ifs, 0⟩] scope pos) 0 it acc env) R s := by
  refine codeAny_loop rfl I (fun n s hI => ?_) n h
  show wpAny _ A ((compTurn (.ListComp elt [⟨target, iter, ifs, 0⟩] scope pos) 0 it acc env).onRaise (fun x => do noteFrame x env; theTreesLotGoes x)) _ _ s
  refine wpAny_noted ?_
  rw [compTurn_list]
  refine wpAny_bind (wpAny_standAt (wpAny_bind (wpAny_mono (turn n s hI) (fun r s₁ h₁ => ?_) fun _ _ h' => h'.elim)))
  cases r with
  | none => exact wpAny_pure h₁
  | some v =>
    refine wpAny_bind (wpAny_mono h₁ (fun _ s₁' h₁' => ?_) fun _ _ h' => h'.elim)
    refine wpAny_bind (wpAny_mono h₁' (fun _ s₂ h₂ => wpAny_bind (wpAny_mono h₂ (fun ok s₃ h₃ => ?_) fun _ _ h' => h'.elim)) fun _ _ h' => h'.elim)
    cases ok with
    | false => exact wpAny_pure ⟨rfl, h₃⟩
    | true =>
      exact wpAny_bind (wpAny_bind (wpAny_mono h₃ (fun x s₄ h₄ => wpAny_bind (wpAny_mono h₄ (fun _ s₅ h₅ => wpAny_pure (wpAny_pure ⟨rfl, h₅⟩)) fun _ _ h' => h'.elim)) fun _ _ h' => h'.elim))
end
noncomputable def PTs (X : Cx) (ifs : List Expr) (t : TT) : Prop :=
  ∀ (pins : List (Addr × Obj)) (s : Shared) (σ : St) (H : Hp) (Q : Bool → Hp → Prop), Inv X pins σ H s → t σ H Q →
    wpAny (model X.prog X.w) X.A (forIn ifs true fun c r => if r = true then do let ok ← isTrue c X.env (eval c X.env); pure (ForInStep.yield ok) else pure (ForInStep.yield r)) (TP X pins σ Q) X.xe s
noncomputable def tYes : TT := fun _ H Q => Q true H
theorem pts_nil {X : Cx} : PTs X [] tYes := fun _ _ _ H _ I h => wpAny_tests_nil ⟨H, I, h⟩
theorem pts_one {X : Cx} {c : Expr} {t : TT} (h : PT X c t) : PTs X [c] t := fun pins s σ H Q I q => wpAny_tests_one (h pins s σ H Q I q)
noncomputable def frees (σ : St) (ix : List Nat) : St := ix.map fun j => (σ[j]?).getD none
noncomputable def CompGo (J : It) (H1 : Hp) (σ : St) (ix : List Nat) (tc : TT) (te : TE) (Q : VK) : Prop := ∀ D, H1 D = none →
  ∃ W : Nat → Nat → Hp → Prop, (∃ m, W 0 m (upd H1 D (.lst []))) ∧ ∀ i m H, W i m H →
    (J.stop i H ∧ Q (.ref D) H) ∨ (J.go i H ∧ ∀ x H', J.yld i H x H' → tc (some x :: frees σ ix) H' fun b H2 =>
      if b = true then te (some x :: frees σ ix) H2 fun y H3 => ∃ ys, H3 D = some (.lst ys) ∧ ys.length < sizeLine ∧ ∃ m', m' < m ∧ W (i + 1) m' (upd H3 D (.lst (ys ++ [y])))
      else ∃ m', m' < m ∧ W (i + 1) m' H2)
noncomputable def tComp (ix : List Nat) (wi : TI) (tc : TT) (te : TE) : TE := fun σ H Q => wi σ H fun J H1 => CompGo J H1 σ ix tc te Q
section
variable {X : Cx}
theorem inv_blk {pins : List (Addr × Obj)} {σ : St} {H : Hp} {s : Shared} {N : List Str} {x : Str} {sc : Scope} {cl : List (Str × Addr)} {fp : List Addr} {ix : List Nat} {h1 : Heap} {m : Str → Option Value} {tk : Nat}
    (I : Inv X pins σ H s) (hkind : sc.kind = .function) (hN : N = x :: ix.map fun j => (X.N[j]?).getD "")
    (hsub : ∀ y c, cl.lookup y = some c → X.env.cells.lookup y = some c) (hhas : ∀ y, ((relabel sc X.env).names.lookup y = some .cell ∨ (relabel sc X.env).names.lookup y = some .free) → ∃ c, cl.lookup y = some c)
    (hix : ∀ j ∈ ix, ∃ y, X.N[j]? = some y ∧ X.env.kindOf y = some .cell ∧ (relabel sc X.env).names.lookup y = some .cell)
    (hfp : ∀ b ∈ fp, FpOk X pins H b) (hlt : ∀ b ∈ fp, b < s.heap.objs.size)
    (hns : h1.Ns s.heap.objs.size m) (hk : ∀ b o, s.heap.get? b = some o → h1.get? b = some o) :
    Inv (blk X N s H sc cl s.heap.objs.size fp) [] (none :: frees σ ix) H { s with heap := h1, toks := tk } := by
  have fresh : H s.heap.objs.size = none := I.hok.fresh (Nat.le_refl _)
  refine ⟨⟨I.ok.mod, hkind, I.ok.glob, I.ok.blt, Nat.le_refl _, fun y z c h1 h2 => I.ok.inj y z c (hsub y c h1) (hsub z c h2), fun y hy => hhas y hy, fun y c z _ => absurd (show false = true from z) (by decide), I.ok.hd, I.ok.frames, .inl rfl,
    fun b hb => ⟨Nat.ne_of_lt (hlt b hb), fun y c e => (hfp b hb).2.2.2.2.1 y c (hsub y c e)⟩, I.bs, Nat.le_trans I.ok.bsz I.sz, fun b o e hb => ?_, fun b hb z => ?_, I.stack, I.stkFree⟩,
    rfl, I.bare, Un.kept hk, ⟨m, hns, fun i y v e1 e2 e3 => ?_⟩, fun y c e => ?_, fresh, fun y c e => I.freeC y c (hsub y c e), fun p hp => absurd (show p ∈ ([] : List (Addr × Obj)) from hp) (by simp), I.hok.kept hk, ?_⟩
  · rcases (hfp b hb).2.2.2.1 with z | z
    · exact I.ok.noex b o e z
    · exact absurd (Nat.lt_of_lt_of_le (Heap.lt_size e) (Nat.le_trans I.ok.bsz z)) (Nat.lt_irrefl _)
  · rcases List.mem_cons.mp (I.stkSub b z) with q | q
    · exact (hfp b hb).2.1 q
    · exact (hfp b hb).2.2.1 q
  · cases i with
    | zero =>
      have e2' : (some none : Option (Option V)) = some (some v) := e2
      cases e2'
    | succ i =>
      have e2' : (frees σ ix)[i]? = some (some v) := by simpa using e2
      unfold frees at e2'
      rw [List.getElem?_map] at e2'
      cases q : ix[i]? with
      | none => rw [q] at e2'; cases e2'
      | some j =>
        rw [q] at e2'
        have e3' : (σ[j]?).getD none = some v := by simpa using e2'
        have e4 : σ[j]? = some (some v) := by
          cases q2 : σ[j]? with
          | none => rw [q2] at e3'; cases e3'
          | some w => rw [q2] at e3'; simpa using e3'
        obtain ⟨y', hy, hc, hr⟩ := hix j (List.mem_of_getElem? q)
        have ey : y' = y := by
          have e1' : N[i + 1]? = some y := e1
          rw [hN, List.getElem?_cons_succ, List.getElem?_map, q] at e1'
          have := Option.some.inj e1'
          simpa [hy] using this
        subst ey
        obtain ⟨m0, hn0, hl0⟩ := I.loc
        obtain ⟨u, r, l⟩ := hl0 j y' v hy e4 (.inr (.inl hc))
        refine ⟨u, r, .inr ⟨.inl hr, ?_⟩⟩
        rcases l with ⟨k, _⟩ | ⟨_, c, ec, ic⟩
        · rw [hc] at k; cases k
        · obtain ⟨c', ec'⟩ := hhas y' (.inl hr)
          have := hsub y' c' ec'
          rw [ec] at this; cases this
          obtain ⟨o, ho, hd⟩ := ic
          exact ⟨c, ec', o, hk c o ho, hd⟩
  · obtain ⟨v, o, ho, hd⟩ := I.cell y c (hsub y c e)
    exact ⟨v, o, hk c o ho, hd⟩
  · show (none :: frees σ ix).length = N.length
    rw [hN]
    simp [frees]
theorem pe_comp {elt iter : Expr} {x : Str} {px pos : Pos} {ifs : List Expr} {sc : Scope} {cl : List (Str × Addr)} {ix : List Nat} {wi : TI} {tc : TT} {te : TE} (N : List Str)
    (hc : X.calm = true) (hi : PI X (.Name x px) iter wi) (hif : ∀ s H C ex, PTs (blk X N s H sc cl C ex) ifs tc) (he : ∀ s H C ex, PE (blk X N s H sc cl C ex) elt te)
    (hkind : sc.kind = .function) (hN : N = x :: ix.map fun j => (X.N[j]?).getD "") (hnd : N.Nodup) (hx : sc.names.lookup x = some .local)
    (hcl : closureFor sc X.env = pure cl) (hcell : ∀ y ∈ sc.names, y.2 ≠ .cell) (hnames : ∀ y ∈ sc.names, y.2 = .local → sc.names.lookup y.1 = some .local)
    (hsub : ∀ y c, cl.lookup y = some c → X.env.cells.lookup y = some c) (hhas : ∀ y, ((relabel sc X.env).names.lookup y = some .cell ∨ (relabel sc X.env).names.lookup y = some .free) → ∃ c, cl.lookup y = some c)
    (hix : ∀ j ∈ ix, ∃ y, X.N[j]? = some y ∧ X.env.kindOf y = some .cell ∧ (relabel sc X.env).names.lookup y = some .cell)
    (hs : ∀ x, foldedSetIterable iter X.env x = pure x := by intro _; rfl) :
    PE X (.ListComp elt [⟨.Name x px, iter, ifs, 0⟩] sc pos) (tComp ix wi tc te) := by
  intro pins s σ H Q I h
  rw [eval_ListComp]
  refine wpAny_comprehension_free (use := none) rfl hs hcl hkind hnames (thn (hi pins s σ H _ I h) fun v s1 h1 => thn h1 fun itv s2 h2 => ?_)
  obtain ⟨it, fp, tn, J, H2, e, I2, T, st2, f2, q2⟩ := h2
  subst e
  have fr2 : H2 s2.heap.objs.size = none := I2.hok.fresh (Nat.le_refl _)
  obtain ⟨W, ⟨m0, w0⟩, turn⟩ := q2 s2.heap.objs.size fr2
  refine wpAny_newObj_type ?_
  have I3 : Inv X pins σ (upd H2 s2.heap.objs.size (.lst [])) { s2 with heap := s2.heap.push { cls := .type "list", dict := none, data := .seq ([] : List Value).toArray } } := by
    exact I2.lnew (its := []) (ys := []) (t' := s2.toks) .nil (Nat.zero_le _)
  have lt2 : ∀ b ∈ fp, b < s2.heap.objs.size := fun b hb => by
    obtain ⟨o, ho, _⟩ := T.obj _ _ st2 b hb
    exact Heap.lt_size ho
  have f3 : ∀ b ∈ fp, FpOk X pins (upd H2 s2.heap.objs.size (.lst [])) b := fun b hb => ⟨by rw [upd_ne (Nat.ne_of_lt (lt2 b hb))]; exact (f2 b hb).1, (f2 b hb).2⟩
  generalize hs3 : ({ s2 with heap := s2.heap.push { cls := .type "list", dict := none, data := .seq ([] : List Value).toArray } } : Shared) = s3 at I3
  have hsz3 : s2.heap.objs.size ≤ s3.heap.objs.size := by rw [← hs3]; show _ ≤ (s2.heap.push _).objs.size; rw [Heap.size_push]; exact Nat.le_succ _
  have tn3 : tn 0 s3.heap := T.keep _ _ _ st2 fun b _ o e => by rw [← hs3]; exact Heap.get?_push_of_some _ e
  have lt3 : ∀ b ∈ fp, b < s3.heap.objs.size := fun b hb => Nat.lt_of_lt_of_le (lt2 b hb) hsz3
  refine wpAny_newFunctionEnv hcell (by intro y hy; simp at hy) (fun h4 hns4 hsb4 => ?_) hkind
  have old : ∀ b o, s3.heap.get? b = some o → h4.get? b = some o := fun b o e => hsb4.extBut b o (Nat.ne_of_lt (Heap.lt_size e)) (Heap.get?_push_of_some _ e)
  have I4 := inv_blk (m := _) (tk := s3.toks + ([] : List (Str × Value)).length) (N := N) I3 hkind hN hsub hhas hix f3 lt3 hns4 old
  have tn4 : tn 0 h4 := T.keep _ _ _ tn3 fun b _ o e => old b o e
  have fpB : ∀ {H' : Hp}, (∀ b ∈ fp, H' b = none) → ∀ b ∈ fp, FpOk (blk X N s3 (upd H2 s2.heap.objs.size (.lst [])) sc cl s3.heap.objs.size fp) [] H' b := fun {H'} hn b hb =>
    ⟨hn b hb, Nat.ne_of_lt (lt3 b hb), I4.ok.exfs b hb, .inl hb, fun y c e => (I4.ok.exf b hb).2 y c e, fun p hp => absurd (show p ∈ ([] : List (Addr × Obj)) from hp) (by simp)⟩
  have loop : codeAny (model X.prog X.w) X.A (.compLoop (.ListComp elt [⟨.Name x px, iter, ifs, 0⟩] sc pos) 0 (.ref it) (.ref s2.heap.objs.size) (compEnvC sc cl s3.heap.objs.size X.env))
      (compPost (model X.prog X.w) X.A X.xe none (EP X pins σ Q) (.ref s2.heap.objs.size) s3.heap.objs.size) { s3 with heap := h4, toks := s3.toks + ([] : List (Str × Value)).length } := by
    refine compLoop_go (fun n s' => ∃ i v0 H', Inv (blk X N s3 (upd H2 s2.heap.objs.size (.lst [])) sc cl s3.heap.objs.size fp) [] (v0 :: frees σ ix) H' s' ∧ tn i s'.heap ∧ (∀ b ∈ fp, H' b = none) ∧ W i n H') ?_ m0
      ⟨0, none, _, I4, tn4, fun b hb => (f3 b hb).1, w0⟩
    rintro n s5 ⟨i, v0, H5, I5, st5, fr5, w5⟩
    rcases turn i n H5 w5 with ⟨stop, qn⟩ | ⟨go, step⟩
    · refine thn (T.done (blk X N s3 (upd H2 s2.heap.objs.size (.lst [])) sc cl s3.heap.objs.size fp) rfl rfl rfl hc i [] s5 _ H5 _ I5 (fpB fr5) st5 stop) fun r s6 ⟨hr, I6⟩ => ?_
      subst hr
      obtain ⟨mm, hm, _⟩ := I6.loc
      refine ⟨mm, hm, fun h7 sb7 => ?_⟩
      have I7 : Inv X pins σ H5 { s6 with heap := h7 } := by
        have hC : H5 s3.heap.objs.size = none := I6.free
        have hc3 : s3.heap.get? s3.heap.objs.size = none := Heap.get?_none_of_le (Nat.le_refl _)
        have up : ∀ b o, b ≠ s3.heap.objs.size → s6.heap.get? b = some o → h7.get? b = some o := fun b o hb e => sb7.extBut b o hb e
        have neC : ∀ b o, s3.heap.get? b = some o → b ≠ s3.heap.objs.size := fun b o e => Nat.ne_of_lt (Heap.lt_size e)
        have u := I6.base
        refine I3.call' (s' := { s6 with heap := h7 }) (ch := fp) I6.os ⟨fun b o e n hb hx => ?_, fun b o e n hb hx => ?_, fun b o e n hx => u.free b o e n hx, fun b o e hx => ?_, u.tups, u.frzs, u.tbls⟩ (fun b o e => ?_) I6.bare fun b hb => ⟨(f3 b hb).2.2.2.1, (f3 b hb).2.1, (f3 b hb).2.2.2.2.1, (f3 b hb).2.2.2.2.2⟩
        · exact up b o (neC b o e) (u.keep b o e n hb hx)
        · obtain ⟨sl, e1⟩ := u.slot b o e n hb hx
          exact ⟨sl, up b _ (neC b o e) e1⟩
        · obtain ⟨o', e1⟩ := u.there b o e hx
          exact ⟨o', up b _ (neC b o e) e1⟩
        · refine (I6.hok b o e).stay (fun c v hc' q => up c v ?_ q) (fun _ q => q) fun _ _ q => q
          rintro rfl
          rcases hc' with z | z
          · rw [← z, hC] at e; cases e
          · rw [hC] at z; cases z
      exact ⟨.ref s2.heap.objs.size, H5, I7, rfl, qn⟩
    · refine thn (T.item (blk X N s3 (upd H2 s2.heap.objs.size (.lst [])) sc cl s3.heap.objs.size fp) rfl rfl rfl hc i [] s5 _ H5 _ I5 (fpB fr5) st5 go) fun r s6 ⟨u, hr, h6⟩ => ?_
      subst hr
      refine thn h6 fun _ s7 ⟨y, H7, I7, r7, y7, st7, fr7⟩ => ?_
      have I7' := I7.pinned (fpB fr7) (T.obj _ _ st7)
      refine wpAny_assign_Name (store_ok (i := 0) I7' hnd (by show N[0]? = some x; rw [hN]; rfl) (.inl (lookup_relabel_local hx)) r7 (fun s8 I8 => ?_) (.inr (lookup_relabel_local hx)))
      have I8' : Inv (blk X N s3 (upd H2 s2.heap.objs.size (.lst [])) sc cl s3.heap.objs.size fp) ([] ++ pinsAt fp s7.heap) (some y :: frees σ ix) H7 s8 := I8
      refine thn (hif _ _ _ _ _ s8 _ H7 _ I8' (step y H7 y7)) fun ok s9 ⟨H9, I9, q9⟩ => ?_
      have again : ∀ {H' : Hp} {s' : Shared} {m' : Nat}, Inv (blk X N s3 (upd H2 s2.heap.objs.size (.lst [])) sc cl s3.heap.objs.size fp) ([] ++ pinsAt fp s7.heap) (some y :: frees σ ix) H' s' → m' < n → W (i + 1) m' H' →
          ∃ m, m < n ∧ ∃ i v0 H', Inv (blk X N s3 (upd H2 s2.heap.objs.size (.lst [])) sc cl s3.heap.objs.size fp) [] (v0 :: frees σ ix) H' s' ∧ tn i s'.heap ∧ (∀ b ∈ fp, H' b = none) ∧ W i m H' := fun {H' s' m'} Ia hm wa => by
        refine ⟨m', hm, i + 1, some y, H', Ia.unpinned, T.keep _ _ _ st7 fun b hb o e => (Ia.pin (b, o) (List.mem_append_right _ (List.mem_append_right _ (mem_pinsAt hb e)))).1, fun b hb => ?_, wa⟩
        obtain ⟨o, e, d⟩ := T.obj _ _ st7 b hb
        exact (Ia.pin (b, o) (List.mem_append_right _ (List.mem_append_right _ (mem_pinsAt hb e)))).2.1
      cases ok with
      | false =>
        rw [if_neg Bool.false_ne_true] at q9 ⊢
        obtain ⟨m', hm, wa⟩ := q9
        exact again I9 hm wa
      | true =>
        rw [if_pos rfl] at q9 ⊢
        refine thn (he _ _ _ _ _ s9 _ H9 _ I9 q9) fun v10 s10 ⟨z, H10, I10, r10, ys, hD, hl, m', hm, wa⟩ => ?_
        exact thn (mt_append _ s10 _ H10 (.ref s2.heap.objs.size) [z] (.ref s2.heap.objs.size) [v10] (fun _ H' => H' = upd H10 s2.heap.objs.size (.lst (ys ++ [z]))) I10 rfl (.cons r10 .nil) ⟨_, ys, z, rfl, rfl, hD, hl, rfl⟩)
          fun _ s11 ⟨_, H11, I11, _, e11⟩ => again I11 hm (by rw [e11]; exact wa)
  subst hs3
  exact codeAny_compStart_list loop (T.self _ 0 _ _ _ tn4 loop)
end
end L2
namespace L2
open PySem PySem.Spec PyProof.Rows
noncomputable def Its (x : Str) : It := ⟨fun i _ => i < x.cps.size, fun i H v H' => H' = H ∧ ∃ c, x.cps[i]? = some c ∧ v = .str ⟨#[c]⟩, fun i _ => x.cps.size ≤ i⟩
theorem turn_str {P : Program} {w : World} {K : PySem.W.Frag} {tg : Expr} {x : Str} {t : Tok} (it : Addr) (T : String) (hT : T = "str_ascii_iterator" ∨ T = "str_iterator") : Turn P w K tg (Its x) [it] it (fun i h => h.IsStrIter it T x t i ∧ i ≤ x.cps.size) where
  mem := by simp
  obj := fun i h st b hb => by
    have e : b = it := by simpa using hb
    subst e
    obtain ⟨⟨o, e, c, d⟩, _⟩ := st
    exact ⟨o, e, fun v z => by rw [d] at z; cases z⟩
  keep := fun i h h' st k => ⟨let ⟨o, ho, r⟩ := st.1; ⟨o, k it (by simp) o ho, r⟩, st.2⟩
  item := by
    intro X hP hw hK hc i pins s σ H E I hf st hg
    subst hP hw hK
    obtain ⟨f0, f1, f2, f3, f4, f5⟩ := hf it (by simp)
    have hi : i < x.cps.size := hg
    have fin : ∀ h', h'.IsStrIter it T x t (i + 1) → (∀ b o, b ≠ it → s.heap.get? b = some o → h'.get? b = some o) → ∀ u : Tok, ∃ uv, some (Value.str ⟨#[x.cps[i]]⟩ u) = some uv ∧
        wpAny (model X.prog X.w) X.A (letOwnedTupleGo tg (.ref it) uv) (fun _ s2 => ∃ v H', Inv X pins σ H' s2 ∧ RelV v uv ∧ (Its x).yld i H v H' ∧ (s2.heap.IsStrIter it T x t (i + 1) ∧ i + 1 ≤ x.cps.size) ∧ ∀ b ∈ [it], H' b = none) E { s with heap := h', toks := s.toks + 1 } := fun h' st' kk u => by
      have I1 : Inv X pins σ H { s with heap := h', toks := s.toks + 1 } := I.turned (fun b o hb e => kk b o hb e) f0 f1 f3 f4 f5
      obtain ⟨o, e, c, d⟩ := id st'
      refine ⟨_, rfl, go_of (s := { s with heap := h', toks := s.toks + 1 }) e c d (by rcases hT with rfl | rfl <;> decide) ⟨.str ⟨#[x.cps[i]]⟩, H, I1, ⟨u, rfl⟩, ⟨rfl, _, by simp [hi], rfl⟩, ⟨st', hi⟩, fun b hb => ?_⟩⟩
      exact (hf b hb).1
    rcases hT with rfl | rfl
    · exact wpAny_pyNext_ascii_item st.1 (c := x.cps[i]) (by simp [hi]) fun h' hit' hs' => fin h' hit' (fun b o hb e => hs'.extBut b o hb e) _
    · exact wpAny_pyNext_wide_item st.1 (c := x.cps[i]) (by simp [hi]) fun h' hit' hs' => fin h' hit' (fun b o hb e => hs'.extBut b o hb e) _
  done := by
    intro X hP hw hK hc i pins s σ H E I hf st hg
    subst hP hw hK
    obtain ⟨f0, f1, f2, f3, f4, f5⟩ := hf it (by simp)
    have hi : x.cps.size ≤ i := hg
    rcases hT with rfl | rfl
    · exact wpAny_pyNext_ascii_end (I.ok.hd hc) st.1 (by simp; lia) fun h' eb => ⟨rfl, I.turned (t' := s.toks) (fun b o hb e => eb b o hb e) f0 f1 f3 f4 f5⟩
    · exact wpAny_pyNext_wide_end (I.ok.hd hc) st.1 (by simp; lia) fun h' eb => ⟨rfl, I.turned (t' := s.toks) (fun b o hb e => eb b o hb e) f0 f1 f3 f4 f5⟩
  self := fun _ _ _ _ _ st h => by
    rcases hT with rfl | rfl
    · exact wpAny_pyIter_striter_ascii st.1 h
    · exact wpAny_pyIter_striter_wide st.1 h
section
variable {X : Cx} {tg : Expr}
noncomputable def iStr (tl : TE) : TI := fun σ H R => tl σ H fun x H1 => ∃ z, x = .str z ∧ R (Its z) H1
theorem pi_str {l : Expr} {tl : TE} (hl : PE X l tl) : PI X tg l (iStr tl) := by
  intro pins s σ H R I h
  refine thn (hl pins s σ H _ I h) fun v s1 ⟨x, H1, I1, r1, q1⟩ => ?_
  obtain ⟨z, e, q⟩ := q1
  subst e
  obtain ⟨t, rfl⟩ := r1
  have fin : ∀ (o : Obj) (T : String), (T = "str_ascii_iterator" ∨ T = "str_iterator") → (s1.heap.push o).IsStrIter s1.heap.objs.size T z t 0 → PIE X pins σ tg R (.ref s1.heap.objs.size) { s1 with heap := s1.heap.push o } := fun o T hT hs => by
    refine ⟨s1.heap.objs.size, [s1.heap.objs.size], _, _, H1, rfl, I1.kept (t' := s1.toks) fun b o e => Heap.get?_push_of_some _ e, turn_str (x := z) (t := t) _ T hT, ⟨hs, Nat.zero_le _⟩, fun b hb => ?_, q⟩
    have e : b = s1.heap.objs.size := by simpa using hb
    subst e
    exact I1.fpOk (Nat.le_refl _) (I1.hok.fresh (Nat.le_refl _))
  cases ha : z.cps.all (· < 128)
  · exact wpAny_pyIter_wide ha (fin _ _ (.inr rfl) ⟨_, Heap.get?_push_size _ rfl, rfl, rfl⟩)
  · exact wpAny_pyIter_ascii ha (fin _ _ (.inl rfl) ⟨_, Heap.get?_push_size _ rfl, rfl, rfl⟩)
theorem call_isi_tuple : CallR X (.builtin "isinstance") (fun xs H Q => ∃ a ys, xs = [.ref a, .ty "tuple"] ∧ SqT X.K H a ys ∧ Q (.bl true) H) := by
  intro pins s σ H xs us Q I r h
  obtain ⟨a, ys, rfl, hq, q⟩ := h
  cases r with
  | cons r1 r =>
    cases r with
    | cons r2 r =>
      cases r
      cases r1
      cases r2
      obtain ⟨its, rv, p, hz⟩ := I.tuple hq
      obtain ⟨o, e, hc, _⟩ := p
      exact IsiPair.tuple_tuple e hc ⟨.bl true, H, I, rfl, q⟩
theorem call_isi_str : CallR X (.builtin "isinstance") (fun xs H Q => ∃ z, xs = [.str z, .ty "str"] ∧ Q (.bl true) H) := by
  intro pins s σ H xs us Q I r h
  obtain ⟨z, rfl, q⟩ := h
  cases r with
  | cons r1 r =>
    cases r with
    | cons r2 r =>
      cases r
      obtain ⟨t, rfl⟩ := r1
      cases r2
      exact IsiPair.str_str ⟨.bl true, H, I, rfl, q⟩
end
end L2
namespace L2
open PySem PySem.Spec PyProof.Rows
noncomputable def txtOf : Value → Str
  | .str x _ => x
  | _ => ⟨#[]⟩
noncomputable def SSet (P : Program) (w : World) (h : Heap) (a : Addr) (ss : List Str) : Prop :=
  ∃ o es ep t, h.get? a = some o ∧ o.ExactSet ∧ o.data = .set es ep t ∧ ElemsOf (strKind P w) es.toList ∧ es.toList.map (fun e => txtOf e.2) = ss ∧ ss.Nodup ∧ es.size < scanBound ∧ t.fits es.size = true ∧
    t.led = !w.params.followText "set-order" ∧ (1 ≤ es.size → t.plain = false)
section
variable {P : Program} {w : World} {A : Around} {E : Value → Shared → Prop} {s : Shared}
end
end L2
namespace L2
open PySem PySem.Spec PyProof.Rows
section
variable {P : Program} {w : World} {A : Around} {R : Result → Shared → Prop} {I : Addr} {fp wr : List Addr} {G : Array GenState → Array GenState → Prop} {n : Nat} {Pv : Nat → Value → Prop} {St : Nat → Shared → Prop}
end
section
variable {P : Program} {w : World} {A : Around} {E : Value → Shared → Prop} {s : Shared}
end
end L2
namespace L2
open PySem PySem.Spec PyProof.Rows
namespace SF
end SF
end L2
namespace L2
open PySem PySem.Spec PyProof.Rows
section
variable {P : Program} {w : World} {A : Around} {E : Value → Shared → Prop}
end
section
variable {P : Program} {w : World} {A : Around} {E : Value → Shared → Prop} {s : Shared}
end
section
variable {P : Program} {w : World} {A : Around}
end
section
variable {X : Cx}
noncomputable def SetO (P : Program) (w : World) (a : Addr) (ss : List Str) : HO := .ext fun h => SSet P w h a ss
end
end L2
namespace L2
open PySem PySem.Spec PyProof.Rows
section
variable {P : Program} {w : World} {K : PySem.W.Frag} {mg : Str → Option Value} {base : Heap} {N : List Str} {qual : Str} {scope : Scope} {f : Addr} {cd : Value} {A : Around} {outer : List Env} {s₀ : Shared} {H₀ : Hp} {E : XK}
end
section
variable {P : Program} {w : World} {K : PySem.W.Frag} {mg : Str → Option Value} {base : Heap} {N : List Str} {qual : Str} {scope : Scope} {f : Addr} {cd : Value} {A : Around} {outer : List Env} {s₀ : Shared} {H₀ : Hp} {E : XK}
end
section
variable {X : Cx} {E : XK} {x : Str} {C : Addr} {B newId initId : String} {bmB : List Value} {np cpos pos : Pos} {e : Expr} {es : List Expr} {t : TA}
end
end L2
namespace L2
open PySem PySem.Spec PyProof.Rows
section
variable {X : Cx} {pins₀ : List (Addr × Obj)} {E : XK}
end
section
variable {X : Cx} {E : XK} {c n : Str} {C : Addr} {i : Nat} {body suite : List Stmt} {b₀ : Stmt} {tb ts : TS} {np hpos pos : Pos}
end
end L2
namespace L2
open PySem PySem.Spec PyProof.Rows PySem.Builtin PySem.Builtin.ObjectAttr PySem.Builtin.Getset_descriptor
section
variable {prog : Program} {w : World} {A : Around} {E : Value → Shared → Prop} {h : Heap} {g : Array GenState} {d : Drawn} {t : Nat} {os : OsState} {K : PySem.W.Frag} {a C : Addr} {o : Obj}
end
section
variable {X : Cx}
end
end L2
namespace L2
open PySem PySem.Spec PyProof.Rows
mutual
inductive Dp (K : PySem.W.Frag) (H : Hp) : V → PyData → Prop
  | non : Dp K H .non .none
  | bl (b : Bool) : Dp K H (.bl b) (.bool b)
  | int (i : Int) : Dp K H (.int i) (.int i)
  | str (x : Str) : Dp K H (.str x) (.str x)
  | lst {a : Addr} {xs : List V} {ds : List PyData} : SqL K H a xs → DpAll K H xs ds → Dp K H (.ref a) (.list ds)
  | tup {a : Addr} {xs : List V} {ds : List PyData} : SqT K H a xs → DpAll K H xs ds → Dp K H (.ref a) (.tuple ds)
inductive DpAll (K : PySem.W.Frag) (H : Hp) : List V → List PyData → Prop
  | nil : DpAll K H [] []
  | cons {v : V} {vs : List V} {d : PyData} {ds : List PyData} : Dp K H v d → DpAll K H vs ds → DpAll K H (v :: vs) (d :: ds)
end
section
variable {X : Cx} {pins : List (Addr × Obj)} {σ : St} {H : Hp} {s : Shared}
mutual
theorem Dp.reads (I : Inv X pins σ H s) : ∀ {v : V} {d : PyData}, Dp X.K H v d → ∀ {u : Value}, RelV v u → ∃ as, Reads s.heap u d as
  | _, _, .non, _, r => by cases r; exact ⟨_, .none⟩
  | _, _, .bl b, _, r => by cases r; exact ⟨_, .bool b⟩
  | _, _, .int i, _, r => by obtain ⟨t, rfl⟩ := r; exact ⟨_, .int i t⟩
  | _, _, .str x, _, r => by obtain ⟨t, rfl⟩ := r; exact ⟨_, .str x t⟩
  | _, _, .lst hs ha, _, r => by
    cases r
    obtain ⟨its, rv, ⟨o, n, e, hc, _, hd⟩, _⟩ := I.list hs
    obtain ⟨as, ra⟩ := DpAll.reads I ha rv
    exact ⟨_, .list e hc hd (by simpa using ra)⟩
  | _, _, .tup hs ha, _, r => by
    cases r
    obtain ⟨its, rv, ⟨o, e, hc, n, hd⟩, _⟩ := I.tuple hs
    obtain ⟨as, ra⟩ := DpAll.reads I ha rv
    exact ⟨_, .tuple e hc hd (by simpa using ra)⟩
theorem DpAll.reads (I : Inv X pins σ H s) : ∀ {vs : List V} {ds : List PyData}, DpAll X.K H vs ds → ∀ {us : List Value}, Vals vs us → ∃ as, ReadsAll s.heap us ds as
  | _, _, .nil, _, r => by cases r; exact ⟨_, .nil⟩
  | _, _, .cons h1 h2, _, r => by
    cases r with
    | cons r1 r2 =>
      obtain ⟨as, q1⟩ := Dp.reads I h1 r1
      obtain ⟨bs, q2⟩ := DpAll.reads I h2 r2
      exact ⟨_, .cons q1 q2⟩
end
end
noncomputable def EqOk (d : PyData) : Prop := d.canLay0 = true ∧ d.depth ≤ 16
section
variable {X : Cx}
noncomputable def rEqD (K : PySem.W.Frag) : R2 := fun x y H Q => ∃ dx dy, Dp K H x dx ∧ Dp K H y dy ∧ EqOk dx ∧ EqOk dy ∧ Q (.bl (PyData.eqv dx dy)) H
noncomputable def rNeD (K : PySem.W.Frag) : R2 := fun x y H Q => ∃ dx dy, Dp K H x dx ∧ Dp K H y dy ∧ EqOk dx ∧ EqOk dy ∧ Q (.bl (!PyData.eqv dx dy)) H
theorem op_eqD (hu : X.A.units + 32 < cLine) : OpR X (compareOp .Eq) (rEqD X.K) := by
  intro pins s σ H x y v u Q I rx ry h
  obtain ⟨dx, dy, h1, h2, o1, o2, q⟩ := h
  obtain ⟨as, ra⟩ := Dp.reads I h1 rx
  obtain ⟨bs, rb⟩ := Dp.reads I h2 ry
  exact SeqAt.compareEq_reads ra rb o1.1 o2.1 (by have := o1.2; have := Nat.min_le_left dx.depth dy.depth; lia) ⟨.bl _, H, I, rfl, q⟩
theorem op_neD (hu : X.A.units + 32 < cLine) : OpR X (compareOp .NotEq) (rNeD X.K) := by
  intro pins s σ H x y v u Q I rx ry h
  obtain ⟨dx, dy, h1, h2, o1, o2, q⟩ := h
  obtain ⟨as, ra⟩ := Dp.reads I h1 rx
  obtain ⟨bs, rb⟩ := Dp.reads I h2 ry
  exact SeqAt.compareNe_reads ra rb o1.1 o2.1 (by have := o1.2; have := Nat.min_le_left dx.depth dy.depth; lia) ⟨.bl _, H, I, rfl, q⟩
end
noncomputable def dStrs (r : List Str) : List PyData := r.map .str
noncomputable def dRow (r : List Str) : PyData := .tuple (dStrs r)
noncomputable def RowAt (K : PySem.W.Frag) (H : Hp) (a : Addr) (r : List Str) : Prop := SqT K H a (r.map V.str)
noncomputable def RowsAt (K : PySem.W.Frag) (H : Hp) (a : Addr) (rs : List (List Str)) : Prop := ∃ as : List Addr, H a = some (.lst (as.map V.ref)) ∧ Paired (fun b r => RowAt K H b r) as rs
theorem Same.seqT {K : PySem.W.Frag} {H H' : Hp} {a : Addr} {xs : List V} (e : Same H H') (h : SqT K H a xs) : SqT K H' a xs := by
  rcases h with (h | ⟨o, h⟩) | h
  · exact .inl (.inl (e _ _ h))
  · exact .inl (.inr ⟨o, e _ _ h⟩)
  · exact .inr h
theorem RowAt.same {K : PySem.W.Frag} {H H' : Hp} {a : Addr} {r : List Str} (h : RowAt K H a r) (e : Same H H') : RowAt K H' a r := e.seqT h
theorem RowsAt.same {K : PySem.W.Frag} {H H' : Hp} {a : Addr} {rs : List (List Str)} (h : RowsAt K H a rs) (e : Same H H') : RowsAt K H' a rs := by
  obtain ⟨as, h1, h2⟩ := h
  exact ⟨as, e _ _ h1, Paired.mapP h2 fun b r z => z.same e⟩
theorem dp_strs {K : PySem.W.Frag} {H : Hp} : ∀ r : List Str, DpAll K H (r.map V.str) (dStrs r)
  | [] => .nil
  | x :: r => .cons (.str x) (dp_strs r)
theorem RowAt.dp {K : PySem.W.Frag} {H : Hp} {a : Addr} {r : List Str} (h : RowAt K H a r) : Dp K H (.ref a) (dRow r) := .tup h (dp_strs r)
theorem dp_rows {K : PySem.W.Frag} {H : Hp} : ∀ {as : List Addr} {rs : List (List Str)}, Paired (fun b r => RowAt K H b r) as rs → DpAll K H (as.map V.ref) (rs.map dRow)
  | _, _, .nil => .nil
  | _, _, .cons h1 h2 => .cons h1.dp (dp_rows h2)
theorem RowsAt.dp {K : PySem.W.Frag} {H : Hp} {a : Addr} {rs : List (List Str)} (h : RowsAt K H a rs) : Dp K H (.ref a) (.list (rs.map dRow)) := by
  obtain ⟨as, h1, h2⟩ := h
  exact .lst (SqL.of h1) (dp_rows h2)
theorem same_new {H : Hp} {p : Addr} (h : H p = none) (o : HO) : Same H (upd H p o) := fun b u q => by rw [upd_ne (ne_of_none q h)]; exact q
end L2
namespace L2
open PySem PySem.Spec PyProof.Rows
section
variable {X : Cx} {o e : Expr} {to : TE} {t : TA} {apos cpos : Pos}
end
end L2
namespace L2
open PySem PySem.Spec PyProof.Rows PySem.Builtin PySem.Builtin.Str
noncomputable def cutS (z : Str) (lo hi : Option Int) : Str := ⟨((z.cps.toList.drop (HT.sIx z.length 0 lo)).take (HT.sIx z.length z.length hi - HT.sIx z.length 0 lo)).toArray⟩
theorem sIx_le (n d : Nat) (hd : d ≤ n) (v : Option Int) (hv : ∀ i, v = some i → -(n : Int) ≤ i ∨ 0 ≤ i ∨ True) : HT.sIx n d v ≤ n := by
  cases v with
  | none => exact hd
  | some i =>
    show (if i < 0 then (i + (n : Int)).toNat else min i.toNat n) ≤ n
    split <;> lia
theorem clip_sIx (n d : Nat) (hd : d ≤ n) (v : Option Int) : (match v with | none => (d : Int) | some i => max 0 (min (if i < 0 then i + (n : Int) else i) (n : Int))) = ((HT.sIx n d v : Nat) : Int) := by
  cases v with
  | none => rfl
  | some i =>
    show max 0 (min (if i < 0 then i + (n : Int) else i) (n : Int)) = ((if i < 0 then (i + (n : Int)).toNat else min i.toNat n : Nat) : Int)
    split <;> lia
theorem idx_sIx (lo hi : Option Int) (n : Nat) : strSliceIndices lo hi 1 n = (List.range (HT.sIx n n hi - HT.sIx n 0 lo)).map (fun k => HT.sIx n 0 lo + k) := by
  have e1 := clip_sIx n 0 (Nat.zero_le _) lo
  have e2 := clip_sIx n n (Nat.le_refl _) hi
  have key : strSliceIndices lo hi 1 n = sliceRange ((HT.sIx n 0 lo : Nat) : Int) ((HT.sIx n n hi : Nat) : Int) 1 := by
    rw [← e1, ← e2]
    cases lo <;> cases hi <;> rfl
  rw [key]
  generalize HT.sIx n 0 lo = a
  generalize HT.sIx n n hi = b
  unfold sliceRange
  simp only [show ((1 : Int) > 0) = True from by simp, if_true]
  by_cases h : (a : Int) < b
  · rw [if_pos h]
    have e3 : (((b : Int) - a + 1 - 1) / 1).toNat = b - a := by lia
    rw [e3]
    refine List.map_congr_left fun k _ => ?_
    lia
  · rw [if_neg h]
    have e4 : b - a = 0 := by lia
    rw [e4]
    rfl
theorem picks_cut (z : Str) (lo hi : Option Int) : ((strSliceIndices lo hi 1 z.length).filterMap (z.cps[·]?)) = (z.cps.toList.drop (HT.sIx z.length 0 lo)).take (HT.sIx z.length z.length hi - HT.sIx z.length 0 lo) := by
  rw [idx_sIx]
  have hz : z.length = z.cps.toList.length := by simp [Str.length]
  have hb : HT.sIx z.length z.length hi ≤ z.length := sIx_le _ _ (Nat.le_refl _) hi fun _ _ => .inr (.inr trivial)
  generalize HT.sIx z.length 0 lo = a at *
  generalize HT.sIx z.length z.length hi = b at *
  by_cases h : a ≤ b
  · have := StrLaws.picks z.cps.toList (b - a) a (by lia)
    simpa using this
  · have e : b - a = 0 := by lia
    rw [e]
    simp
section
variable {X : Cx}
noncomputable def rSlS : V → Option Int → Option Int → Hp → VK → Prop := fun x lo hi H Q => ∃ z, x = .str z ∧ z.length ≤ sizeLine ∧ Q (.str (cutS z lo hi)) H
theorem sl_str : SlR X rSlS := by
  intro pins s σ H x v vl vu lo hi sl Q I rx hs pl pu h
  obtain ⟨z, rfl, hz, q⟩ := h
  obtain ⟨t, rfl⟩ := rx
  refine ⟨"str", _, PySem.F.slot_str_getitem.lookup, typeIs_str s z t, ?_⟩
  obtain ⟨l, hl, el⟩ : ∃ l : Option (Int × Tok), partValue l = vl ∧ l.map (·.1) = lo := by
    cases pl with
    | none => exact ⟨none, rfl, rfl⟩
    | int i t => exact ⟨some (i, t), rfl, rfl⟩
  obtain ⟨u, hu, eu⟩ : ∃ u : Option (Int × Tok), partValue u = vu ∧ u.map (·.1) = hi := by
    cases pu with
    | none => exact ⟨none, rfl, rfl⟩
    | int i t => exact ⟨some (i, t), rfl, rfl⟩
  have hS : s.heap.IsSlice sl l u none := by
    obtain ⟨o, ho, hc, hd⟩ := hs
    exact ⟨o, ho, hc, by rw [hd, hl, hu]; rfl⟩
  refine getItem_meets (typeIs_str s z t) (by decide) PySem.F.slot_str_getitem PySem.F.entry_str_getitem (PySem.F.args_str_getitem_2 _ _) (meets_str_getitem_slice z t sl l u none (by decide)) ⟨hS, ?_⟩
  have epick : slicePicked z l u none = strSliceIndices lo hi 1 z.length := by
    unfold slicePicked
    rw [el, eu]
    rfl
  have ecut : ((slicePicked z l u none).filterMap (z.cps[·]?)) = (z.cps.toList.drop (HT.sIx z.length 0 lo)).take (HT.sIx z.length z.length hi - HT.sIx z.length 0 lo) := by rw [epick]; exact picks_cut z lo hi
  unfold sliceMade
  split
  · rename_i hw
    have hlen : (slicePicked z l u none).length = z.length := by simpa using hw
    have eq : cutS z lo hi = z := by
      have e1 : ((z.cps.toList.drop (HT.sIx z.length 0 lo)).take (HT.sIx z.length z.length hi - HT.sIx z.length 0 lo)) = z.cps.toList := by
        rw [epick, idx_sIx, List.length_map, List.length_range] at hlen
        have hb : HT.sIx z.length z.length hi ≤ z.length := sIx_le _ _ (Nat.le_refl _) hi fun _ _ => .inr (.inr trivial)
        rcases Nat.eq_zero_or_pos z.length with h0 | h0
        · have : z.cps.toList = [] := by
            have : z.cps.toList.length = 0 := by simpa [Str.length] using h0
            exact List.eq_nil_of_length_eq_zero this
          rw [this]; simp
        · have ea : HT.sIx z.length 0 lo = 0 := by lia
          have eb : HT.sIx z.length z.length hi = z.length := by lia
          rw [ea, eb, List.drop_zero, Nat.sub_zero]
          exact List.take_of_length_le (by simp [Str.length])
      unfold cutS
      rw [e1]
    rw [eq] at q
    exact ⟨.str z, H, I, ⟨t, rfl⟩, q⟩
  · show (Made.str _).post _ s
    rw [ecut]
    refine ⟨?_, .str (cutS z lo hi), H, I.tok _, ⟨_, rfl⟩, q⟩
    refine Nat.le_trans ?_ hz
    show ((z.cps.toList.drop (HT.sIx z.length 0 lo)).take (HT.sIx z.length z.length hi - HT.sIx z.length 0 lo)).toArray.size ≤ z.cps.size
    rw [List.size_toArray, List.length_take, List.length_drop, Array.length_toList]
    lia
end
end L2
namespace L2
open PySem PySem.Spec PyProof.Rows
structure JSeq (J : It) (I0 : Hp → Prop) (xs : List V) : Prop where
  go : ∀ i H, I0 H → i < xs.length → J.go i H
  stop : ∀ i H, I0 H → xs.length ≤ i → J.stop i H
  yld : ∀ i H x H', i < xs.length → I0 H → J.yld i H x H' → H' = H ∧ xs[i]? = some x
  stay : ∀ H H', I0 H → Same H H' → I0 H'
theorem jseq_list {K : PySem.W.Frag} {a : Addr} {xs : List V} : JSeq (Itl K a) (fun H => SqL K H a xs) xs where
  go := fun i H h hi => ⟨xs, xs[i], h, by simp [hi]⟩
  stop := fun i H h hi => ⟨xs, h, hi⟩
  yld := fun i H x H' _ h y => ⟨y.1, y.2 xs h⟩
  stay := fun H H' h e => e.seq h
noncomputable def nums (lo : Int) (n : Nat) : List V := (List.range n).map fun i => V.int (lo + (i : Nat))
theorem jseq_rng {lo : Int} {n : Nat} : JSeq (Itr lo n) (fun _ => True) (nums lo n) where
  go := fun i H _ hi => by simpa [nums, Itr] using hi
  stop := fun i H _ hi => by simpa [nums, Itr] using hi
  yld := fun i H x H' hi _ y => by
    refine ⟨y.1, ?_⟩
    have hi' : i < n := by simpa [nums] using hi
    have e : x = .int (lo + i) := y.2
    unfold nums
    rw [List.getElem?_map, List.getElem?_range hi', e]; rfl
  stay := fun _ _ _ _ => trivial
theorem Paired.snocP {α β : Type} {F : α → β → Prop} {x : α} {y : β} : ∀ {l₁ : List α} {l₂ : List β}, Paired F l₁ l₂ → F x y → Paired F (l₁ ++ [x]) (l₂ ++ [y])
  | _, _, .nil, h => .cons h .nil
  | _, _, .cons h₁ t, h => .cons h₁ (Paired.snocP t h)
noncomputable def SameX (D : Addr) (H H' : Hp) : Prop := ∀ b u, H b = some u → b ≠ D → H' b = some u
theorem Same.x {H H' : Hp} (e : Same H H') (D : Addr) : SameX D H H' := fun b u q _ => e b u q
theorem comp_rel {J : It} {H1 : Hp} {σ : St} {ix : List Nat} {tc : TT} {te : TE} {Q : VK} {I0 : Hp → Prop} (xs : List V) (p : V → Bool) (R : Addr → V → V → Hp → Prop) (hJ : JSeq J I0 xs) (h0 : I0 H1) (hz : xs.length ≤ sizeLine) (hR : ∀ D x y H H', R D x y H → SameX D H H' → R D x y H')
    (hc : ∀ x ∈ xs, ∀ H2, Same H1 H2 → ∀ Q' : Bool → Hp → Prop, (∀ H3, Same H2 H3 → Q' (p x) H3) → tc (some x :: frees σ ix) H2 Q')
    (he : ∀ D, ∀ x ∈ xs, p x = true → ∀ H2, Same H1 H2 → H2 D ≠ none → ∀ Q' : VK, (∀ y H3, Same H2 H3 → R D x y H3 → Q' y H3) → te (some x :: frees σ ix) H2 Q')
    (hQ : ∀ D H' ys, H1 D = none → Same H1 H' → H' D = some (.lst ys) → Paired (fun x y => R D x y H') (xs.filter p) ys → Q (.ref D) H') :
    CompGo J H1 σ ix tc te Q := by
  intro D hD
  have put : ∀ H ys, Same H1 H → Same H1 (upd H D (.lst ys)) := fun H ys e b u q => by rw [upd_ne (ne_of_none q hD)]; exact e b u q
  refine ⟨fun i m H => i ≤ xs.length ∧ m = xs.length - i ∧ Same H1 H ∧ ∃ ys, H D = some (.lst ys) ∧ Paired (fun x y => R D x y H) ((xs.take i).filter p) ys, ⟨xs.length, Nat.zero_le _, rfl, put _ _ (Same.refl _), [], upd_same, by simpa using Paired.nil⟩, ?_⟩
  rintro i m H ⟨hi, rfl, e, ys, hy, hp⟩
  have hI := hJ.stay _ _ h0 e
  by_cases hlt : i < xs.length
  · refine .inr ⟨hJ.go i H hI hlt, fun x H' hy' => ?_⟩
    obtain ⟨rfl, hx⟩ := hJ.yld i H x H' hlt hI hy'
    have hm : x ∈ xs := List.mem_of_getElem? hx
    have ht : xs.take (i + 1) = xs.take i ++ [x] := by rw [List.take_add_one, hx]; rfl
    have hlen : ys.length ≤ i := by
      have h1 := Paired.length hp
      have h2 := List.length_filter_le p (xs.take i)
      rw [List.length_take] at h2
      lia
    refine hc x hm _ e _ fun H3 e3 => ?_
    cases hpx : p x with
    | false =>
      rw [if_neg Bool.false_ne_true]
      refine ⟨xs.length - (i + 1), by lia, hlt, rfl, e.trans e3, ys, e3 _ _ hy, ?_⟩
      rw [ht, List.filter_append]
      simp only [List.filter_cons, hpx, List.filter_nil, List.append_nil, Bool.false_eq_true, if_false]
      exact Paired.mapP hp fun x y z => hR _ _ _ _ _ z (e3.x D)
    | true =>
      rw [if_pos rfl]
      refine he D x hm hpx _ (e.trans e3) (by rw [e3 _ _ hy]; simp) _ fun y H4 e4 hr => ?_
      have e5 : SameX D H4 (upd H4 D (.lst (ys ++ [y]))) := fun b u q hb => by rw [upd_ne hb]; exact q
      refine ⟨ys, e4 _ _ (e3 _ _ hy), by lia, xs.length - (i + 1), by lia, hlt, rfl, put _ _ (e.trans (e3.trans e4)), ys ++ [y], upd_same, ?_⟩
      rw [ht, List.filter_append]
      simp only [List.filter_cons, hpx, List.filter_nil, if_true]
      exact Paired.snocP (Paired.mapP hp fun x y z => hR _ _ _ _ _ (hR _ _ _ _ _ z ((e3.trans e4).x D)) e5) (hR _ _ _ _ _ hr e5)
  · have hi' : i = xs.length := by lia
    subst hi'
    refine .inl ⟨hJ.stop _ H hI (Nat.le_refl _), ?_⟩
    rw [List.take_length] at hp
    exact hQ D H ys hD e hy hp
theorem paired_map {α β : Type} {f : α → β} : ∀ {l : List α} {l' : List β}, Paired (fun x y => y = f x) l l' → l' = l.map f
  | _, _, .nil => rfl
  | _, _, .cons h t => by rw [h, paired_map t]; rfl
theorem comp_map {J : It} {H1 : Hp} {σ : St} {ix : List Nat} {tc : TT} {te : TE} {Q : VK} {I0 : Hp → Prop} (xs : List V) (p : V → Bool) (f : V → V) (hJ : JSeq J I0 xs) (h0 : I0 H1) (hz : xs.length ≤ sizeLine)
    (hc : ∀ x ∈ xs, ∀ H2, Same H1 H2 → ∀ Q' : Bool → Hp → Prop, (∀ H3, Same H2 H3 → Q' (p x) H3) → tc (some x :: frees σ ix) H2 Q')
    (he : ∀ x ∈ xs, p x = true → ∀ H2, Same H1 H2 → ∀ Q' : VK, (∀ H3, Same H2 H3 → Q' (f x) H3) → te (some x :: frees σ ix) H2 Q')
    (hQ : ∀ D H', H1 D = none → Same H1 H' → H' D = some (.lst ((xs.filter p).map f)) → Q (.ref D) H') :
    CompGo J H1 σ ix tc te Q :=
  comp_rel xs p (fun _ x y _ => y = f x) hJ h0 hz (fun _ _ _ _ _ h _ => h) hc (fun _ x hx hp H2 e _ Q' q => he x hx hp H2 e Q' fun H3 e3 => q _ H3 e3 rfl) fun D H' ys hD e hy hp => hQ D H' hD e (by rw [hy, paired_map hp])
theorem comp_ix {J : It} {H1 : Hp} {σ : St} {ix : List Nat} {te : TE} {Q : VK} {I0 : Hp → Prop} (xs : List V) (ws : List V) (hJ : JSeq J I0 xs) (h0 : I0 H1) (hz : xs.length ≤ sizeLine) (hl : ws.length = xs.length)
    (he : ∀ (i : Nat) (x y : V), xs[i]? = some x → ws[i]? = some y → ∀ H2, Same H1 H2 → ∀ Q' : VK, (∀ H3, Same H2 H3 → Q' y H3) → te (some x :: frees σ ix) H2 Q')
    (hQ : ∀ D H', H1 D = none → Same H1 H' → H' D = some (.lst ws) → Q (.ref D) H') : CompGo J H1 σ ix tYes te Q := by
  intro D hD
  have put : ∀ H ys, Same H1 H → Same H1 (upd H D (.lst ys)) := fun H ys e b u q => by rw [upd_ne (ne_of_none q hD)]; exact e b u q
  refine ⟨fun i m H => i ≤ xs.length ∧ m = xs.length - i ∧ Same H1 H ∧ H D = some (.lst (ws.take i)), ⟨xs.length, Nat.zero_le _, rfl, put _ _ (Same.refl _), by rw [upd_same, List.take_zero]⟩, ?_⟩
  rintro i m H ⟨hi, rfl, e, hy⟩
  have hI := hJ.stay _ _ h0 e
  by_cases hlt : i < xs.length
  · refine .inr ⟨hJ.go i H hI hlt, fun x H' hy' => ?_⟩
    obtain ⟨rfl, hx⟩ := hJ.yld i H x H' hlt hI hy'
    have hw : ws[i]? = some ws[i] := List.getElem?_eq_getElem (by lia)
    unfold tYes
    dsimp only
    rw [if_pos rfl]
    refine he i x ws[i] hx hw _ e _ fun H3 e3 => ?_
    refine ⟨ws.take i, e3 _ _ hy, by rw [List.length_take]; lia, xs.length - (i + 1), by lia, hlt, rfl, put _ _ (e.trans e3), ?_⟩
    rw [upd_same, List.take_add_one, hw]; rfl
  · have hi' : i = xs.length := by lia
    subst hi'
    refine .inl ⟨hJ.stop _ H hI (Nat.le_refl _), hQ D H hD e ?_⟩
    rw [hy, List.take_of_length_le (by lia)]
theorem comp_all {α : Type} {J : It} {H1 : Hp} {σ : St} {ix : List Nat} {te : TE} {Q : VK} {I0 : Hp → Prop} (xs : List V) (rs : List α) (p : α → Bool) (hJ : JSeq J I0 xs) (h0 : I0 H1) (hz : xs.length ≤ 1000) (hl : rs.length = xs.length)
    (he : ∀ (i : Nat) (x : V) (r : α), xs[i]? = some x → rs[i]? = some r → ∀ H2, Same H1 H2 → ∀ Q' : VK, (∀ H3, Same H2 H3 → Q' (.bl (p r)) H3) → te (some x :: frees σ ix) H2 Q')
    (hQ : ∀ D H', H1 D = none → Same H1 H' → H' D = some (.lst ((rs.map p).map V.bl)) → Q (.ref D) H') : CompGo J H1 σ ix tYes te Q :=
  comp_ix xs ((rs.map p).map V.bl) hJ h0 (Nat.le_of_lt (small1000 hz)) (by simp [hl]) (fun i x y hx hy H2 e Q' q => by
    rw [List.getElem?_map, List.getElem?_map] at hy
    cases hr : rs[i]? with
    | none => rw [hr] at hy; cases hy
    | some r =>
      rw [hr] at hy
      have : y = .bl (p r) := (Option.some.inj hy).symm
      subst this
      exact he i x r hx hr H2 e Q' q) hQ
end L2
namespace L2
open PySem PySem.Spec PyProof.Rows
section
variable {κ : Type} [DecidableEq κ]
noncomputable def valV (kvs : List (κ × V)) (k : κ) : Option V := (kvs.find? fun kv => decide (kv.1 = k)).map (·.2)
noncomputable def putK (kvs : List (κ × V)) (k : κ) (v : V) : List (κ × V) :=
  if (kvs.any fun kv => decide (kv.1 = k)) = true then kvs.map (fun kv => if kv.1 = k then (kv.1, v) else kv) else kvs ++ [(k, v)]
theorem valV_pos {p : κ × V} {r : List (κ × V)} {k : κ} (e : p.1 = k) : valV (p :: r) k = some p.2 := by simp [valV, List.find?_cons, e]
theorem valV_neg {p : κ × V} {r : List (κ × V)} {k : κ} (e : ¬ p.1 = k) : valV (p :: r) k = valV r k := by simp [valV, List.find?_cons, e]
theorem valV_any (k : κ) : ∀ kvs : List (κ × V), (kvs.any fun kv => decide (kv.1 = k)) = (valV kvs k).isSome
  | [] => rfl
  | p :: r => by
    rw [List.any_cons]
    by_cases e : p.1 = k
    · simp only [valV_pos e, decide_eq_true e, Bool.true_or, Option.isSome_some]
    · rw [valV_neg e, decide_eq_false e, Bool.false_or]; exact valV_any k r
theorem valV_map (k j : κ) (y : V) : ∀ kvs : List (κ × V), valV (kvs.map fun kv => if kv.1 = k then (kv.1, y) else kv) j = (valV kvs j).map fun x => if j = k then y else x
  | [] => rfl
  | p :: r => by
    have ih := valV_map k j y r
    rw [List.map_cons]
    by_cases h : p.1 = k
    · rw [if_pos h]
      by_cases e : p.1 = j
      · rw [valV_pos (p := (p.1, y)) e, valV_pos e, Option.map_some, if_pos (e.symm.trans h)]
      · rw [valV_neg (p := (p.1, y)) e, valV_neg e, ih]
    · rw [if_neg h]
      by_cases e : p.1 = j
      · rw [valV_pos (p := p) e, valV_pos e, Option.map_some, if_neg (fun z => h (e.trans z))]
      · rw [valV_neg (p := p) e, valV_neg e, ih]
theorem valV_snoc (k j : κ) (y : V) : ∀ kvs : List (κ × V), valV kvs k = none → valV (kvs ++ [(k, y)]) j = if j = k then some y else valV kvs j
  | [], _ => by
    by_cases e : k = j
    · rw [if_pos e.symm]; exact valV_pos (p := (k, y)) e
    · rw [if_neg (fun z => e z.symm)]; exact valV_neg (p := (k, y)) e
  | p :: r, hn => by
    rw [List.cons_append]
    have hk : ¬ p.1 = k := fun z => by rw [valV_pos z] at hn; cases hn
    rw [valV_neg hk] at hn
    have ih := valV_snoc k j y r hn
    by_cases e : p.1 = j
    · rw [valV_pos e, valV_pos e, if_neg (fun z => hk (e.trans z))]
    · rw [valV_neg e, valV_neg e, ih]
theorem valV_put (kvs : List (κ × V)) (k j : κ) (y : V) : valV (putK kvs k y) j = if j = k then some y else valV kvs j := by
  unfold putK
  by_cases a : (kvs.any fun kv => decide (kv.1 = k)) = true
  · rw [if_pos a, valV_map]
    rw [valV_any] at a
    by_cases e : j = k
    · obtain ⟨x, hx⟩ := Option.isSome_iff_exists.mp a
      rw [if_pos e, e, hx, Option.map_some, if_pos rfl]
    · rw [if_neg e]
      cases valV kvs j with
      | none => rfl
      | some x => rw [Option.map_some, if_neg e]
  · rw [if_neg a]
    refine valV_snoc k j y kvs ?_
    rw [valV_any] at a
    cases q : valV kvs k with
    | none => rfl
    | some x => rw [q] at a; exact (a rfl).elim
theorem length_putK (kvs : List (κ × V)) (k : κ) (v : V) : (putK kvs k v).length ≤ kvs.length + 1 := by
  unfold putK
  split
  · rw [List.length_map]; lia
  · rw [List.length_append, List.length_cons, List.length_nil]; lia
theorem putK_new {kvs : List (κ × V)} {k : κ} (v : V) (h : valV kvs k = none) : putK kvs k v = kvs ++ [(k, v)] := by
  unfold putK
  rw [valV_any, h]
  exact if_neg (by decide)
theorem RelO.isSome_eq {o : Option V} {u : Option Value} (r : RelO o u) : o.isSome = u.isSome := by
  cases o with
  | none => cases u with
    | none => rfl
    | some _ => exact (show False from r).elim
  | some _ => cases u with
    | none => exact (show False from r).elim
    | some _ => rfl
theorem RelO.getD {o : Option V} {u : Option Value} {d : V} {d' : Value} (r : RelO o u) (rd : RelV d d') : RelV (o.getD d) (u.getD d') := by
  cases o with
  | none => cases u with
    | none => exact rd
    | some _ => exact (show False from r).elim
  | some _ => cases u with
    | none => exact (show False from r).elim
    | some _ => exact r
theorem KV.val {kvs : List (κ × V)} {vs : List (κ × Value)} (r : KV kvs vs) (k : κ) : RelO (valV kvs k) (valueAt vs k) := by
  unfold KV at r
  induction r with
  | nil => exact True.intro
  | @cons p q ps qs h t ih =>
    obtain ⟨h1, h2⟩ := h
    by_cases e : p.1 = k
    · have e' : q.1 = k := h1.symm.trans e
      have b : valueAt (q :: qs) k = some q.2 := by simp [valueAt, List.find?_cons, e']
      rw [valV_pos e, b]; exact h2
    · have e' : ¬ q.1 = k := fun z => e (h1.trans z)
      have b : valueAt (q :: qs) k = valueAt qs k := by simp [valueAt, List.find?_cons, e']
      rw [valV_neg e, b]; exact ih
theorem KV.any {kvs : List (κ × V)} {vs : List (κ × Value)} (r : KV kvs vs) (k : κ) : (kvs.any fun kv => decide (kv.1 = k)) = vs.any fun kv => decide (kv.1 = k) := by
  unfold KV at r
  induction r with
  | nil => rfl
  | cons h t ih => rw [List.any_cons, List.any_cons, ih, h.1]
theorem KV.repl {kvs : List (κ × V)} {vs : List (κ × Value)} (r : KV kvs vs) (k : κ) {y : V} {u : Value} (ry : RelV y u) :
    KV (kvs.map fun kv => if kv.1 = k then (kv.1, y) else kv) (vs.map fun kv => if kv.1 = k then (kv.1, u) else kv) := by
  unfold KV at r ⊢
  induction r with
  | nil => exact .nil
  | @cons p q ps qs h t ih =>
    rw [List.map_cons, List.map_cons]
    refine .cons ?_ ih
    obtain ⟨h1, h2⟩ := h
    by_cases e : p.1 = k
    · rw [if_pos e, if_pos (h1.symm.trans e)]; exact ⟨h1, ry⟩
    · rw [if_neg e, if_neg (fun z => e (h1.trans z))]; exact ⟨h1, h2⟩
theorem KV.put {kvs : List (κ × V)} {vs : List (κ × Value)} (r : KV kvs vs) (k : κ) {y : V} {u : Value} (ry : RelV y u) : KV (putK kvs k y) (stored vs k u) := by
  unfold putK stored
  rw [r.any k]
  by_cases e : (vs.any fun kv => decide (kv.1 = k)) = true
  · rw [if_pos e, if_pos e]; exact r.repl k ry
  · rw [if_neg e, if_neg e]; exact Paired.snoc r ⟨rfl, ry⟩
theorem KV.keys {kvs : List (κ × V)} {vs : List (κ × Value)} (r : KV kvs vs) : kvs.map (·.1) = vs.map (·.1) := by
  unfold KV at r
  induction r with
  | nil => rfl
  | cons h t ih => rw [List.map_cons, List.map_cons, ih, h.1]
theorem KV.length {kvs : List (κ × V)} {vs : List (κ × Value)} (r : KV kvs vs) : kvs.length = vs.length := Paired.length r
end
theorem kV_is {P : Program} {w : World} {k : Key} {u : Value} (r : RelV (kV k) u) : (mixKind P w).is k u = true := by
  cases k with
  | inl i => obtain ⟨t, e⟩ := (show ∃ t, u = Value.int i t from r); subst e; exact mixKind_int P w i t
  | inr x => obtain ⟨t, e⟩ := (show ∃ t, u = Value.str x t from r); subst e; exact mixKind_str P w x t
theorem items_are {P : Program} {w : World} : ∀ {ks : List Key} {us : List Value}, Vals (ks.map kV) us → ItemsAre (mixKind P w) ks us
  | [], _, r => by rw [List.map_nil] at r; cases r; exact .nil
  | k :: ks, _, r => by
    rw [List.map_cons] at r
    cases r with
    | cons h t => exact .cons (kV_is h) (items_are t)
abbrev KT (H : Hp) : List (List Key × V) → List (List Key × Addr × Value) → Prop := Paired fun p q => p.1 = q.1 ∧ H q.2.1 = some (.tup (p.1.map kV)) ∧ RelV p.2 q.2.2
theorem KT.val {H : Hp} {kvs : List (List Key × V)} {xs : List (List Key × Addr × Value)} (r : KT H kvs xs) (k : List Key) : RelO (valV kvs k) ((atKey xs k).map (·.2)) := by
  induction r with
  | nil => exact True.intro
  | @cons p q ps qs h t ih =>
    obtain ⟨h1, _, h2⟩ := h
    by_cases e : p.1 = k
    · have e' : q.1 = k := h1.symm.trans e
      have b : atKey (q :: qs) k = some q.2 := by simp [atKey, List.find?_cons, e']
      rw [valV_pos e, b]; exact h2
    · have e' : ¬ q.1 = k := fun z => e (h1.trans z)
      have b : atKey (q :: qs) k = atKey qs k := by simp [atKey, List.find?_cons, e']
      rw [valV_neg e, b]; exact ih
theorem KT.repl {H : Hp} {kvs : List (List Key × V)} {xs : List (List Key × Addr × Value)} (r : KT H kvs xs) (k : List Key) {y : V} {u : Value} (ry : RelV y u) :
    KT H (kvs.map fun kv => if kv.1 = k then (kv.1, y) else kv) (xs.map (putAt k u)) := by
  induction r with
  | nil => exact .nil
  | @cons p q ps qs h t ih =>
    rw [List.map_cons, List.map_cons]
    refine .cons ?_ ih
    obtain ⟨h1, h2, h3⟩ := h
    unfold putAt
    by_cases e : p.1 = k
    · rw [if_pos e, if_pos (h1.symm.trans e)]; exact ⟨h1, h2, ry⟩
    · rw [if_neg e, if_neg (fun z => e (h1.trans z))]; exact ⟨h1, h2, h3⟩
theorem KT.put {H : Hp} {kvs : List (List Key × V)} {xs : List (List Key × Addr × Value)} (r : KT H kvs xs) (k : List Key) {b : Addr} {y : V} {u : Value} (hb : H b = some (.tup (k.map kV))) (ry : RelV y u) :
    KT H (putK kvs k y) (storedH xs k b u) := by
  have e : (kvs.any fun kv => decide (kv.1 = k)) = (atKey xs k).isSome := by
    rw [valV_any, (r.val k).isSome_eq, Option.isSome_map]
  unfold putK storedH
  rw [e]
  by_cases q : (atKey xs k).isSome = true
  · rw [if_pos q, if_pos q]; exact r.repl k ry
  · rw [if_neg q, if_neg q]; exact Paired.snoc r ⟨rfl, hb, ry⟩
theorem KT.keeps {H H' : Hp} {kvs : List (List Key × V)} {xs : List (List Key × Addr × Value)} (r : KT H kvs xs) (ht : ∀ b ys, H b = some (.tup ys) → H' b = some (.tup ys)) : KT H' kvs xs :=
  Paired.mapP r fun _ _ z => ⟨z.1, ht _ _ z.2.1, z.2.2⟩
section
variable {P : Program} {w : World} {H : Hp} {h : Heap} {a : Addr}
theorem rd_of {u : HO} (ok : HOk P w H h) (e : Rd H a u) : ObjOk P w H h a u := e.ok ok
theorem dk_rd {kvs : List (Key × V)} (ok : HOk P w H h) (e : Rd H a (.dK kvs)) : kvs.length ≤ sizeLine ∧ (a == sysModules) = false ∧ ∃ vs, KV kvs vs ∧ h.DictOf (mixKind P w) a vs :=
  show ObjOk P w H h a (.dK kvs) from rd_of ok e
theorem dk_of {kvs : List (Key × V)} (ok : HOk P w H h) (e : H a = some (.dK kvs)) : kvs.length ≤ sizeLine ∧ (a == sysModules) = false ∧ ∃ vs, KV kvs vs ∧ h.DictOf (mixKind P w) a vs := dk_rd ok (.inl e)
theorem key_of {ks : List Key} (ok : HOk P w H h) (e : H a = some (.tup (ks.map kV))) : (tupleKind (mixKind P w)).is h ks a := by
  obtain ⟨_, its, r, o, h1, h2, n, h3⟩ := (show ObjOk P w H h a (.tup (ks.map kV)) from ok a _ e)
  exact ⟨o, its.toArray, n, h1, h2, h3, by simpa using items_are r⟩
theorem dt_rd {kvs : List (List Key × V)} (ok : HOk P w H h) (e : Rd H a (.dT kvs)) : kvs.length ≤ sizeLine ∧ (a == sysModules) = false ∧
    ∃ xs, KT H kvs xs ∧ h.DictOfH (tupleKind (mixKind P w)) a xs := by
  obtain ⟨z, y, xs, r, o, es, ep, h1, h2, h3, h4, h5⟩ := (show ObjOk P w H h a (.dT kvs) from rd_of ok e)
  refine ⟨z, y, xs, r, o, es, ep, h1, h2, h3, h4, fun x hx => ?_, h5⟩
  have all : ∀ {l : List (List Key × V)} {m : List (List Key × Addr × Value)}, KT H l m → ∀ x ∈ m, (tupleKind (mixKind P w)).is h x.1 x.2.1 := by
    intro l m q
    induction q with
    | nil => intro x hx; exact nomatch hx
    | @cons p q ps qs hq t ih =>
      intro x hx
      rcases List.mem_cons.mp hx with e | hx
      · subst e
        exact key_of ok (by rw [← hq.1]; exact hq.2.1)
      · exact ih x hx
  exact all r x hx
theorem dt_of {kvs : List (List Key × V)} (ok : HOk P w H h) (e : H a = some (.dT kvs)) : kvs.length ≤ sizeLine ∧ (a == sysModules) = false ∧
    ∃ xs, KT H kvs xs ∧ h.DictOfH (tupleKind (mixKind P w)) a xs := dt_rd ok (.inl e)
end
noncomputable def DGet (H : Hp) (a : Addr) (y : V) (r : Option V) : Prop :=
  (∃ kvs k, Rd H a (.dK kvs) ∧ y = kV k ∧ r = valV kvs k) ∨ ∃ kvs k b, Rd H a (.dT kvs) ∧ y = .ref b ∧ H b = some (.tup (k.map kV)) ∧ r = valV kvs k
noncomputable def DPut (H : Hp) (a : Addr) (y v : V) (H' : Hp) : Prop :=
  (∃ kvs k, H a = some (.dK kvs) ∧ y = kV k ∧ kvs.length < sizeLine ∧ H' = upd H a (.dK (putK kvs k v))) ∨
  ∃ kvs k b, H a = some (.dT kvs) ∧ y = .ref b ∧ H b = some (.tup (k.map kV)) ∧ kvs.length < sizeLine ∧ H' = upd H a (.dT (putK kvs k v))
theorem DGet.k {H : Hp} {a : Addr} {kvs : List (Key × V)} {k : Key} (e : H a = some (.dK kvs)) : DGet H a (kV k) (valV kvs k) := .inl ⟨kvs, k, .inl e, rfl, rfl⟩
theorem DGet.t {H : Hp} {a b : Addr} {kvs : List (List Key × V)} {k : List Key} (e : H a = some (.dT kvs)) (eb : H b = some (.tup (k.map kV))) : DGet H a (.ref b) (valV kvs k) := .inr ⟨kvs, k, b, .inl e, rfl, eb, rfl⟩
theorem DPut.k {H : Hp} {a : Addr} {kvs : List (Key × V)} {k : Key} {v : V} (e : H a = some (.dK kvs)) (hl : kvs.length < sizeLine) : DPut H a (kV k) v (upd H a (.dK (putK kvs k v))) := .inl ⟨kvs, k, e, rfl, hl, rfl⟩
theorem DPut.t {H : Hp} {a b : Addr} {kvs : List (List Key × V)} {k : List Key} {v : V} (e : H a = some (.dT kvs)) (eb : H b = some (.tup (k.map kV))) (hl : kvs.length < sizeLine) :
    DPut H a (.ref b) v (upd H a (.dT (putK kvs k v))) := .inr ⟨kvs, k, b, e, rfl, eb, hl, rfl⟩
section
variable {X : Cx} {pins : List (Addr × Obj)} {σ : St} {H : Hp} {s : Shared} {a : Addr} {y v : V} {u r : Value} {o : Option V} {A : Around} {E : Value → Shared → Prop}
theorem Inv.big (I : Inv X pins σ H s) : sysModules < s.heap.objs.size := by
  have h : mainGlobals < s.heap.objs.size := (I.mod.glob.keeps I.bk).lt
  exact Nat.lt_trans (by decide) h
theorem d_getItem {Q : Value → Shared → Prop} (hu : A.units + 1 < cLine) (I : Inv X pins σ H s) (g : DGet H a y (some v)) (ry : RelV y u) (h : ∀ w' s', Inv X pins σ H s' → RelV v w' → Q w' s') :
    wpAny (model X.prog X.w) A (getItem (.ref a) u) Q E s := by
  rcases g with ⟨kvs, k, e, ey, l⟩ | ⟨kvs, k, b, e, ey, eb, l⟩
  · subst ey
    obtain ⟨z, hd, vs, rel, dd⟩ := dk_rd I.hok e
    obtain ⟨w', hw, rw'⟩ := RelO.some_of (v := v) (o := valueAt vs k) (by rw [l]; exact rel.val k)
    exact wpAny_getItem_of (kV_is ry) dd.mapOf hw (h w' _ (I.tok _) rw')
  · subst ey
    cases (show u = Value.ref b from ry)
    obtain ⟨z, hd, xs, rel, dd⟩ := dt_rd I.hok e
    obtain ⟨w', hw, rw'⟩ := RelO.some_of (v := v) (o := (atKey xs k).map (·.2)) (by rw [l]; exact rel.val k)
    obtain ⟨p, hp, hp2⟩ := Option.map_eq_some_iff.mp hw
    refine wpAny_getItem_heap (tupleKind_room_in1 hu) (key_of I.hok eb) dd hp ?_
    rw [hp2]
    exact h w' _ (I.tok _) rw'
theorem d_in {Q : Value → Shared → Prop} (hu : A.units + 1 < cLine) (I : Inv X pins σ H s) (g : DGet H a y o) (ry : RelV y u) (h : ∀ s', Inv X pins σ H s' → Q (.bool o.isSome) s') :
    wpAny (model X.prog X.w) A (compareOp .In u (.ref a)) Q E s := by
  rcases g with ⟨kvs, k, e, ey, l⟩ | ⟨kvs, k, b, e, ey, eb, l⟩
  · subst ey
    obtain ⟨z, hd, vs, rel, dd⟩ := dk_rd I.hok e
    refine wpAny_in_of (kV_is ry) hd dd.mapOf ?_
    rw [← (rel.val k).isSome_eq, ← l]
    exact h _ (I.tok _)
  · subst ey
    cases (show u = Value.ref b from ry)
    obtain ⟨z, hd, xs, rel, dd⟩ := dt_rd I.hok e
    refine wpAny_in_heap (tupleKind_room_in1 hu) (key_of I.hok eb) hd dd ?_
    have q := (rel.val k).isSome_eq
    rw [Option.isSome_map] at q
    rw [← q, ← l]
    exact h _ (I.tok _)
theorem d_notIn {Q : Value → Shared → Prop} (hu : A.units + 1 < cLine) (I : Inv X pins σ H s) (g : DGet H a y o) (ry : RelV y u) (h : ∀ s', Inv X pins σ H s' → Q (.bool (!o.isSome)) s') :
    wpAny (model X.prog X.w) A (compareOp .NotIn u (.ref a)) Q E s := by
  rcases g with ⟨kvs, k, e, ey, l⟩ | ⟨kvs, k, b, e, ey, eb, l⟩
  · subst ey
    obtain ⟨z, hd, vs, rel, dd⟩ := dk_rd I.hok e
    refine wpAny_notIn_of (kV_is ry) hd dd.mapOf ?_
    rw [← (rel.val k).isSome_eq, ← l]
    exact h _ (I.tok _)
  · subst ey
    cases (show u = Value.ref b from ry)
    obtain ⟨z, hd, xs, rel, dd⟩ := dt_rd I.hok e
    refine wpAny_notIn_heap (tupleKind_room_in1 hu) (key_of I.hok eb) hd dd ?_
    have q := (rel.val k).isSome_eq
    rw [Option.isSome_map] at q
    rw [← q, ← l]
    exact h _ (I.tok _)
theorem d_write {h' : Heap} {t' : Nat} {ob : HO} (I : Inv X pins σ H s) (mu : Mut (H a)) (hs : Heap.SameBut a s.heap h') (he : ∃ q, h'.get? a = some q) (new : ObjOk X.prog X.w (upd H a ob) h' a ob) :
    Inv X pins σ (upd H a ob) { s with heap := h', toks := t' } :=
  I.write (x := a) (e := a) mu (.inl rfl) (fun b q hb z => (hs.2 b hb).trans z) he new
theorem dk_new {P : Program} {w : World} {H' : Hp} {h' : Heap} {kvs : List (Key × V)} {vs : List (Key × Value)} (z : kvs.length ≤ sizeLine) (hd : (a == sysModules) = false) (rel : KV kvs vs) (dd : h'.DictOf (mixKind P w) a vs) :
    ObjOk P w H' h' a (.dK kvs) := ⟨z, hd, vs, rel, dd⟩
theorem d_setItem {H' : Hp} {Q : Unit → Shared → Prop} (hu : A.units + 1 < cLine) (I : Inv X pins σ H s) (g : DPut H a y v H') (ry : RelV y u) (rv : RelV v r) (h : ∀ s', Inv X pins σ H' s' → Q () s') :
    wpAny (model X.prog X.w) A (setItem (.ref a) u r) Q E s := by
  rcases g with ⟨kvs, k, e, ey, l, eH⟩ | ⟨kvs, k, b, e, ey, eb, l, eH⟩
  · subst ey eH
    obtain ⟨z, hd, vs, rel, dd⟩ := dk_of I.hok e
    have hz : vs.length ≤ sizeLine := by rw [← rel.length]; exact z
    have hl : (putK kvs k v).length ≤ sizeLine := by have := length_putK kvs k v; lia
    refine wpAny_setItem_pairs (hsz := hz) (kV_is ry) dd fun h' dd' hs => h _ ?_
    have he : ∃ q, h'.get? a = some q := let ⟨q, _, _, hq, _⟩ := dd'; ⟨q, hq⟩
    exact d_write I (by rw [e]; exact True.intro) hs he (dk_new hl hd (rel.put k rv) dd')
  · subst ey eH
    cases (show u = Value.ref b from ry)
    obtain ⟨z, hd, xs, rel, dd⟩ := dt_of I.hok e
    have hz : xs.length ≤ sizeLine := by rw [← Paired.length rel]; exact z
    have hl : (putK kvs k v).length ≤ sizeLine := by have := length_putK kvs k v; lia
    refine wpAny_setItem_heap (hsz := hz) (tupleKind_room_in1 hu) (key_of I.hok eb) dd fun h' dd' hs => h _ ?_
    obtain ⟨q, es, ep, hq, h2, h3, h4, _, h5⟩ := dd'
    refine d_write I (by rw [e]; exact True.intro) hs ⟨q, hq⟩ ⟨hl, hd, _, (rel.put k eb rv).keeps fun c ys ec => ?_, q, es, ep, hq, h2, h3, h4, h5⟩
    rw [upd_ne (ne_of ec e (fun z => nomatch z))]
    exact ec
end
section
variable {X : Cx} {pins : List (Addr × Obj)} {σ : St} {H : Hp} {s : Shared} {a : Addr} {kvs : List (Key × V)} {k : Key} {u : Value} {A : Around} {E : Value → Shared → Prop}
end
noncomputable def NoSl (i : Expr) : Prop := ∀ ov iv, subscripted i false ov iv = operate [ov, iv] (getItem ov iv)
theorem subD_of {prog : Program} {w : World} {A : Around} {E : Value → Shared → Prop} {s : Shared} {env : Env} {value slice : Expr} {pos : Pos} {T id : String} {Q : Value → Shared → Prop}
    (hl : typeLookup (.type T) "__getitem__" = pure (some (.builtin id))) (hs : NoSl slice)
    (h : wpAny (model prog w) A (eval value env) (fun o s₁ => wpAny (model prog w) A (eval slice env) (fun i s₂ => s₂.TypeIs o T ∧ wpAny (model prog w) A (getItem o i) Q E s₂) E s₁) E s) :
    wpAny (model prog w) A (eval (.Subscript value slice pos) env) Q E s := by
  refine Subscript_ (wpAny_mono h (fun o s₁ h₁ => wpAny_mono h₁ (fun i s₂ h₂ => ?_) fun _ _ x => x) fun _ _ x => x)
  obtain ⟨hT, h₂⟩ := h₂
  unfold subscriptTail
  refine wpAny_bind ?_
  rw [getitemInPython_of_ne hT.not_modules]
  refine wpAny_bind (wpAny_specialOf hT hl ?_)
  have fin : wpAny (model prog w) A (subscripted slice false o i) (fun r s₃ => wpAny (model prog w) A (letTemporaryGo value o r >>= fun _ => pure r) Q E s₃) E s₂ := by
    rw [hs o i]
    exact wpAny_operating (wpAny_mono h₂ (fun r s₃ h₃ => wpAny_bind (wpAny_letTemporaryGo (wpAny_pure h₃))) fun _ _ x => x)
  first
    | exact wpAny_pure (wpAny_bind fin)
    | exact wpAny_bind (wpAny_pure (wpAny_bind fin))
    | exact wpAny_bind fin
theorem dict_typeIs {X : Cx} {pins : List (Addr × Obj)} {σ : St} {H : Hp} {s : Shared} {a : Addr} {y : V} {o : Option V} (I : Inv X pins σ H s) (g : DGet H a y o) : s.TypeIs (.ref a) "dict" := by
  rcases g with ⟨kvs, k, e, _, _⟩ | ⟨kvs, k, b, e, _, _, _⟩
  · obtain ⟨_, _, vs, _, dd⟩ := dk_rd I.hok e
    exact dd.typeIs
  · obtain ⟨_, _, xs, _, dd⟩ := dt_rd I.hok e
    exact dd.typeIs
noncomputable def tDGet (td ty : TE) : TE := fun σ H Q => td σ H fun x H1 => ty σ H1 fun y H2 => ∃ a v, x = .ref a ∧ DGet H2 a y (some v) ∧ Q v H2
noncomputable def tDIn (ty td : TE) : TE := fun σ H Q => ty σ H fun y H1 => td σ H1 fun x H2 => ∃ a o, x = .ref a ∧ DGet H2 a y o ∧ Q (.bl o.isSome) H2
noncomputable def tDNotIn (ty td : TE) : TE := fun σ H Q => ty σ H fun y H1 => td σ H1 fun x H2 => ∃ a o, x = .ref a ∧ DGet H2 a y o ∧ Q (.bl (!o.isSome)) H2
noncomputable def sDPut (td ty tv : TE) : TS := fun D σ H => tv σ H fun v H1 => td σ H1 fun x H2 => ty σ H2 fun y H3 => ∃ a H4, x = .ref a ∧ DPut H3 a y v H4 ∧ D.nx σ H4
section
variable {X : Cx} {o i e value : Expr} {pos pos' tpos : Pos} {td ty tv : TE}
theorem pe_dget (hu : X.A.units + 1 < cLine) (ho : PE X o td) (hi : PE X i ty) (hs : NoSl i) : PE X (.Subscript o i pos) (tDGet td ty) := by
  intro pins s σ H Q I h
  refine subD_of PySem.F.slot_dict_getitem.lookup hs (thn (ho pins s σ H _ I h) fun u s1 ⟨x, H1, I1, rx, q1⟩ => thn (hi pins s1 σ H1 _ I1 q1) fun iv s2 ⟨y, H2, I2, ry, a, v, ex, g, q2⟩ => ?_)
  subst ex
  obtain rfl : u = Value.ref a := rx
  exact ⟨dict_typeIs I2 g, d_getItem hu I2 g ry fun w' s3 I3 rw' => ⟨v, H2, I3, rw', q2⟩⟩
theorem pc_din (hu : X.A.units + 1 < cLine) (hi : PE X i ty) (ho : PE X o td) : PC X .In i o (tDIn ty td) := by
  intro pins s σ H Q I h
  refine thn (hi pins s σ H _ I h) fun iv s1 ⟨y, H1, I1, ry, q1⟩ => thn (ho pins s1 σ H1 _ I1 q1) fun u s2 ⟨x, H2, I2, rx, a, ov, ex, g, q2⟩ => ?_
  subst ex
  obtain rfl : u = Value.ref a := rx
  exact d_in hu I2 g ry fun s3 I3 => ⟨.bl ov.isSome, H2, I3, rfl, q2⟩
theorem pc_dnotin (hu : X.A.units + 1 < cLine) (hi : PE X i ty) (ho : PE X o td) : PC X .NotIn i o (tDNotIn ty td) := by
  intro pins s σ H Q I h
  refine thn (hi pins s σ H _ I h) fun iv s1 ⟨y, H1, I1, ry, q1⟩ => thn (ho pins s1 σ H1 _ I1 q1) fun u s2 ⟨x, H2, I2, rx, a, ov, ex, g, q2⟩ => ?_
  subst ex
  obtain rfl : u = Value.ref a := rx
  exact d_notIn hu I2 g ry fun s3 I3 => ⟨.bl (!ov.isSome), H2, I3, rfl, q2⟩
theorem ps_dput (hu : X.A.units + 1 < cLine) (ho : PE X o td) (hi : PE X i ty) (hv : PE X value tv) (hs : swapsWith value (some (.Subscript o i pos')) pos.line X.env = pure false) :
    PS X (.Assign [.Subscript o i pos'] value pos) (sDPut td ty tv) := by
  intro pins s σ H D I h
  refine wpAny_Assign_Subscript (thn (hv pins s σ H _ I h) fun r s1 ⟨v, H1, I1, rv, q1⟩ => thn (ho pins s1 σ H1 _ I1 q1) fun u s2 ⟨x, H2, I2, rx, q2⟩ => thn (hi pins s2 σ H2 _ I2 q2) fun iv s3 ⟨y, H3, I3, ry, a, H4, ex, g, q3⟩ => ?_) hs
  subst ex
  obtain rfl : u = Value.ref a := rx
  exact d_setItem hu I3 g ry rv fun s4 I4 => ⟨σ, H4, I4, q3⟩
end
theorem dk_empty {P : Program} {w : World} {H : Hp} (h : Heap) (hb : sysModules < h.objs.size) : ObjOk P w H (h.push { cls := .type "dict", data := .dict #[] }) h.objs.size (.dK []) :=
  ⟨Nat.zero_le _, beq_eq_false_iff_ne.mpr (Ne.symm (Nat.ne_of_lt hb)), [], .nil, Heap.DictOf.new h⟩
theorem dt_empty {P : Program} {w : World} {H : Hp} (h : Heap) (hb : sysModules < h.objs.size) : ObjOk P w H (h.push { cls := .type "dict", data := .dict #[] }) h.objs.size (.dT []) :=
  ⟨Nat.zero_le _, beq_eq_false_iff_ne.mpr (Ne.symm (Nat.ne_of_lt hb)), [], .nil, _, #[], 0, Heap.get?_push_size _ rfl, ⟨rfl, rfl, rfl⟩, rfl, rfl, List.nodup_nil⟩
noncomputable def tDNewK : TE := fun _ H Q => ∀ p, H p = none → Q (.ref p) (upd H p (.dK []))
noncomputable def tDNewT : TE := fun _ H Q => ∀ p, H p = none → Q (.ref p) (upd H p (.dT []))
section
variable {X : Cx} {pos : Pos}
theorem pe_dnewK : PE X (.Dict [] [] pos) tDNewK := fun pins s σ H Q I h =>
  wpAny_Dict_empty ⟨.ref s.heap.objs.size, _, I.laid (a := s.heap.objs.size) (o := .dK []) (t' := s.toks) (fun _ _ q => Heap.get?_push_of_some _ q) (Nat.le_refl _) (dk_empty s.heap I.big), rfl, h _ (I.hok.fresh (Nat.le_refl _))⟩
theorem pe_dnewT : PE X (.Dict [] [] pos) tDNewT := fun pins s σ H Q I h =>
  wpAny_Dict_empty ⟨.ref s.heap.objs.size, _, I.laid (a := s.heap.objs.size) (o := .dT []) (t' := s.toks) (fun _ _ q => Heap.get?_push_of_some _ q) (Nat.le_refl _) (dt_empty s.heap I.big), rfl, h _ (I.hok.fresh (Nat.le_refl _))⟩
end
structure M2 (X : Cx) (o : Expr) (m : Str) (apos : Pos) (e f : Expr) (cpos : Pos) : Prop where
  base : attributeBase o m X.env (eval o X.env) = eval o X.env
  few : ((backTo cpos (starEach [e, f] X.env)).all (fun x => !x.1) && (backToKw cpos (keywordEach [] X.env)).all (fun x => x.1.isSome)
    && decide (([e, f] : List Expr).length + ([] : List Keyword).length + (if ([] : List Keyword).isEmpty then 0 else 1) < 30)) = true
  line : (apos.endLine == cpos.line) = true
  trees : backTo cpos (starEach [e, f] X.env) = [(false, eval e X.env), (false, eval f X.env)]
noncomputable def IsD (H : Hp) (a : Addr) : Prop := (∃ kvs, Rd H a (.dK kvs)) ∨ ∃ kvs, Rd H a (.dT kvs)
theorem isD_at {X : Cx} {pins : List (Addr × Obj)} {σ : St} {H : Hp} {s : Shared} {a : Addr} (I : Inv X pins σ H s) (d : IsD H a) :
    s.TypeIs (.ref a) "dict" ∧ (∀ b, Value.ref a = .ref b → ∃ ob, s.heap.get? b = some ob ∧ ob.dict = none) ∧ (a == sysModules) = false := by
  rcases d with ⟨kvs, e⟩ | ⟨kvs, e⟩
  · obtain ⟨_, hd, vs, _, dd⟩ := dk_rd I.hok e
    refine ⟨dd.typeIs, fun b q => ?_, hd⟩
    cases q
    obtain ⟨ob, _, _, h1, h2, _⟩ := dd
    exact ⟨ob, h1, h2.2.1⟩
  · obtain ⟨_, hd, xs, _, dd⟩ := dt_rd I.hok e
    refine ⟨dd.typeIs, fun b q => ?_, hd⟩
    cases q
    obtain ⟨ob, _, _, h1, h2, _⟩ := dd
    exact ⟨ob, h1, h2.2.1⟩
section
variable {X : Cx} {pins : List (Addr × Obj)} {σ : St} {H : Hp} {s : Shared} {a : Addr} {y d : V} {u r : Value} {o : Option V} {A : Around} {E : Value → Shared → Prop}
theorem d_get2 {Q : Value → Shared → Prop} (hu : A.units + 1 < cLine) (I : Inv X pins σ H s) (g : DGet H a y o) (ry : RelV y u) (rd : RelV d r) (h : ∀ w' s', Inv X pins σ H s' → RelV (o.getD d) w' → Q w' s') :
    wpAny (model X.prog X.w) A (call (.builtin "dict.get") [.ref a, u, r]) Q E s := by
  rcases g with ⟨kvs, k, e, ey, l⟩ | ⟨kvs, k, b, e, ey, eb, l⟩
  · subst ey
    obtain ⟨z, hd, vs, rel, dd⟩ := dk_rd I.hok e
    refine call_meetsIn PySem.F.slot_dict_get dd.typeIs PySem.F.entry_dict_get (PySem.F.args_dict_get_3 _ _ _) (meets_dict_get_default (mixKind X.prog X.w) a (kV_is ry) hd r) ⟨_, dd.mapOf, h _ _ (I.tok _) ?_⟩
    rw [l]
    exact (rel.val k).getD rd
  · subst ey
    cases (show u = Value.ref b from ry)
    obtain ⟨z, hd, xs, rel, dd⟩ := dt_rd I.hok e
    refine call_meetsIn PySem.F.slot_dict_get dd.typeIs PySem.F.entry_dict_get (PySem.F.args_dict_get_3 _ _ _) (meetsH_dict_get_default (tupleKind (mixKind X.prog X.w)) a b hd r) ⟨tupleKind_room_in1 hu, k, xs, key_of I.hok eb, dd, h _ _ (I.tok _) ?_⟩
    rw [l]
    exact (rel.val k).getD rd
end
noncomputable def tDGet2 (td ty tx : TE) : TE := fun σ H Q => td σ H fun x H1 => ∃ a, x = .ref a ∧ IsD H1 a ∧ ty σ H1 fun y H2 => tx σ H2 fun z H3 => ∃ o, DGet H3 a y o ∧ Q (o.getD z) H3
section
variable {X : Cx} {o e f : Expr} {apos cpos : Pos} {td ty tx : TE}
theorem pe_dget2 (hu : X.A.units + 1 < cLine) (ho : PE X o td) (he : PE X e ty) (hf : PE X f tx) (m : M2 X o "get" apos e f cpos) : PE X (.Call (.Attribute o "get" apos) [e, f] [] cpos) (tDGet2 td ty tx) := by
  intro pins s σ H Q I h
  refine wpAny_Call_method m.base m.few m.line PySem.F.plainAttrs_dict PySem.F.slot_dict_get PySem.F.type_dict_get (thn (ho pins s σ H _ I h) fun u s1 ⟨x, H1, I1, rx, a, ex, d, q1⟩ => ?_)
  subst ex
  obtain rfl : u = Value.ref a := rx
  obtain ⟨t1, t2, _⟩ := isD_at I1 d
  refine ⟨t1, t2, ?_⟩
  rw [m.trees]
  refine Calls.callWith_builtin rfl (Calls.evalArgs_plain (Calls.spliced_cons (thn (he pins s1 σ H1 _ I1 q1) fun iv s2 ⟨y, H2, I2, ry, q2⟩ =>
    Calls.spliced_cons (thn (hf pins s2 σ H2 _ I2 q2) fun fv s3 ⟨z, H3, I3, rz, ov, g, q3⟩ => Calls.spliced_nil ?_))))
  exact d_get2 hu I3 g ry rz fun w' s4 I4 rw' => ⟨_, H3, I4, rw', q3⟩
end
section
variable {X : Cx} {pins : List (Addr × Obj)} {σ : St} {H : Hp} {s : Shared} {a : Addr} {kvs : List (Key × V)} {A : Around} {E : Value → Shared → Prop}
end
section
variable {X : Cx} {pins : List (Addr × Obj)} {σ : St} {H : Hp} {s : Shared} {a : Addr} {y : V} {u : Value} {A : Around} {E : Value → Shared → Prop}
end
section
variable {X : Cx}
end
section
variable {κ : Type} [DecidableEq κ]
theorem valV_not {kvs : List (κ × V)} {k : κ} (h : valV kvs k = none) : ¬ k ∈ kvs.map (·.1) := by
  intro m
  obtain ⟨p, hp, e⟩ := List.mem_map.mp m
  have q : (kvs.any fun kv => decide (kv.1 = k)) = true := List.any_eq_true.mpr ⟨p, hp, decide_eq_true e⟩
  rw [valV_any, h] at q
  exact absurd q (by simp)
theorem valV_in {kvs : List (κ × V)} {k : κ} {v : V} (h : valV kvs k = some v) : k ∈ kvs.map (·.1) := by
  have q : (kvs.any fun kv => decide (kv.1 = k)) = true := by
    rw [valV_any, h]
    all_goals rfl
  obtain ⟨p, hp, e⟩ := List.any_eq_true.mp q
  exact List.mem_map.mpr ⟨p, hp, of_decide_eq_true e⟩
end
end L2
namespace L2
open PySem PySem.Spec PyProof.Rows
section
variable {X : Cx}
end
end L2
namespace L2
open PySem PySem.Spec PyProof.Rows
section
variable {X : Cx} {es es1 : List Expr} {t t1 : TA} {te : TE} {x : Str} {j : Nat} {pos pos2 : Pos}
theorem pa_str {j} (hr : PA X es t) : PA X (.Constant (.str x) j pos :: es) (tCons (tC (.str x)) t) := pa_cons pe_str hr rfl
theorem pa_int {i : Int} {j} (hr : PA X es t) : PA X (.Constant (.int i) j pos :: es) (tCons (tC (.int i)) t) := pa_cons pe_int hr rfl
theorem pa_nm (h : PE X (.Name x pos) te) (hr : PA X es t) : PA X (.Name x pos :: es) (tCons te t) := pa_cons h hr rfl
theorem pa_tp {x1} (h : PA X es1 t1) (hr : PA X es t) : PA X (.Tuple es1 x1 pos :: es) (tCons (tTup t1) t) := pa_cons (pe_tup h) hr rfl
theorem pa_sub {a b : Expr} (h : PE X (.Subscript a b pos) te) (hr : PA X es t) : PA X (.Subscript a b pos :: es) (tCons te t) := pa_cons h hr rfl
theorem pa_call {f : Expr} {as : List Expr} {ks : List Keyword} (h : PE X (.Call f as ks pos) te) (hr : PA X es t) : PA X (.Call f as ks pos :: es) (tCons te t) := pa_cons h hr rfl
theorem pa_bop {a b : Expr} {op : Operator} (h : PE X (.BinOp a op b pos) te) (hr : PA X es t) : PA X (.BinOp a op b pos :: es) (tCons te t) := pa_cons h hr rfl
end
end L2
namespace L2
open PySem PySem.Spec PyProof.Rows
structure QE (X : Cx) (e : Expr) (t : TE) : Prop where
  run : PE X e t
structure QT (X : Cx) (e : Expr) (t : TT) : Prop where
  run : PT X e t
structure QW (X : Cx) (e : Expr) (t : TT) : Prop where
  run : PW X e t
structure QA (X : Cx) (es : List Expr) (t : TA) : Prop where
  run : PA X es t
structure QS (X : Cx) (st : Stmt) (t : TS) : Prop where
  run : PS X st t
structure QB (X : Cx) (st : List Stmt) (t : TS) : Prop where
  run : PSs X st t
structure QI (X : Cx) (tg iter : Expr) (wi : TI) : Prop where
  run : PI X tg iter wi
structure QG (X : Cx) (target : Expr) (t : TG) : Prop where
  run : PG X target t
structure QO (X : Cx) (e : Option Expr) (t : TO) : Prop where
  run : PO X e t
structure QTs (X : Cx) (ifs : List Expr) (t : TT) : Prop where
  run : PTs X ifs t
theorem QW.qt {X : Cx} {e : Expr} {t : TT} (h : QW X e t) : QT X e t := ⟨PW.pt h.run⟩
section
variable {st : Stmt} {id : String} {lo hi : Option Expr}
set_option autoImplicit true
set_option relaxedAutoImplicit true
theorem qb_nil  : QB X [] tNext := ⟨pss_nil ⟩
theorem qb_cons {rest : List Stmt} (h1 : QS X st t) (h2 : QB X rest u) : QB X (st :: rest) (tSeq t u) := ⟨pss_cons h1.run h2.run⟩
theorem qb_one (h1 : QS X st t) : QB X [st] t := ⟨pss_one h1.run⟩
theorem qs_if {c : Expr} {a b : List Stmt} {tc : TT} (hc : QT X c tc) (ha : QB X a t) (hb : QB X b u) : QS X (.If c a b pos) (tIfS tc t u) := ⟨ps_if hc.run ha.run hb.run⟩
theorem qs_set {i : Nat} {x : Str} {e : Expr} {te : TE} {pos' : Pos} (hN : X.N.Nodup) (hi : X.N[i]? = some x) (hx : Loc X.env.scope x) (he : QE X e te) (hs : swapsWith e (some (.Name x pos')) pos.line X.env = pure false := by rfl) (hf : X.fn x = true ∨ X.env.scope.names.lookup x = some .local := by first | exact .inl rfl | exact .inr rfl | assumption) :     QS X (.Assign [.Name x pos'] e pos) (tAsg te (gName i)) := ⟨ps_set hN hi hx he.run hs hf⟩
theorem qs_ret (he : QE X e te) : QS X (.Return (some e) pos) (tRet te) := ⟨ps_ret he.run⟩
theorem qs_expr (he : QE X e te) (hs : swapsWith e none pos.line X.env = pure false := by rfl) : QS X (.Expr e pos) (tDrop te) := ⟨ps_expr he.run hs⟩
theorem qs_for {iter : Expr} {body : List Stmt} {wi : TI} {g : TG} {tb : TS} {pos : Pos} (hp : PassesOwn (model X.prog X.w) X.A X.env X.xe) (hc : X.calm = true) (hi : QI X tg iter wi) (hg : QG X tg g) (hb : QB X body tb) (hs : ∀ x, foldedSetIterable iter X.env x = pure x := by intro _; rfl) : QS X (.For tg iter body [] pos) (tFor wi g tb) := ⟨ps_for hp hc hi.run hg.run hb.run hs⟩
theorem qs_asg {tg e : Expr} {te : TE} {g : TG} (he : QE X e te) (hg : QG X tg g) (hs : swapsWithSole [tg] e pos.line X.env = pure false := by rfl) (hw : swappedStores [tg] e X.env = pure none := by rfl) (h1 : (assignEach [tg] X.env).map (·.2) = [assign tg X.env] := by rfl) : QS X (.Assign [tg] e pos) (tAsg te g) := ⟨ps_asg he.run hg.run hs hw h1⟩
theorem qs_while {c : Expr} {body : List Stmt} {tc : TT} {tb : TS} (hp : PassesOwn (model X.prog X.w) X.A X.env X.xe) (hc : QT X c tc) (hb : QB X body tb) : QS X (.While c body [] pos) (tWhile tc tb) := ⟨ps_while hp hc.run hb.run⟩
theorem qs_break  : QS X (.Break pos) tBreak := ⟨ps_break ⟩
theorem qe_int {i j pos} : QE X (.Constant (.int i) j pos) (tC (.int i)) := ⟨pe_int ⟩
theorem qe_bl {b j pos} : QE X (.Constant (.bool b) j pos) (tC (.bl b)) := ⟨pe_bl ⟩
theorem qe_non {j pos} : QE X (.Constant .none j pos) (tC .non) := ⟨pe_non ⟩
theorem qe_str {x j pos} : QE X (.Constant (.str x) j pos) (tC (.str x)) := ⟨pe_str ⟩
theorem qv (i : Nat) {x : Str} {pos : Pos} (hN : X.N[i]? = some x := by rfl) (hv : Vis X.env.scope x := by first | exact Or.inl rfl | exact Or.inr (Or.inl rfl) | exact Or.inr (Or.inr rfl)) (hd : (x == ("__debug__" : Str)) = false := by decide) (hcd : (x == ("__classdict__" : Str)) = false := by decide) : QE X (.Name x pos) (tVar i) := ⟨pv i hN hv hd hcd⟩
theorem qe_op {op : Operator} {r : R2} (ho : OpR X (binaryOp op) r) (ha : QE X a ta) (hb : QE X b tb) : QE X (.BinOp a op b pos) (tOp r ta tb) := ⟨pe_op ho ha.run hb.run⟩
theorem qe_cmpR {op : CmpOp} {r : R2} (ho : OpR X (compareOp op) r) (ha : QE X a ta) (hb : QE X b tb) (hm : behindInMarks op b = false) : QE X (.Compare a [op] [b] pos) (tOp r ta tb) := ⟨pe_cmpR ho ha.run hb.run hm⟩
theorem qt_cmpR {op : CmpOp} {r : R2} (ho : OpR X (compareOp op) r) (ha : QE X a ta) (hb : QE X b tb) (hm : behindInMarks op b = false) : QT X (.Compare a [op] [b] pos) (tTest (tOp r ta tb)) := ⟨pt_cmpR ho ha.run hb.run hm⟩
theorem qt_val {e : Expr} {t : TE} (h : QE X e t) (he : ∀ whole, isTrue e X.env whole = (do let v ← whole; standAt e.pos; holding [v] (truthy v)) := by intro _; rfl) : QT X e (tB t) := ⟨pt_val h.run he⟩
theorem qt_not (ha : QT X a tA) : QT X (.UnaryOp .Not a pos) (tNot tA) := ⟨pt_not ha.run⟩
theorem qw_and1 (ha : QT X a tA) : QW X (.BoolOp .And [a] pos) tA := ⟨pw_and1 ha.run⟩
theorem qw_or1 (ha : QT X a tA) : QW X (.BoolOp .Or [a] pos) tA := ⟨pw_or1 ha.run⟩
theorem qw_and {rest : List Expr} (ha : QT X a tA) (hb : QW X (.BoolOp .And (b :: rest) pos) tB') : QW X (.BoolOp .And (a :: b :: rest) pos) (tAnd tA tB') := ⟨pw_and ha.run hb.run⟩
theorem qw_or {rest : List Expr} (ha : QT X a tA) (hb : QW X (.BoolOp .Or (b :: rest) pos) tB') : QW X (.BoolOp .Or (a :: b :: rest) pos) (tOr tA tB') := ⟨pw_or ha.run hb.run⟩
theorem qe_one {op} {t : TE} (h : QE X a t) : QE X (.BoolOp op [a] pos) t := ⟨pe_one h.run⟩
theorem qe_and {rest : List Expr} (ha : QE X a ta) (hb : QE X (.BoolOp .And (b :: rest) pos) tb) : QE X (.BoolOp .And (a :: b :: rest) pos) (tAndV ta tb) := ⟨pe_and ha.run hb.run⟩
theorem qe_or {rest : List Expr} (ha : QE X a ta) (hb : QE X (.BoolOp .Or (b :: rest) pos) tb) : QE X (.BoolOp .Or (a :: b :: rest) pos) (tOrV ta tb) := ⟨pe_or ha.run hb.run⟩
theorem qe_ifExp {c : Expr} (hc : QT X c tA) (ha : QE X a ta) (hb : QE X b tb) : QE X (.IfExp c a b pos) (tIf tA ta tb) := ⟨pe_ifExp hc.run ha.run hb.run⟩
theorem qe_ix {r : R2} (hr : IxR X r) (ha : QE X a ta) (hb : QE X b tb) (hs : PlainIx b) : QE X (.Subscript a b pos) (tOp r ta tb) := ⟨pe_ix hr ha.run hb.run hs⟩
theorem qe_slice {r : V → Option Int → Option Int → Hp → VK → Prop} (hr : SlR X r) (he : QE X e te) (hl : QO X lo tl) (hu : QO X hi th) : QE X (.Subscript e (.Slice lo hi none p2) pos) (tSl r te tl th) := ⟨pe_slice hr he.run hl.run hu.run⟩
theorem qo_none  : QO X none tNoPart := ⟨po_none ⟩
theorem qo_some (h : QE X e te) : QO X (some e) (tPart te) := ⟨po_some h.run⟩
theorem qe_tup {x1} (h : QA X es t) : QE X (.Tuple es x1 pos) (tTup t) := ⟨pe_tup h.run⟩
theorem qe_lst (h : QA X es t) : QE X (.List es pos) (tLst t) := ⟨pe_lst h.run⟩
theorem qe_call (F : FnOk X.prog X.w X.K X.mg X.base CX k f fd ps sp) (hr : Room k X.A) (hg : Gl X x) (hm : X.mg x = some (.ref f)) (hk : PySem.W.keepIn X.K (.ref f) = true) (hb : Binds X.K fd ps ds) (hd : Vals dvs ds) (hx : Passes CX X E) (ha : QA X (e :: es) t) (hdb : (x == ("__debug__" : Str)) = false := by decide) (he : starEach (e :: es) X.env = (false, eval e X.env) :: starEach es X.env := by rfl) (hpl : (backTo pos (starEach es X.env)).any (·.1) = false := by rfl) :     QE X (.Call (.Name x p) (e :: es) [] pos) (tCall sp dvs E t) := ⟨pe_call F hr hg hm hk hb hd hx ha.run hdb he hpl⟩
theorem qe_callB (hc : CallR X (.builtin id) r) (hg : Gl X x) (hm : X.mg x = none) (hv : bootBuiltins x = some (.builtin id)) (ha : QA X (e :: es) t) (hn : x ≠ "__name__" := by decide) (hdb : (x == ("__debug__" : Str)) = false := by decide) (he : starEach (e :: es) X.env = (false, eval e X.env) :: starEach es X.env := by rfl) (hpl : (backTo pos (starEach es X.env)).any (·.1) = false := by rfl) : QE X (.Call (.Name x p) (e :: es) [] pos) (tCB r t) := ⟨pe_callB hc hg hm hv ha.run hn hdb he hpl⟩
theorem qe_callTy (hc : CallR X (.type T) r) (hg : Gl X x) (hm : X.mg x = none) (hv : bootBuiltins x = some (.type T)) (ha : QA X (e :: es) t) (hn : x ≠ "__name__" := by decide) (hdb : (x == ("__debug__" : Str)) = false := by decide) (he : starEach (e :: es) X.env = (false, eval e X.env) :: starEach es X.env := by rfl) (hpl : (backTo pos (starEach es X.env)).any (·.1) = false := by rfl) : QE X (.Call (.Name x p) (e :: es) [] pos) (tCB r t) := ⟨pe_callTy hc hg hm hv ha.run hn hdb he hpl⟩
theorem qi_list {l : Expr} {tl : TE} (hl : QE X l tl) : QI X tg l (iList X.K tl) := ⟨pi_list hl.run⟩
theorem qi_str {l : Expr} {tl : TE} (hl : QE X l tl) : QI X tg l (iStr tl) := ⟨pi_str hl.run⟩
theorem qi_range1 {a : Expr} {ta : TA} {p pos : Pos} (hg : Gl X "range") (hm : X.mg "range" = none) (ha : QA X [a] ta) (hs : starEach [a] X.env = [(false, eval a X.env)] := by rfl) : QI X tg (.Call (.Name "range" p) [a] [] pos) (iRng1 ta) := ⟨pi_range1 hg hm ha.run hs⟩
theorem qg_name {i : Nat} {x : Str} (hN : X.N.Nodup) (hi : X.N[i]? = some x) (hx : Loc X.env.scope x) (hf : X.fn x = true ∨ X.env.scope.names.lookup x = some .local := by first | exact .inl rfl | exact .inr rfl | assumption) : QG X (.Name x pos) (gName i) := ⟨pg_name hN hi hx hf⟩
theorem qa_nil  : QA X [] tNil := ⟨pa_nil ⟩
theorem qa_cons (ha : QE X e te) (hr : QA X es t) (hs : starEach (e :: es) X.env = (false, eval e X.env) :: starEach es X.env := by rfl) : QA X (e :: es) (tCons te t) := ⟨pa_cons ha.run hr.run hs⟩
theorem qa_str {j} (hr : QA X es t) : QA X (.Constant (.str x) j pos :: es) (tCons (tC (.str x)) t) := ⟨pa_str hr.run⟩
theorem qa_int {i : Int} {j} (hr : QA X es t) : QA X (.Constant (.int i) j pos :: es) (tCons (tC (.int i)) t) := ⟨pa_int hr.run⟩
theorem qa_nm (h : QE X (.Name x pos) te) (hr : QA X es t) : QA X (.Name x pos :: es) (tCons te t) := ⟨pa_nm h.run hr.run⟩
theorem qa_tp {x1} (h : QA X es1 t1) (hr : QA X es t) : QA X (.Tuple es1 x1 pos :: es) (tCons (tTup t1) t) := ⟨pa_tp h.run hr.run⟩
theorem qa_sub {a b : Expr} (h : QE X (.Subscript a b pos) te) (hr : QA X es t) : QA X (.Subscript a b pos :: es) (tCons te t) := ⟨pa_sub h.run hr.run⟩
theorem qa_call {f : Expr} {as : List Expr} {ks : List Keyword} (h : QE X (.Call f as ks pos) te) (hr : QA X es t) : QA X (.Call f as ks pos :: es) (tCons te t) := ⟨pa_call h.run hr.run⟩
theorem qa_bop {a b : Expr} {op : Operator} (h : QE X (.BinOp a op b pos) te) (hr : QA X es t) : QA X (.BinOp a op b pos :: es) (tCons te t) := ⟨pa_bop h.run hr.run⟩
theorem qts_nil {X : Cx} : QTs X [] tYes := ⟨pts_nil ⟩
theorem qts_one {X : Cx} {c : Expr} {t : TT} (h : QT X c t) : QTs X [c] t := ⟨pts_one h.run⟩
end
theorem Fun.okQ {P : Program} {w : World} {K : PySem.W.Frag} {mg : Str → Option Value} {base : Heap} {x qual : Str} {st : Stmt} {f : Addr} {fd : FuncData} {N ps : List Str} {k : Nat} {sp : Sp} (F : Fun K x qual st f fd) (S : FnScope N ps (defScope st)) (len : ∀ vs H Q E, sp vs H Q E → vs.length = ps.length)
    (hbody : ∀ (cdv : Value) (A : Around) (outer : List Env) (s : Shared) (H : Hp) (vs : List V) (Q : VK) (E : XK), Room k (A.deeper (envOfC qual (defScope st) s.heap.objs.size f cdv)) → sp vs H Q E →
      ∃ t, QB (cxOf CX0 P w K mg base N qual (defScope st) f cdv A outer s H E).nox (defBody st) t ∧ t { nx := fun _ H' => Q .non H', rt := Q } (start N vs) H) : FnOk P w K mg base CX0 (k + 1) f fd ps sp :=
  F.ok S len fun cdv A outer s H vs Q E hr h => by
    obtain ⟨t, h1, h2⟩ := hbody cdv A outer s H vs Q E hr h
    exact ⟨t, h1.run, h2⟩
end L2
namespace L2
open PySem PySem.Spec PyProof.Rows
section
variable {X : Cx} {st : Stmt} {t : TS} {e : Expr} {te : TE}
noncomputable def tTruth (K : PySem.W.Frag) (ta : TE) : TT := fun σ H Q => ta σ H fun x H' => ∃ k, TruV K x H' k ∧ Q k H'
theorem qt_truth {K : PySem.W.Frag} (ha : QE X e te) (hK : X.K = K := by rfl) (he : ∀ whole, isTrue e X.env whole = (do let v ← whole; standAt e.pos; holding [v] (truthy v)) := by intro _; rfl) : QT X e (tTruth K te) := by
  subst hK
  exact ⟨pt_truth ha.run he⟩
end
section
variable {id : String}
set_option autoImplicit true
set_option relaxedAutoImplicit true
theorem qe_bmK {K : PySem.W.Frag} (hK : X.K = K) (pa : PlainAttrs T) (slot : Slot T name id) (hty : typeOf (.builtin id) = pure (.type "method_descriptor")) (hm : MtR X id r) (ho : QE X o to) (ha : QA X (e :: es) t) (hbase : attributeBase o name X.env (eval o X.env) = eval o X.env := by rfl) (hfew : ((backTo cpos (starEach (e :: es) X.env)).all (fun x => !x.1) && (backToKw cpos (keywordEach [] X.env)).all (fun x => x.1.isSome)       && decide ((e :: es).length + ([] : List Keyword).length + (if ([] : List Keyword).isEmpty then 0 else 1) < 30)) = true := by rfl) (hline : (apos.endLine == cpos.line) = true := by rfl) (hs : starEach (e :: es) X.env = (false, eval e X.env) :: starEach es X.env := by rfl) (hplain : (backTo cpos (starEach es X.env)).any (·.1) = false := by rfl) : QE X (.Call (.Attribute o name apos) (e :: es) [] cpos) (tBM K T r to t) := by
  subst hK
  exact ⟨pe_bm pa slot hty hm ho.run ha.run hbase hfew hline hs hplain⟩
end
end L2
namespace L2
open PySem PySem.Spec PyProof.Rows
end L2
namespace L2
open PySem PySem.Spec PyProof.Rows
section
variable {X : Cx} {pins : List (Addr × Obj)} {σ : St} {H : Hp} {s : Shared} {h' : Heap}
end
section
variable {X : Cx}
end
end L2
namespace L2
open PySem PySem.Spec PyProof.Rows
section
variable {X : Cx}
theorem ps_setcomp {elt iter : Expr} {x yv : Str} {px pos py pos2 : Pos} {iy : Nat} {ifs : List Expr} {sc : Scope} {cl : List (Str × Addr)} {ix : List Nat} {wi : TI} {tc : TT} {te : TE} (N : List Str) (hNd : X.N.Nodup) (hiy : X.N[iy]? = some yv) (hyv : Loc X.env.scope yv) (hsw : swapsWith (.ListComp elt [⟨.Name x px, iter, ifs, 0⟩] sc pos) (some (.Name yv py)) pos2.line X.env = pure true) (hfy : X.fn yv = true ∨ X.env.scope.names.lookup yv = some .local)
    (hc : X.calm = true) (hi : PI X (.Name x px) iter wi) (hif : ∀ s H C ex, PTs (blk X N s H sc cl C ex) ifs tc) (he : ∀ s H C ex, PE (blk X N s H sc cl C ex) elt te)
    (hkind : sc.kind = .function) (hN : N = x :: ix.map fun j => (X.N[j]?).getD "") (hnd : N.Nodup) (hx : sc.names.lookup x = some .local)
    (hcl : closureFor sc X.env = pure cl) (hcell : ∀ y ∈ sc.names, y.2 ≠ .cell) (hnames : ∀ y ∈ sc.names, y.2 = .local → sc.names.lookup y.1 = some .local)
    (hsub : ∀ y c, cl.lookup y = some c → X.env.cells.lookup y = some c) (hhas : ∀ y, ((relabel sc X.env).names.lookup y = some .cell ∨ (relabel sc X.env).names.lookup y = some .free) → ∃ c, cl.lookup y = some c)
    (hix : ∀ j ∈ ix, ∃ y, X.N[j]? = some y ∧ X.env.kindOf y = some .cell ∧ (relabel sc X.env).names.lookup y = some .cell)
    (hs : ∀ x, foldedSetIterable iter X.env x = pure x := by intro _; rfl) :
    PS X (.Assign [.Name yv py] (.ListComp elt [⟨.Name x px, iter, ifs, 0⟩] sc pos) pos2) (tAsg (tComp ix wi tc te) (gName iy)) := by
  intro pins s σ H D0 I h
  rw [exec_Assign_Name_used _ _ _ _ hsw]
  refine wpAny_bind (wpAny_standAt (wpAny_bind ?_))
  show wpAny _ _ (comprehension _ _ _ _ _ _ _ _ >>= _) _ _ _
  refine wpAny_bind (wpAny_mono (Q := fun _ s' => SP X pins D0 .next s') (wpAny_comprehension_free (use := some (assign (.Name yv py) X.env)) rfl hs hcl hkind hnames ?_) (fun _ s' q => wpAny_pure (wpAny_pure q)) fun _ _ y => y)
  refine thn (hi pins s σ H _ I h) fun v s1 h1 => thn h1 fun itv s2 h2 => ?_
  obtain ⟨it, fp, tn, J, H2, e, I2, T, st2, f2, q2⟩ := h2
  subst e
  have fr2 : H2 s2.heap.objs.size = none := I2.hok.fresh (Nat.le_refl _)
  obtain ⟨W, ⟨m0, w0⟩, turn⟩ := q2 s2.heap.objs.size fr2
  refine wpAny_newObj_type ?_
  have I3 : Inv X pins σ (upd H2 s2.heap.objs.size (.lst [])) { s2 with heap := s2.heap.push { cls := .type "list", dict := none, data := .seq ([] : List Value).toArray } } := by
    exact I2.lnew (its := []) (ys := []) (t' := s2.toks) .nil (Nat.zero_le _)
  have lt2 : ∀ b ∈ fp, b < s2.heap.objs.size := fun b hb => by
    obtain ⟨o, ho, _⟩ := T.obj _ _ st2 b hb
    exact Heap.lt_size ho
  have f3 : ∀ b ∈ fp, FpOk X pins (upd H2 s2.heap.objs.size (.lst [])) b := fun b hb => ⟨by rw [upd_ne (Nat.ne_of_lt (lt2 b hb))]; exact (f2 b hb).1, (f2 b hb).2⟩
  generalize hs3 : ({ s2 with heap := s2.heap.push { cls := .type "list", dict := none, data := .seq ([] : List Value).toArray } } : Shared) = s3 at I3
  have hsz3 : s2.heap.objs.size ≤ s3.heap.objs.size := by rw [← hs3]; show _ ≤ (s2.heap.push _).objs.size; rw [Heap.size_push]; exact Nat.le_succ _
  have tn3 : tn 0 s3.heap := T.keep _ _ _ st2 fun b _ o e => by rw [← hs3]; exact Heap.get?_push_of_some _ e
  have lt3 : ∀ b ∈ fp, b < s3.heap.objs.size := fun b hb => Nat.lt_of_lt_of_le (lt2 b hb) hsz3
  refine wpAny_newFunctionEnv hcell (by intro y hy; simp at hy) (fun h4 hns4 hsb4 => ?_) hkind
  have old : ∀ b o, s3.heap.get? b = some o → h4.get? b = some o := fun b o e => hsb4.extBut b o (Nat.ne_of_lt (Heap.lt_size e)) (Heap.get?_push_of_some _ e)
  have I4 := inv_blk (m := _) (tk := s3.toks + ([] : List (Str × Value)).length) (N := N) I3 hkind hN hsub hhas hix f3 lt3 hns4 old
  have tn4 : tn 0 h4 := T.keep _ _ _ tn3 fun b _ o e => old b o e
  have fpB : ∀ {H' : Hp}, (∀ b ∈ fp, H' b = none) → ∀ b ∈ fp, FpOk (blk X N s3 (upd H2 s2.heap.objs.size (.lst [])) sc cl s3.heap.objs.size fp) [] H' b := fun {H'} hn b hb =>
    ⟨hn b hb, Nat.ne_of_lt (lt3 b hb), I4.ok.exfs b hb, .inl hb, fun y c e => (I4.ok.exf b hb).2 y c e, fun p hp => absurd (show p ∈ ([] : List (Addr × Obj)) from hp) (by simp)⟩
  have loop : codeAny (model X.prog X.w) X.A (.compLoop (.ListComp elt [⟨.Name x px, iter, ifs, 0⟩] sc pos) 0 (.ref it) (.ref s2.heap.objs.size) (compEnvC sc cl s3.heap.objs.size X.env))
      (compPost (model X.prog X.w) X.A X.xe (some (assign (.Name yv py) X.env)) (fun _ s' => SP X pins D0 .next s') (.ref s2.heap.objs.size) s3.heap.objs.size) { s3 with heap := h4, toks := s3.toks + ([] : List (Str × Value)).length } := by
    refine compLoop_go (fun n s' => ∃ i v0 H', Inv (blk X N s3 (upd H2 s2.heap.objs.size (.lst [])) sc cl s3.heap.objs.size fp) [] (v0 :: frees σ ix) H' s' ∧ tn i s'.heap ∧ (∀ b ∈ fp, H' b = none) ∧ W i n H') ?_ m0
      ⟨0, none, _, I4, tn4, fun b hb => (f3 b hb).1, w0⟩
    rintro n s5 ⟨i, v0, H5, I5, st5, fr5, w5⟩
    rcases turn i n H5 w5 with ⟨stop, qn⟩ | ⟨go, step⟩
    · refine thn (T.done (blk X N s3 (upd H2 s2.heap.objs.size (.lst [])) sc cl s3.heap.objs.size fp) rfl rfl rfl hc i [] s5 _ H5 _ I5 (fpB fr5) st5 stop) fun r s6 ⟨hr, I6⟩ => ?_
      subst hr
      obtain ⟨mm, hm, _⟩ := I6.loc
      have I7 : Inv X pins σ H5 s6 := by
        have hC : H5 s3.heap.objs.size = none := I6.free
        have hc3 : s3.heap.get? s3.heap.objs.size = none := Heap.get?_none_of_le (Nat.le_refl _)
        have up : ∀ b o, b ≠ s3.heap.objs.size → s6.heap.get? b = some o → s6.heap.get? b = some o := fun b o hb e => e
        have neC : ∀ b o, s3.heap.get? b = some o → b ≠ s3.heap.objs.size := fun b o e => Nat.ne_of_lt (Heap.lt_size e)
        have u := I6.base
        refine I3.call' (s' := s6) (ch := fp) I6.os ⟨fun b o e n hb hx => ?_, fun b o e n hb hx => ?_, fun b o e n hx => u.free b o e n hx, fun b o e hx => ?_, u.tups, u.frzs, u.tbls⟩ (fun b o e => ?_) I6.bare fun b hb => ⟨(f3 b hb).2.2.2.1, (f3 b hb).2.1, (f3 b hb).2.2.2.2.1, (f3 b hb).2.2.2.2.2⟩
        · exact up b o (neC b o e) (u.keep b o e n hb hx)
        · obtain ⟨sl, e1⟩ := u.slot b o e n hb hx
          exact ⟨sl, up b _ (neC b o e) e1⟩
        · obtain ⟨o', e1⟩ := u.there b o e hx
          exact ⟨o', up b _ (neC b o e) e1⟩
        · refine (I6.hok b o e).stay (fun c v hc' q => up c v ?_ q) (fun _ q => q) fun _ _ q => q
          rintro rfl
          rcases hc' with z | z
          · rw [← z, hC] at e; cases e
          · rw [hC] at z; cases z
      have hCn : H5 s3.heap.objs.size = none := I6.free
      have hCl : s3.heap.objs.size ≠ X.env.locals := Nat.ne_of_gt I3.lt
      have hCc : ∀ z c, X.env.cells.lookup z = some c → c ≠ s3.heap.objs.size := fun z c e e2 => by
        obtain ⟨v', q⟩ := I3.cell z c e
        exact absurd (e2 ▸ q.lt) (Nat.lt_irrefl _)
      refine wpAny_assign_Name (store_ok2 I7 hNd hiy hyv (show RelV (V.ref s2.heap.objs.size) (Value.ref s2.heap.objs.size) from rfl) (fun s8 I8 hsb => ?_) hfy)
      obtain ⟨a8, sb8, ha8⟩ := hsb
      have hna : s3.heap.objs.size ≠ a8 := by
        rcases ha8 with z | z
        · rw [z]; exact hCl
        · exact Ne.symm (hCc _ _ z)
      obtain ⟨oC, esC, epC, hoC, rC⟩ := hm
      refine ⟨mm, ⟨oC, esC, epC, sb8.extBut _ _ hna hoC, rC⟩, fun h9 sb9 => ?_⟩
      refine ⟨_, H5, I8.turned (t' := s8.toks) (it := s3.heap.objs.size) (fun b o hb e => sb9.extBut b o hb e) hCn hCl (.inr I3.sz) hCc (fun p hp e2 => ?_), qn⟩
      exact absurd (e2 ▸ Heap.lt_size (I3.pin p hp).1) (Nat.lt_irrefl _)
    · refine thn (T.item (blk X N s3 (upd H2 s2.heap.objs.size (.lst [])) sc cl s3.heap.objs.size fp) rfl rfl rfl hc i [] s5 _ H5 _ I5 (fpB fr5) st5 go) fun r s6 ⟨u, hr, h6⟩ => ?_
      subst hr
      refine thn h6 fun _ s7 ⟨y, H7, I7, r7, y7, st7, fr7⟩ => ?_
      have I7' := I7.pinned (fpB fr7) (T.obj _ _ st7)
      refine wpAny_assign_Name (store_ok (i := 0) I7' hnd (by show N[0]? = some x; rw [hN]; rfl) (.inl (lookup_relabel_local hx)) r7 (fun s8 I8 => ?_) (.inr (lookup_relabel_local hx)))
      have I8' : Inv (blk X N s3 (upd H2 s2.heap.objs.size (.lst [])) sc cl s3.heap.objs.size fp) ([] ++ pinsAt fp s7.heap) (some y :: frees σ ix) H7 s8 := I8
      refine thn (hif _ _ _ _ _ s8 _ H7 _ I8' (step y H7 y7)) fun ok s9 ⟨H9, I9, q9⟩ => ?_
      have again : ∀ {H' : Hp} {s' : Shared} {m' : Nat}, Inv (blk X N s3 (upd H2 s2.heap.objs.size (.lst [])) sc cl s3.heap.objs.size fp) ([] ++ pinsAt fp s7.heap) (some y :: frees σ ix) H' s' → m' < n → W (i + 1) m' H' →
          ∃ m, m < n ∧ ∃ i v0 H', Inv (blk X N s3 (upd H2 s2.heap.objs.size (.lst [])) sc cl s3.heap.objs.size fp) [] (v0 :: frees σ ix) H' s' ∧ tn i s'.heap ∧ (∀ b ∈ fp, H' b = none) ∧ W i m H' := fun {H' s' m'} Ia hm wa => by
        refine ⟨m', hm, i + 1, some y, H', Ia.unpinned, T.keep _ _ _ st7 fun b hb o e => (Ia.pin (b, o) (List.mem_append_right _ (List.mem_append_right _ (mem_pinsAt hb e)))).1, fun b hb => ?_, wa⟩
        obtain ⟨o, e, d⟩ := T.obj _ _ st7 b hb
        exact (Ia.pin (b, o) (List.mem_append_right _ (List.mem_append_right _ (mem_pinsAt hb e)))).2.1
      cases ok with
      | false =>
        rw [if_neg Bool.false_ne_true] at q9 ⊢
        obtain ⟨m', hm, wa⟩ := q9
        exact again I9 hm wa
      | true =>
        rw [if_pos rfl] at q9 ⊢
        refine thn (he _ _ _ _ _ s9 _ H9 _ I9 q9) fun v10 s10 ⟨z, H10, I10, r10, ys, hD, hl, m', hm, wa⟩ => ?_
        exact thn (mt_append _ s10 _ H10 (.ref s2.heap.objs.size) [z] (.ref s2.heap.objs.size) [v10] (fun _ H' => H' = upd H10 s2.heap.objs.size (.lst (ys ++ [z]))) I10 rfl (.cons r10 .nil) ⟨_, ys, z, rfl, rfl, hD, hl, rfl⟩)
          fun _ s11 ⟨_, H11, I11, _, e11⟩ => again I11 hm (by rw [e11]; exact wa)
  subst hs3
  exact codeAny_compStart_list loop (T.self _ 0 _ _ _ tn4 loop)
end
end L2
namespace L2
open PySem PySem.Spec PyProof.Rows
section
variable {X : Cx}
theorem qe_dnew {pos : Pos} : QE X (.Dict [] [] pos) tDNewK := ⟨pe_dnewK⟩
theorem qe_dget {o i : Expr} {pos : Pos} {td ty : TE} (hu : X.A.units + 1 < cLine) (ho : QE X o td) (hi : QE X i ty) (hs : NoSl i) : QE X (.Subscript o i pos) (tDGet td ty) := ⟨pe_dget hu ho.run hi.run hs⟩
theorem qt_din {o i : Expr} {pos : Pos} {td ty : TE} (hu : X.A.units + 1 < cLine) (hi : QE X i ty) (ho : QE X o td) (hm : behindInMarks .In o = false := by with_unfolding_all rfl) : QT X (.Compare i [.In] [o] pos) (tB (tDIn ty td)) := ⟨pt_cmp (pc_din hu hi.run ho.run) hm⟩
theorem qt_dnotin {o i : Expr} {pos : Pos} {td ty : TE} (hu : X.A.units + 1 < cLine) (hi : QE X i ty) (ho : QE X o td) (hm : behindInMarks .NotIn o = false := by with_unfolding_all rfl) : QT X (.Compare i [.NotIn] [o] pos) (tB (tDNotIn ty td)) := ⟨pt_cmp (pc_dnotin hu hi.run ho.run) hm⟩
theorem qe_din {o i : Expr} {pos : Pos} {td ty : TE} (hu : X.A.units + 1 < cLine) (hi : QE X i ty) (ho : QE X o td) (hm : behindInMarks .In o = false := by with_unfolding_all rfl) : QE X (.Compare i [.In] [o] pos) (tDIn ty td) := ⟨pe_cmp (pc_din hu hi.run ho.run) hm⟩
theorem qs_dput {o i value : Expr} {pos pos' : Pos} {td ty tv : TE} (hu : X.A.units + 1 < cLine) (ho : QE X o td) (hi : QE X i ty) (hv : QE X value tv) (hs : swapsWith value (some (.Subscript o i pos')) pos.line X.env = pure false := by rfl) :
    QS X (.Assign [.Subscript o i pos'] value pos) (sDPut td ty tv) := ⟨ps_dput hu ho.run hi.run hv.run hs⟩
theorem qe_dget2 {o e f : Expr} {apos cpos : Pos} {td ty tx : TE} (hu : X.A.units + 1 < cLine) (ho : QE X o td) (he : QE X e ty) (hf : QE X f tx) (m : M2 X o "get" apos e f cpos := by exact ⟨rfl, rfl, rfl, rfl⟩) :
    QE X (.Call (.Attribute o "get" apos) [e, f] [] cpos) (tDGet2 td ty tx) := ⟨pe_dget2 hu ho.run he.run hf.run m⟩
theorem key_rel {P : Program} {w : World} {k : Key} {v : Value} (h : (mixKind P w).is k v = true) : RelV (kV k) v := by
  rcases keyIs_shape h with ⟨i, t, rfl, rfl⟩ | ⟨x, t, rfl, rfl⟩
  · exact ⟨t, rfl⟩
  · exact ⟨t, rfl⟩
theorem vals_nth : ∀ {ks : List V} {vs : List Value}, vs.length = ks.length → (∀ (j : Nat) (v : Value), vs[j]? = some v → ∃ y, ks[j]? = some y ∧ RelV y v) → Vals ks vs
  | [], [], _, _ => .nil
  | k :: ks, v :: vs, hl, h => by
    obtain ⟨y, e, r⟩ := h 0 v rfl
    cases e
    exact .cons r (vals_nth (by simpa using hl) fun j u hu => h (j + 1) u (by simpa using hu))
theorem call_list_dict (hc : X.calm = true) : CallR X (.type "list") (fun xs H Q => ∃ a kvs, xs = [V.ref a] ∧ H a = some (.dK kvs) ∧ ∀ p, H p = none → Q (.ref p) (upd H p (.lst (kvs.map fun kv => kV kv.1)))) := by
  intro pins s σ H xs us Q I r h
  obtain ⟨a, kvs, rfl, ha, q⟩ := h
  obtain ⟨u, rfl, ru⟩ := vals1 r
  cases ru
  obtain ⟨z, hd, vs, rel, dd⟩ := dk_rd I.hok (.inl ha)
  have hl := rel.length
  obtain ⟨ep, da⟩ := dd.dictAt
  refine PySem.W.kdl_call (PySem.W.kdl_dict hd) (I.ok.hd hc) da (by rw [← hl]; exact z) fun h' tk acc c hk hD hacc => ?_
  refine ⟨.ref s.heap.objs.size, _, I.laid (t' := tk) hk (Nat.le_refl _) (show ObjOk X.prog X.w _ h' _ (.lst (kvs.map fun kv => kV kv.1)) from ⟨by rw [List.length_map]; exact z, acc.toList, c, ?_, by simpa using hD⟩), rfl, q _ (I.hok.fresh (Nat.le_refl _))⟩
  refine vals_nth (by rw [Array.length_toList, List.length_map, hl]; exact hacc.1) fun j v hv => ?_
  obtain ⟨k, x, e, ke⟩ := hacc.2 j v (by rw [← Array.getElem?_toList]; exact hv)
  have ek := rel.keys
  have e2 : (vs.map (·.1))[j]? = some k := by rw [List.getElem?_map, e]; rfl
  rw [← ek, List.getElem?_map] at e2
  refine ⟨kV k, ?_, key_rel ke⟩
  rw [List.getElem?_map]
  cases hj : kvs[j]? with
  | none => rw [hj] at e2; cases e2
  | some p => rw [hj] at e2; rw [← Option.some.inj e2]; rfl
end
section
variable {X : Cx}
end
theorem cl_has {L : List (Str × NameKind)} {cl : List (Str × Addr)} {ks : List Str} (hkm : cl.map (·.1) = ks) (hkB : (L.all fun y => (match y.2 with | .cell => false | .free => false | _ => true) || decide (y.1 ∈ ks)) = true) (z : Str) (h : L.lookup z = some .cell ∨ L.lookup z = some .free) : ∃ c, cl.lookup z = some c := by
  have hm : z ∈ cl.map (·.1) := by
    rw [hkm]
    rcases h with h | h
    · have := List.all_eq_true.mp hkB _ (PySem.mem_of_lookup h)
      simpa using this
    · have := List.all_eq_true.mp hkB _ (PySem.mem_of_lookup h)
      simpa using this
  clear hkm hkB
  induction cl with
  | nil => simp at hm
  | cons p r ih =>
    rw [List.lookup_cons]
    cases hb : z == p.1 with
    | true => exact ⟨_, rfl⟩
    | false =>
      rw [List.map_cons, List.mem_cons] at hm
      rcases hm with h1 | h1
      · rw [h1] at hb; simp at hb
      · exact ih h1
end L2
namespace L2
open PySem PySem.Spec PyProof.Rows
section
variable {X : Cx}
theorem op_inD (hu : X.A.units + 32 < cLine) : OpR X (compareOp .In) (fun x y H Q => ∃ p ys ds d, y = .ref p ∧ SqL X.K H p ys ∧ DpAll X.K H ys ds ∧ Dp X.K H x d ∧ EqOk (.list ds) ∧ EqOk d ∧ Q (.bl (ds.any fun e => PyData.eqv e d)) H) := by
  intro pins s σ H x y v u Q I rx ry h
  obtain ⟨p, ys, ds, d, rfl, hy, hds, hd, o1, o2, q⟩ := h
  obtain ⟨as, ra⟩ := Dp.reads I (.lst hy hds) ry
  obtain ⟨bs, rb⟩ := Dp.reads I hd rx
  have h1 := o1.1
  simp only [PyData.canLay0] at h1
  have h2 := o2.2
  exact PySem.SeqAt.in_list_reads ra rb h1 o2.1 (by have := Nat.min_le_right (PyData.depthAll ds) d.depth; lia) ⟨.bl _, H, I, rfl, q⟩
end
theorem cl_sub {cl cells : List (Str × Addr)} (h : ∀ p ∈ cl, cells.lookup p.1 = some p.2) (y : Str) (c : Addr) (e : cl.lookup y = some c) : cells.lookup y = some c := h (y, c) (PySem.mem_of_lookup e)
theorem qe_compG {X : Cx} {elt iter : Expr} {x : Str} {px pos : Pos} {ifs : List Expr} {sc : Scope} {cl : List (Str × Addr)} {wi : TI} {tc : TT} {te : TE} (N : List Str) (ix : List Nat) (hi : QI X (.Name x px) iter wi)
    (hif : ∀ s H C ex, QTs (blk X N s H sc cl C ex) ifs tc) (he : ∀ s H C ex, QE (blk X N s H sc cl C ex) elt te)
    (hcl : closureFor sc X.env = pure cl := by rfl) (hcs : ∀ p ∈ cl, X.env.cells.lookup p.1 = some p.2 := by intro p hp; simp only [List.mem_cons, List.not_mem_nil, or_false] at hp; first | (subst hp; with_unfolding_all rfl) | (rcases hp with rfl | rfl <;> with_unfolding_all rfl)) (hN : N = x :: ix.map (fun j => (X.N[j]?).getD "") := by rfl) (hnd : N.Nodup := by decide +kernel)
    (hkm : cl.map (·.1) = N.tail := by rfl) (hkB : ((relabel sc X.env).names.all fun y => (match y.2 with | .cell => false | .free => false | _ => true) || decide (y.1 ∈ N.tail)) = true := by with_unfolding_all rfl)
    (hix : ∀ j ∈ ix, ∃ y, X.N[j]? = some y ∧ X.env.kindOf y = some .cell ∧ (relabel sc X.env).names.lookup y = some .cell := by first | (intro j hj; simp only [List.mem_cons, List.not_mem_nil, or_false] at hj; subst hj; exact ⟨_, rfl, rfl, by with_unfolding_all rfl⟩) | (intro j hj; simp only [List.mem_cons, List.not_mem_nil, or_false] at hj; rcases hj with rfl | rfl <;> exact ⟨_, rfl, rfl, by with_unfolding_all rfl⟩))
    (hx : sc.names.lookup x = some .local := by decide +kernel) (hcell : ∀ z ∈ sc.names, z.2 ≠ .cell := by decide +kernel)
    (hnames : ∀ z ∈ sc.names, z.2 = .local → sc.names.lookup z.1 = some .local := by decide +kernel)
    (hc : X.calm = true := by rfl) (hkind : sc.kind = .function := by rfl) (hs : ∀ x, foldedSetIterable iter X.env x = pure x := by intro _; rfl) :
    QE X (.ListComp elt [⟨.Name x px, iter, ifs, 0⟩] sc pos) (tComp ix wi tc te) :=
  ⟨pe_comp N hc hi.run (fun s H C ex => (hif s H C ex).run) (fun s H C ex => (he s H C ex).run) hkind hN hnd hx hcl hcell hnames (cl_sub hcs) (cl_has hkm hkB) hix hs⟩
theorem qs_setCG {X : Cx} {elt iter : Expr} {x yv : Str} {px pos py pos2 : Pos} {i : Nat} {ifs : List Expr} {sc : Scope} {cl : List (Str × Addr)} {wi : TI} {tc : TT} {te : TE} (N : List Str) (ix : List Nat) (hNd : X.N.Nodup) (hiy : X.N[i]? = some yv) (hyv : Loc X.env.scope yv) (hi : QI X (.Name x px) iter wi)
    (hif : ∀ s H C ex, QTs (blk X N s H sc cl C ex) ifs tc) (he : ∀ s H C ex, QE (blk X N s H sc cl C ex) elt te)
    (hsw : swapsWith (.ListComp elt [⟨.Name x px, iter, ifs, 0⟩] sc pos) (some (.Name yv py)) pos2.line X.env = pure true := by rfl) (hfy : X.fn yv = true ∨ X.env.scope.names.lookup yv = some .local := by first | exact .inl rfl | exact .inr rfl | assumption)
    (hcl : closureFor sc X.env = pure cl := by rfl) (hcs : ∀ p ∈ cl, X.env.cells.lookup p.1 = some p.2 := by intro p hp; simp only [List.mem_cons, List.not_mem_nil, or_false] at hp; first | (subst hp; with_unfolding_all rfl) | (rcases hp with rfl | rfl <;> with_unfolding_all rfl)) (hN : N = x :: ix.map (fun j => (X.N[j]?).getD "") := by rfl) (hnd : N.Nodup := by decide +kernel)
    (hkm : cl.map (·.1) = N.tail := by rfl) (hkB : ((relabel sc X.env).names.all fun y => (match y.2 with | .cell => false | .free => false | _ => true) || decide (y.1 ∈ N.tail)) = true := by with_unfolding_all rfl)
    (hix : ∀ j ∈ ix, ∃ y, X.N[j]? = some y ∧ X.env.kindOf y = some .cell ∧ (relabel sc X.env).names.lookup y = some .cell := by first | (intro j hj; simp only [List.mem_cons, List.not_mem_nil, or_false] at hj; subst hj; exact ⟨_, rfl, rfl, by with_unfolding_all rfl⟩) | (intro j hj; simp only [List.mem_cons, List.not_mem_nil, or_false] at hj; rcases hj with rfl | rfl <;> exact ⟨_, rfl, rfl, by with_unfolding_all rfl⟩))
    (hx : sc.names.lookup x = some .local := by decide +kernel) (hcell : ∀ z ∈ sc.names, z.2 ≠ .cell := by decide +kernel)
    (hnames : ∀ z ∈ sc.names, z.2 = .local → sc.names.lookup z.1 = some .local := by decide +kernel)
    (hc : X.calm = true := by rfl) (hkind : sc.kind = .function := by rfl) (hs : ∀ x, foldedSetIterable iter X.env x = pure x := by intro _; rfl) :
    QS X (.Assign [.Name yv py] (.ListComp elt [⟨.Name x px, iter, ifs, 0⟩] sc pos) pos2) (tAsg (tComp ix wi tc te) (gName i)) :=
  ⟨ps_setcomp N hNd hiy hyv hsw hfy hc hi.run (fun s H C ex => (hif s H C ex).run) (fun s H C ex => (he s H C ex).run) hkind hN hnd hx hcl hcell hnames (cl_sub hcs) (cl_has hkm hkB) hix hs⟩
end L2
namespace L2
open PySem PySem.Spec PyProof.Rows
section
variable {X : Cx} {CX : CXT} {k : Nat} {f C : Addr} {fd : FuncData} {ps : List Str} {ds : List Value} {dvs : List V} {sp : Sp} {E : XK} {x m fl : Str} {p pos pos' apos : Pos} {e o value : Expr} {es : List Expr} {ta tv : TE} {t : TA}
theorem qe_fld (he : QE X e ta) (hb : attributeBase e fl X.env (eval e X.env) = eval e X.env := by rfl) : QE X (.Attribute e fl pos) (tFld X.K ta fl) := ⟨pe_fld he.run hb⟩
theorem qs_fld (ha : QE X o ta) (hv : QE X value tv) (hs : swapsWith value (some (.Attribute o fl pos')) pos.line X.env = pure false := by rfl) : QS X (.Assign [.Attribute o fl pos'] value pos) (sFld X.K ta tv fl) := ⟨ps_fld ha.run hv.run hs⟩
theorem qe_meth {pl : Sem Bool} (he : QE X o ta) (c : Cls X.K C) (hm : Meth X.K C m f) (F : FnOk X.prog X.w X.K X.mg X.base CX k f fd ps sp) (hr : Room k X.A) (hb : Binds X.K fd ps ds) (hd : Vals dvs ds) (hx : Passes CX X E) (ha : QA X (e :: es) t)
    (hst : starEach (e :: es) X.env = (false, eval e X.env) :: starEach es X.env := by rfl) (hpl : (backTo pos (starEach es X.env)).any (·.1) = false := by rfl)
    (ht : eval (.Call (.Attribute o m apos) (e :: es) [] pos) X.env = (do
      let ov ← eval o X.env
      standAt apos.atName
      let (f, first) ← holding [ov] (getMethod ov m pl)
      callWith pos f first (backTo pos (starEach (e :: es) X.env)) (backToKw pos (keywordEach [] X.env))) := by rfl) :
    QE X (.Call (.Attribute o m apos) (e :: es) [] pos) (tMeth C m sp dvs E ta t) := ⟨pe_meth he.run c hm F hr hb hd hx ha.run hst hpl ht⟩
theorem qe_meth0 {pl : Sem Bool} (he : QE X o ta) (c : Cls X.K C) (hm : Meth X.K C m f) (F : FnOk X.prog X.w X.K X.mg X.base CX k f fd ps sp) (hr : Room k X.A) (hb : Binds X.K fd ps ds) (hd : Vals dvs ds) (hx : Passes CX X E)
    (ht : eval (.Call (.Attribute o m apos) [] [] pos) X.env = (do
      let ov ← eval o X.env
      standAt apos.atName
      let (f, first) ← holding [ov] (getMethod ov m pl)
      callWith pos f first (backTo pos (starEach [] X.env)) (backToKw pos (keywordEach [] X.env))) := by rfl) :
    QE X (.Call (.Attribute o m apos) [] [] pos) (tMeth C m sp dvs E ta tNil) := ⟨pe_meth0 he.run c hm F hr hb hd hx ht⟩
theorem qe_make (M : Mk X.K C f) (F : FnOk X.prog X.w X.K X.mg X.base CX k f fd ps sp) (hr : Room (k + 1) X.A) (hg : Gl X x) (hm : X.mg x = some (.ref C)) (hb : Binds X.K fd ps ds) (hd : Vals dvs ds) (hx : Passes CX X E)
    (ha : QA X (e :: es) t) (hdb : (x == ("__debug__" : Str)) = false := by decide) (he : starEach (e :: es) X.env = (false, eval e X.env) :: starEach es X.env := by rfl) (hpl : (backTo pos (starEach es X.env)).any (·.1) = false := by rfl) :
    QE X (.Call (.Name x p) (e :: es) [] pos) (tMake C sp dvs E t) := ⟨pe_make M F hr hg hm hb hd hx ha.run hdb he hpl⟩
theorem qe_dnewT : QE X (.Dict [] [] pos) tDNewT := ⟨pe_dnewT⟩
end
section
variable {X : Cx} {pins : List (Addr × Obj)} {σ : St} {H : Hp} {s : Shared} {a : Addr} {y d : V} {u r : Value} {A : Around} {E : Value → Shared → Prop}
theorem d_setdef {kvs : List (Key × V)} {k : Key} {v : V} {Q : Value → Shared → Prop} (I : Inv X pins σ H s) (e : H a = some (.dK kvs)) (ry : RelV (kV k) u) (rv : RelV v r) (hl : kvs.length < sizeLine)
    (h1 : ∀ z w' s', valV kvs k = some z → Inv X pins σ H s' → RelV z w' → Q w' s') (h2 : valV kvs k = none → ∀ s', Inv X pins σ (upd H a (.dK (putK kvs k v))) s' → Q r s') :
    wpAny (model X.prog X.w) A (call (.builtin "dict.setdefault") [.ref a, u, r]) Q E s := by
  obtain ⟨z, hd, vs, rel, dd⟩ := dk_of I.hok e
  refine call_meetsIn PySem.F.slot_dict_setdefault dd.typeIs PySem.F.entry_dict_setdefault (PySem.F.args_dict_setdefault_3 _ _ _) (kt_meets_setdefault (mixKind X.prog X.w) a (kV_is ry) hd r) ⟨vs, dd, by rw [← rel.length]; exact z, fun w' hw => ?_, fun hn h' dd' hs => ?_⟩
  · have rr := rel.val k
    rw [hw] at rr
    cases hz : valV kvs k with
    | none => rw [hz] at rr; exact rr.elim
    | some zz => rw [hz] at rr; exact h1 zz w' _ hz (I.tok _) rr
  · have hnv : valV kvs k = none := by
      have rr := rel.val k
      rw [hn] at rr
      cases hz : valV kvs k with
      | none => rfl
      | some zz => rw [hz] at rr; exact rr.elim
    refine h2 hnv _ ?_
    have he : ∃ q, h'.get? a = some q := let ⟨q, _, _, hq, _⟩ := dd'; ⟨q, hq⟩
    have hl2 : (putK kvs k v).length ≤ sizeLine := by have := length_putK kvs k v; lia
    exact d_write I (by rw [e]; exact True.intro) hs he (dk_new hl2 hd (rel.put k rv) dd')
end
noncomputable def tDSet (td ty tx : TE) : TE := fun σ H Q => td σ H fun x H1 => ∃ a, x = .ref a ∧ IsD H1 a ∧ ty σ H1 fun y H2 => tx σ H2 fun z H3 => ∃ kvs k, H3 a = some (.dK kvs) ∧ y = kV k ∧ kvs.length < sizeLine ∧
  (∀ v, valV kvs k = some v → Q v H3) ∧ (valV kvs k = none → Q z (upd H3 a (.dK (putK kvs k z))))
section
variable {X : Cx} {o e f : Expr} {apos cpos : Pos} {td ty tx : TE}
theorem pe_dset (ho : PE X o td) (he : PE X e ty) (hf : PE X f tx) (m : M2 X o "setdefault" apos e f cpos) : PE X (.Call (.Attribute o "setdefault" apos) [e, f] [] cpos) (tDSet td ty tx) := by
  intro pins s σ H Q I h
  refine wpAny_Call_method m.base m.few m.line PySem.F.plainAttrs_dict PySem.F.slot_dict_setdefault PySem.F.type_dict_setdefault (thn (ho pins s σ H _ I h) fun u s1 ⟨x, H1, I1, rx, a, ex, d, q1⟩ => ?_)
  subst ex
  obtain rfl : u = Value.ref a := rx
  obtain ⟨t1, t2, _⟩ := isD_at I1 d
  refine ⟨t1, t2, ?_⟩
  rw [m.trees]
  refine Calls.callWith_builtin rfl (Calls.evalArgs_plain (Calls.spliced_cons (thn (he pins s1 σ H1 _ I1 q1) fun iv s2 ⟨y, H2, I2, ry, q2⟩ =>
    Calls.spliced_cons (thn (hf pins s2 σ H2 _ I2 q2) fun fv s3 ⟨z, H3, I3, rz, kvs, k, ea, ey, hl, q3, q4⟩ => Calls.spliced_nil ?_))))
  subst ey
  exact d_setdef I3 ea ry rz hl (fun v w' s4 l I4 rw' => ⟨v, H3, I4, rw', q3 v l⟩) fun l s4 I4 => ⟨z, _, I4, rz, q4 l⟩
theorem qe_dset (ho : QE X o td) (he : QE X e ty) (hf : QE X f tx) (m : M2 X o "setdefault" apos e f cpos := by exact ⟨rfl, rfl, rfl, rfl⟩) : QE X (.Call (.Attribute o "setdefault" apos) [e, f] [] cpos) (tDSet td ty tx) := ⟨pe_dset ho.run he.run hf.run m⟩
end
section
variable {prog : Program} {w : World} {A : Around} {E : Value → Shared → Prop} {s : Shared} {J d : Addr} {n ep : Nat} {es : Array DictEntry} {od : Obj}
theorem ent_look {Q : Option Value → Shared → Prop} (hj : s.heap.IsKeyIter J d n es.size ep) (h1 : s.heap.get? d = some od) (h2 : od.data = .dict es ep) (hh : A.handled = none)
    (q1 : ∀ (hn : n < es.size) h', h'.IsKeyIter J d (n + 1) es.size ep → Heap.SameBut J s.heap h' → Q (some es[n].key) { s with heap := h' }) (q2 : es.size ≤ n → ∀ h', Heap.ExtBut J s.heap h' → Q none { s with heap := h' }) :
    wpAny (model prog w) A (pyNext (.ref J)) Q E s := by
  obtain ⟨oj, g1, g2, g3⟩ := id hj
  have ty := hj.typeIs
  have no : Builtin.Dict_items.ownsTuple "dict_keyiterator" = false := by decide
  have nn : ¬ ((Value.ref d == Value.none) = true) := Bool.false_ne_true
  have pos : ¬ ((n : Int) < 0) := by lia
  unfold pyNext
  refine wpAny_bind (wpAny_attempt (wpAny_callSpecial?_slot (name := Str.ofString "__next__") ty PySem.F.slot_dict_keyiterator_next (wpAny_call_entry PySem.F.slot_dict_keyiterator_next ty PySem.F.entry_dict_keyiterator_next ?_ (PySem.F.args_dict_keyiterator_next_1 _))))
  refine wpAny_bind (wpAny_pure (wpAny_bind (wpAny_bind ?_)))
  first | refine wpAny_bind (wpAny_typeNameOfWhole_keyiter ty (wpAny_pure (wpAny_bind (wpAny_fieldsOf g1 g3 ?_)))) | refine wpAny_bind (wpAny_typeNameOf_keyiter ty (wpAny_pure (wpAny_bind (wpAny_fieldsOf g1 g3 ?_))))
  simp only [no, Bool.false_eq_true, if_false]
  show wpAny _ _ (if (Value.ref d == Value.none) = true then _ else _) _ _ s; rw [if_neg nn]
  refine wpAny_bind (wpAny_pure (wpAny_bind (wpAny_dictEntries h1 h2 ?_))); rw [if_neg (by simp)]
  refine wpAny_bind (wpAny_pure (wpAny_bind (wpAny_dictEpoch h1 h2 ?_))); rw [if_neg (by simp)]; refine wpAny_pure ?_
  by_cases hn : n < es.size
  · simp only [pos, if_false, Int.toNat_natCast, Array.getElem?_eq_getElem hn]
    refine wpAny_bind ?_
    first | refine wpAny_bind (wpAny_typeNameOfWhole_keyiter ty (wpAny_pure (wpAny_bind (wpAny_isOneOf_keyiter ty ?_)))) | refine wpAny_bind (wpAny_typeNameOf_keyiter ty (wpAny_pure (wpAny_bind (wpAny_isOneOf_keyiter ty ?_))))
    show wpAny _ _ (setField (.ref J) 1 (rawInt ((n : Int) + 1)) >>= _) _ _ s; refine wpAny_bind (wpAny_setField g1 g3 (by simp) ?_)
    have hj' : (s.heap.update J (Obj.mapFields (·.setIfInBounds 1 (rawInt ((n : Int) + 1))))).IsKeyIter J d (n + 1) es.size ep := ⟨_, Heap.get?_update_self _ g1 (Obj.isFreed_of_fields (Obj.data_mapFields g3 _)), (Obj.cls_mapFields ..).trans g2, (by rw [Obj.data_mapFields g3]; simp [rawInt])⟩
    refine wpAny_bind (wpAny_holding (wpAny_bind (wpAny_isOneOf_keyiter (s := { s with heap := s.heap.update J (Obj.mapFields (·.setIfInBounds 1 (rawInt ((n : Int) + 1)))) }) hj'.typeIs ?_)))
    exact wpAny_pure (wpAny_pure ⟨_, rfl, wpAny_pure (q1 hn _ hj' (Heap.SameBut.update ..))⟩)
  · simp only [pos, if_false, Int.toNat_natCast, Array.getElem?_eq_none (Nat.le_of_not_lt hn)]
    refine wpAny_bind ?_
    first | refine wpAny_bind (wpAny_typeNameOfWhole_keyiter ty (wpAny_pure ?_)) | refine wpAny_bind (wpAny_typeNameOf_keyiter ty (wpAny_pure ?_))
    show wpAny _ _ (setField (.ref J) 0 .none >>= _) _ _ s; refine wpAny_bind (wpAny_setField g1 g3 (by simp) (wpAny_bind ?_))
    simp only [newExc, newTuple]; refine wpAny_bind (wpAny_newObj_type ?_ (by size_fits))
    refine wpAny_bind (m := firstArgMember _ _) (wpAny_of_eq (a := Value.none) (by first | rfl | (simp only [firstArgMember]; rfl)) (wpAny_newObj_type ?_ (by size_fits)))
    simp only [raiseNew]; refine wpAny_bind (wpAny_handled ?_); rw [show A.in1.handled = none from hh]
    refine wpAny_bind (wpAny_pure (wpAny_throw ?_)); have sub := isSubtype_stop
    refine wpAny_bind (wpAny_isInstance (T := "StopIteration") (b := true) ⟨_, Heap.get?_push_size _ rfl, rfl⟩ sub ?_)
    exact wpAny_pure (q2 (Nat.le_of_not_lt hn) _ (((Heap.SameBut.update ..).extBut.push _).push _))
theorem ent_iter {Q : Value → Shared → Prop} (hd : (d == sysModules) = false) (h1 : s.heap.get? d = some od) (hc : od.ExactDict) (h2 : od.data = .dict es ep)
    (q : Q (.ref s.heap.objs.size) { s with heap := s.heap.push { cls := .type "dict_keyiterator", data := .fields #[.ref d, .int 0 0, .int es.size 0, .int ep 0] } }) : wpAny (model prog w) A (pyIter (.ref d)) Q E s := by
  have ty : s.TypeIs (.ref d) "dict" := ⟨od, h1, hc.1⟩
  refine wpAny_pyIter_slot ty PySem.F.slot_dict_iter (wpAny_call_entry PySem.F.slot_dict_iter ty PySem.F.entry_dict_iter ?_ (PySem.F.args_dict_iter_1 _))
  unfold Builtin.«dict.__iter__»; refine wpAny_bind ?_; unfold Builtin.Dict.dictSlotNone
  refine wpAny_bind (wpAny_notOrdered_dict ty (wpAny_pure ?_))
  show wpAny _ _ (Builtin.Dict.showsAll d >>= _) _ _ s; unfold Builtin.Dict.showsAll
  rw [if_neg (show ¬ (d == sysModules) = true by rw [hd]; exact Bool.false_ne_true)]
  refine wpAny_bind (wpAny_pure (wpAny_bind (wpAny_dictEntries h1 h2 (wpAny_bind (wpAny_dictEpoch h1 h2 ?_)))))
  exact wpAny_bind (wpAny_newObj_type (wpAny_pure ⟨_, rfl, "dict_keyiterator", _, ⟨_, Heap.get?_push_size _ rfl, rfl⟩, PySem.F.slot_dict_keyiterator_next.lookup, q⟩))
end
section
variable {X : Cx}
theorem call_any (hc : X.calm = true) : CallR X (.builtin "any") (fun xs H Q => ∃ (a : Addr) (bs : List Bool), xs = [.ref a] ∧ SqL X.K H a (bs.map V.bl) ∧ Q (.bl (bs.any id)) H) := by
  intro pins s σ H xs us Q I r h
  obtain ⟨a, bs, rfl, hq, q⟩ := h
  obtain ⟨u, rfl, ru⟩ := r.one
  cases ru
  obtain ⟨its, rv, p, hz⟩ := I.list hq
  have hlt : a < s.heap.objs.size := by obtain ⟨o, n, e, _⟩ := p; exact Heap.lt_size e
  refine call_any_walk (wpAny_pyIter_list p.isList ?_)
  have len : bs.length = its.length := by have := rv.length; simpa using this
  refine ⟨s.heap.objs.size, _, _, _, _, _, fun i => (bs[i]?).getD false, rfl, Walks.list (A := X.A.in1) (show X.A.in1.handled = none from I.ok.hd hc) s.heap.objs.size a (Nat.ne_of_lt hlt) its.toArray, ⟨⟨_, Heap.get?_push_size _ rfl, rfl, rfl⟩, p.isList.at fun o e => Heap.get?_push_of_some _ e⟩, ?_, ?_⟩
  · intro i v s' Q' E' hv hQ
    have hv' : its[i]? = some v := by simpa using hv
    cases hb : bs[i]? with
    | none =>
      have h1 := List.getElem?_eq_none_iff.mp hb
      have h2 := (List.getElem?_eq_some_iff.mp hv').1
      lia
    | some b =>
      obtain ⟨u, hu, ru⟩ := rv.get (i := i) (x := V.bl b) (by rw [List.getElem?_map, hb] <;> rfl)
      rw [hv'] at hu
      cases hu
      cases ru
      simp only [hb, Option.getD_some] at hQ
      exact wpAny_truthy_bool hQ
  · intro h' tk hk
    have e : (List.range its.toArray.size).any (fun i => (bs[i]?).getD false) = bs.any id := by
      rw [List.size_toArray, ← len]
      rw [Bool.eq_iff_iff]
      simp only [List.any_eq_true, List.mem_range, id]
      constructor
      · rintro ⟨i, hi, e⟩
        rw [List.getElem?_eq_getElem hi, Option.getD_some] at e
        exact ⟨_, List.getElem_mem hi, e⟩
      · rintro ⟨b, hb, e⟩
        obtain ⟨i, hi, e2⟩ := List.mem_iff_getElem.mp hb
        exact ⟨i, hi, by rw [List.getElem?_eq_getElem hi, Option.getD_some, e2]; exact e⟩
    have fr : FpOk X pins H s.heap.objs.size := I.fpOk (Nat.le_refl _) (I.hok.fresh (Nat.le_refl _))
    refine ⟨.bl (bs.any id), H, ?_, by rw [e]; rfl, q⟩
    have I1 : Inv X pins σ H { s with heap := h', toks := tk } := I.kept (h' := h') (t' := tk) fun b o e => hk b o (fun z => by
      have : b = s.heap.objs.size := by simpa using z
      exact absurd (Heap.lt_size e) (by rw [this]; exact Nat.lt_irrefl _)) (Heap.get?_push_of_some _ e)
    exact I1
end
noncomputable def NF (X : Cx) (a : Addr) : Prop := ∀ o u, X.H₀ a ≠ some (.frz o u)
section
variable {X : Cx} {pins : List (Addr × Obj)} {σ : St} {H : Hp} {s : Shared} {a : Addr} {u : HO} {o : Obj}
theorem Inv.nf (I : Inv X pins σ H s) (e : H a = some u) (hu : ∀ o v, u ≠ .frz o v) : NF X a := fun o v z => by
  have := I.base.frzs a o v z
  rw [e] at this
  exact hu o v (Option.some.inj this)
theorem Inv.thaw (I : Inv X pins σ H s) (e : H a = some (.frz o u)) (nf : NF X a) : Inv X pins σ (upd H a u) s := by
  have k : ∀ b v, H b = some v → (∀ o' u', v ≠ .frz o' u') → (upd H a u) b = some v := fun b v q n => by
    rw [upd_ne fun z => by rw [z, e] at q; exact n o u (Option.some.inj q).symm]; exact q
  have k0 : ∀ b, H b = none → (upd H a u) b = none := fun b q => by
    rw [upd_ne fun z => by rw [z, e] at q; cases q]; exact q
  have hok : HOk X.prog X.w (upd H a u) s.heap := fun b v q => by
    have st : ∀ {c : Addr} {w' : HO}, ObjOk X.prog X.w H s.heap c w' → ObjOk X.prog X.w (upd H a u) s.heap c w' := fun x => x.stay (fun _ _ _ z => z) (fun c z => k c _ z fun _ _ y => by cases y) fun c xs z => k c _ z fun _ _ y => by cases y
    by_cases hb : b = a
    · subst hb
      rw [upd_same] at q
      cases q
      exact st (I.hok b _ e).2
    · rw [upd_ne hb] at q
      exact st (I.hok b v q)
  have bs := I.base
  refine ⟨I.ok, I.os, I.bare, ⟨bs.keep, bs.slot, fun b ob q n hx => k0 b (bs.free b ob q n hx), bs.there, fun b xs q => k b _ (bs.tups b xs q) (fun _ _ y => nomatch y), fun b o' u' q => ?_, fun b ps q => ?_⟩, I.loc, I.cell, k0 _ I.free, fun x c z => k0 _ (I.freeC x c z), fun p hp => ?_, hok, I.len⟩
  · have q2 := bs.frzs b o' u' q
    rw [upd_ne fun z => by rw [z] at q; exact nf o' u' q]; exact q2
  · obtain ⟨m, q2⟩ := bs.tbls b ps q
    exact ⟨m, k b _ q2 fun _ _ y => by cases y⟩
  · obtain ⟨p1, p2, p3⟩ := I.pin p hp
    exact ⟨p1, k0 _ p2, p3⟩
end
theorem paired_bs {H : Hp} {kvs : List (List Key × V)} {xs : List (List Key × Addr × Value)} (h : Paired (fun (p : List Key × V) (q : List Key × Addr × Value) => p.1 = q.1 ∧ H q.2.1 = some (.tup (p.1.map kV)) ∧ RelV p.2 q.2.2) kvs xs) : Paired (fun (p : List Key × V) b => H b = some (.tup (p.1.map kV))) kvs (xs.map (·.2.1)) := by
  induction h with
  | nil => exact .nil
  | cons h t ih => exact .cons h.2.1 ih
end L2
namespace Mir
open PySem L2
end Mir
namespace K22
open PySem PySem.Spec L2 Mir
noncomputable def top (i : Nat) : Stmt := PySem.Challenge.pw_apart_k22_open_pairs.main.body.getD i (.Pass ⟨0, 0, 0, 0⟩)
structure Con (K : PySem.W.Frag) (mg : Str → Option Value) (w : World) : Prop where
  len : mg "len" = none
  all : mg "all" = none
  any : mg "any" = none
  isi : mg "isinstance" = none
  list : mg "list" = none
  int : mg "int" = none
  bool : mg "bool" = none
  str : mg "str" = none
  dict : mg "dict" = none
  sorted : mg "sorted" = none
  set : mg "set" = none
  sum : mg "sum" = none
  range : mg "range" = none
  tuple : mg "tuple" = none
  max : mg "max" = none
  zip : mg "zip" = none
theorem iteB {b : Bool} {A B : Prop} (h1 : b = true → A) (h2 : b = false → B) : if b = true then A else B := by
  cases b with
  | true => rw [if_pos rfl]; exact h1 rfl
  | false => rw [if_neg Bool.false_ne_true]; exact h2 rfl
theorem Paired.nth {α β : Type} {F : α → β → Prop} : ∀ {l₁ : List α} {l₂ : List β} {i : Nat} {a : α}, Paired F l₁ l₂ → l₁[i]? = some a → ∃ b, l₂[i]? = some b ∧ F a b
  | _, _, _, _, .nil, e => by simp at e
  | _, _, 0, _, .cons h _, e => by simp at e; subst e; exact ⟨_, rfl, h⟩
  | _, _, i + 1, _, .cons _ t, e => by
    obtain ⟨b, e1, e2⟩ := Paired.nth (i := i) t (by simpa using e)
    exact ⟨b, by simpa using e1, e2⟩
theorem gty {X : Cx} {x : Str} {n : String} {pos : Pos} (hm : X.mg x = none) (hv : bootBuiltins x = some (.type n)) (hg : Gl X x := by rfl) (hn : x ≠ "__name__" := by decide) (hdb : (x == ("__debug__" : Str)) = false := by decide) : PE X (.Name x pos) (tC (.ty n)) := pe_bltn hg hm hv rfl hn hdb
structure Cal (K : PySem.W.Frag) (mg : Str → Option Value) (x : Str) (f : Addr) (fd : FuncData) (ps : List Str) : Prop where
  name : mg x = some (.ref f)
  keep : PySem.W.keepIn K (.ref f) = true
  bind : Binds K fd ps []
theorem ref_at {l : List Addr} {i : Nat} {x : V} (hx : (l.map V.ref)[i]? = some x) : ∃ a, l[i]? = some a ∧ x = .ref a := by
  rw [List.getElem?_map] at hx
  cases h : l[i]? with
  | none => rw [h] at hx; cases hx
  | some a => rw [h] at hx; exact ⟨a, rfl, (Option.some.inj hx).symm⟩
theorem Paired.at2 {α β : Type} {F : α → β → Prop} {l₁ : List α} {l₂ : List β} {i : Nat} {a : α} {b : β} (h : Paired F l₁ l₂) (h1 : l₁[i]? = some a) (h2 : l₂[i]? = some b) : F a b := by
  obtain ⟨b', e1, e2⟩ := Paired.nth h h1
  rw [h2] at e1
  cases e1
  exact e2
theorem same_put {H H' : Hp} {l : Addr} (hl : H l = none) (e : Same H H') (o : HO) : Same H (upd H' l o) := fun b u q => by rw [upd_ne (ne_of_none q hl)]; exact e b u q
section
variable {K : PySem.W.Frag}
end
noncomputable def cellAt (ns : List Int) (k : Nat) : Int := (ns[k]?).getD 0
noncomputable def spCell (K : PySem.W.Frag) : Sp := fun vs H Q _ => ∃ (a : Addr) (ns : List Int) (k : Nat), vs = [.ref a, .int (k : Int)] ∧ SqL K H a (ns.map V.int) ∧ Q (.int (cellAt ns k)) H
theorem at_mod {α : Type} {xs : List α} {m : Int} {i : Int} (hl : (xs.length : Int) = m) (hm : 0 < m) : ∃ v, atI xs (i % m) = some v ∧ v ∈ xs := by
  have h0 := Int.emod_nonneg i (Int.ne_of_gt hm)
  have h1 := Int.emod_lt_of_pos i hm
  generalize i % m = j at h0 h1
  obtain ⟨k, rfl⟩ := Int.eq_ofNat_of_zero_le h0
  have hk : k < xs.length := by lia
  exact ⟨xs[k], atI_nat (List.getElem?_eq_getElem hk), List.getElem_mem hk⟩
noncomputable abbrev sCell : Stmt := top 7
section
variable {P : Program} {w : World} {K : PySem.W.Frag} {mg : Str → Option Value} {base : Heap} {f g : Addr} {fd gd : FuncData}
theorem scCell : FnScope ["_law_script", "_law_k"] ["_law_script", "_law_k"] (defScope sCell) := ⟨rfl, rfl, rfl, by decide +kernel, rfl, by decide +kernel, by decide +kernel⟩
theorem ok_cellAt (C : Con K mg w) (F : Fun K "_law_cell_at" "_law_cell_at" sCell f fd) : FnOk P w K mg base CX0 1 f fd ["_law_script", "_law_k"] (spCell K) := by
  refine F.okQ scCell (fun vs H Q E h => ?_) (fun cdv A outer s H vs Q E hr h => ?_)
  · obtain ⟨a, ns, k, rfl, _⟩ := h; rfl
  obtain ⟨a, ns, k, rfl, hS, q⟩ := h
  refine ⟨_, qb_cons (qs_if (qt_cmpR op_lt (qv 1) (qe_callB call_len_seq rfl C.len PySem.boot_len (qa_nm (qv 0) qa_nil)) (nomark _)) (qb_one (qs_ret (qe_ix ix_list (qv 0) (qv 1) (fun _ _ => rfl)))) qb_nil)
    (qb_one (qs_ret qe_int)), ?_⟩
  have hl : (ns.map V.int).length = ns.length := List.length_map _
  refine ⟨_, rfl, _, rfl, a, _, rfl, .inl hS, _, _, rfl, rfl, _, rfl, iteB (fun c => ?_) (fun c => ?_)⟩
  · have c' := of_decide_eq_true c
    rw [hl] at c'
    have hk : k < ns.length := by lia
    have e : cellAt ns k = ns[k] := by unfold cellAt; rw [List.getElem?_eq_getElem hk]; rfl
    rw [e] at q
    exact ⟨_, rfl, _, rfl, a, _, _, _, rfl, rfl, hS, atI_nat (by rw [List.getElem?_map, List.getElem?_eq_getElem hk]; rfl), q⟩
  · have c' := of_decide_eq_false c
    rw [hl] at c'
    have hk : ns.length ≤ k := by lia
    have e : cellAt ns k = 0 := by unfold cellAt; rw [List.getElem?_eq_none hk]; rfl
    rw [e] at q
    exact q
end
noncomputable def spLaw (K : PySem.W.Frag) : Sp := fun vs H Q _ => ∃ (a : Addr) (ns : List Int), vs = [.ref a] ∧ SqL K H a (ns.map V.int) ∧ ∀ H', Q (.bl true) H'
theorem sq_put {K : PySem.W.Frag} {H : Hp} {l b : Addr} {xs ys zs : List V} (hl : H l = some (.lst xs)) (h : SqT K H b zs) : SqT K (upd H l (.lst ys)) b zs := by
  rcases h with (h | ⟨o, h⟩) | h
  · have hne : b ≠ l := fun e => by rw [e, hl] at h; cases h
    exact .inl (.inl (by show upd H l _ b = _; rw [upd_ne hne]; exact h))
  · have hne : b ≠ l := fun e => by rw [e, hl] at h; cases h
    exact .inl (.inr ⟨o, by show upd H l _ b = _; rw [upd_ne hne]; exact h⟩)
  · exact .inr h
theorem qg_tup2 {X : Cx} {i j : Nat} {x y : Str} {px py pos : Pos} {k : Nat} (h1 : QG X (.Name x px) (gName i)) (h2 : QG X (.Name y py) (gName j)) (hc : X.calm = true := by rfl)
    (a1 : (assignEach [.Name x px, .Name y py] X.env).map (·.2) = assign (.Name x px) X.env :: (assignEach [.Name y py] X.env).map (·.2) := by rfl) (a2 : (assignEach [.Name y py] X.env).map (·.2) = assign (.Name y py) X.env :: (assignEach [] X.env).map (·.2) := by rfl)
    (hn : (assignEach [.Name x px, .Name y py] X.env).length = 2 := by rfl) (hst : (assignEach [.Name x px, .Name y py] X.env).findIdx? (·.1) = none := by rfl) : QG X (.Tuple [.Name x px, .Name y py] k pos) (gTup X.K 2 (gCons (gName i) (gCons (gName j) gNil))) :=
  ⟨pg_tup hc (pgs_cons h1.run (pgs_cons h2.run pgs_nil a2) a1) hn hst⟩
theorem iteN {b : Bool} {A B : Prop} (h : b = true) (hB : B) : if (!b) = true then A else B := by rw [h]; exact hB
theorem qs_weak {X : Cx} {st : Stmt} {t t' : TS} (h : QS X st t) (w : ∀ D σ H, t' D σ H → t D σ H) : QS X st t' := ⟨fun pins s σ H D I q => h.run pins s σ H D I (w D σ H q)⟩
theorem qe_un {X : Cx} {a : Expr} {ta : TE} {pos : Pos} {op : UnaryOp} {r : V → Hp → VK → Prop} (ho : UnR X (unaryOp op) r) (ha : QE X a ta) : QE X (.UnaryOp op a pos) (tUn r ta) := ⟨pe_un ho ha.run⟩
theorem qg_tup3 {X : Cx} {i j l : Nat} {x y z : Str} {px py pz pos : Pos} {k : Nat} (h1 : QG X (.Name x px) (gName i)) (h2 : QG X (.Name y py) (gName j)) (h3 : QG X (.Name z pz) (gName l)) (hc : X.calm = true := by rfl)
    (a1 : (assignEach [.Name x px, .Name y py, .Name z pz] X.env).map (·.2) = assign (.Name x px) X.env :: (assignEach [.Name y py, .Name z pz] X.env).map (·.2) := by rfl) (a2 : (assignEach [.Name y py, .Name z pz] X.env).map (·.2) = assign (.Name y py) X.env :: (assignEach [.Name z pz] X.env).map (·.2) := by rfl) (a3 : (assignEach [.Name z pz] X.env).map (·.2) = assign (.Name z pz) X.env :: (assignEach [] X.env).map (·.2) := by rfl)
    (hn : (assignEach [.Name x px, .Name y py, .Name z pz] X.env).length = 3 := by rfl) (hst : (assignEach [.Name x px, .Name y py, .Name z pz] X.env).findIdx? (·.1) = none := by rfl) : QG X (.Tuple [.Name x px, .Name y py, .Name z pz] k pos) (gTup X.K 3 (gCons (gName i) (gCons (gName j) (gCons (gName l) gNil)))) :=
  ⟨pg_tup hc (pgs_cons h1.run (pgs_cons h2.run (pgs_cons h3.run pgs_nil a3) a2) a1) hn hst⟩
noncomputable def tFlat (t : TS) : TS := fun D σ H => t { D with nx := fun σ' H' => ∀ τ, τ = σ' → D.nx τ H' } σ H
theorem qs_flat {X : Cx} {st : Stmt} {t : TS} (h : QS X st t) : QS X st (tFlat t) := qs_weak h fun D σ H h => by
  have e : (fun σ' H' => ∀ τ, τ = σ' → D.nx τ H') = D.nx := by
    funext σ' H'
    exact propext ⟨fun h => h _ rfl, fun h τ e => e ▸ h⟩
  unfold tFlat at h
  rw [e] at h
  exact h
noncomputable def Kp (S : Addr → Prop) (H H' : Hp) : Prop := ∀ b o, H b = some o → ¬ S b → H' b = some o
end K22
namespace L2
open PySem PySem.Spec
noncomputable def dS (m : List (Str × Str)) : List (Key × V) := m.map fun p => (Sum.inr p.1, V.str p.2)
noncomputable def lkS (m : List (Str × Str)) (x : Str) : Option Str := (m.find? fun p => decide (p.1 = x)).map (·.2)
theorem valV_ds : ∀ (m : List (Str × Str)) (x : Str), valV (dS m) (Sum.inr x) = (lkS m x).map V.str
  | [], x => rfl
  | p :: m, x => by
    have ih := valV_ds m x
    by_cases h : p.1 = x
    · have e1 : valV (dS (p :: m)) (Sum.inr x) = some (.str p.2) := valV_pos (p := ((Sum.inr p.1, V.str p.2) : Key × V)) (show (Sum.inr p.1 : Key) = Sum.inr x by rw [h])
      have e2 : lkS (p :: m) x = some p.2 := by unfold lkS; simp [List.find?_cons, h]
      rw [e1, e2]; rfl
    · have e1 : valV (dS (p :: m)) (Sum.inr x) = valV (dS m) (Sum.inr x) := valV_neg (p := ((Sum.inr p.1, V.str p.2) : Key × V)) (show ¬ (Sum.inr p.1 : Key) = Sum.inr x from fun z => h (Sum.inr.inj z))
      have e2 : lkS (p :: m) x = lkS m x := by unfold lkS; simp [List.find?_cons, h]
      rw [e1, e2, ih]
noncomputable def putS (m : List (Str × Str)) (x : Str) (z : Str) : List (Str × Str) := if (m.any fun p => decide (p.1 = x)) = true then m.map (fun p => if p.1 = x then (p.1, z) else p) else m ++ [(x, z)]
theorem putK_ds (m : List (Str × Str)) (x : Str) (z : Str) : putK (dS m) (Sum.inr x) (.str z) = dS (putS m x z) := by
  unfold putK putS dS
  have ed : ∀ a b : Str, decide ((Sum.inr a : Key) = Sum.inr b) = decide (a = b) := fun a b => by
    by_cases h : a = b
    · subst h; simp
    · rw [decide_eq_false h, decide_eq_false (fun z => h (Sum.inr.inj z))]
  have e : (m.map (fun p => ((Sum.inr p.1, V.str p.2) : Key × V))).any (fun kv => decide (kv.1 = (Sum.inr x : Key))) = m.any fun p => decide (p.1 = x) := by
    rw [List.any_map]
    congr 1
    funext p
    exact ed p.1 x
  rw [e]
  split
  · rw [List.map_map, List.map_map]
    apply List.map_congr_left
    intro p _
    show (if (Sum.inr p.1 : Key) = Sum.inr x then _ else _) = _
    by_cases h : p.1 = x
    · rw [if_pos (by rw [h])]
      show _ = ((Sum.inr (if p.1 = x then (p.1, z) else p).1, V.str (if p.1 = x then (p.1, z) else p).2) : Key × V)
      rw [if_pos h]
    · rw [if_neg (fun z => h (Sum.inr.inj z))]
      show _ = ((Sum.inr (if p.1 = x then (p.1, z) else p).1, V.str (if p.1 = x then (p.1, z) else p).2) : Key × V)
      rw [if_neg h]
  · rw [List.map_append]; rfl
theorem lkS_map {x : Str} {z : Str} : ∀ (m : List (Str × Str)) (y : Str), lkS (m.map fun p => if p.1 = x then (p.1, z) else p) y = if y = x then (lkS m x).map (fun _ => z) else lkS m y
  | [], y => by unfold lkS; simp
  | p :: m, y => by
    have ih := lkS_map (x := x) (z := z) m y
    have c : ∀ (q : Str × Str) (l : List (Str × Str)) (w : Str), lkS (q :: l) w = if q.1 = w then some q.2 else lkS l w := fun q l w => by
      unfold lkS
      rw [List.find?_cons]
      by_cases h : q.1 = w
      · simp [h]
      · simp [h]
    rw [List.map_cons, c, c, c, ih]
    by_cases h1 : p.1 = x
    · by_cases h2 : y = x
      · subst h2; simp [h1]
      · have h3 : ¬ x = y := fun z => h2 z.symm
        simp [h1, h2, h3]
    · by_cases h2 : y = x
      · subst h2; simp [h1]
      · simp [h1, h2]
theorem lkS_put (m : List (Str × Str)) (x : Str) (z : Str) (y : Str) : lkS (putS m x z) y = if y = x then some z else lkS m y := by
  unfold putS
  split
  · rename_i h
    rw [lkS_map]
    by_cases h2 : y = x
    · rw [if_pos h2, if_pos h2]
      have : (lkS m x).isSome = true := by
        unfold lkS
        rw [Option.isSome_map]
        rw [List.find?_isSome]
        rw [List.any_eq_true] at h
        exact h
      cases hl : lkS m x with
      | none => rw [hl] at this; cases this
      | some v => rfl
    · rw [if_neg h2, if_neg h2]
  · rename_i h
    have hn : ∀ p ∈ m, ¬ p.1 = x := fun p hp z => h (List.any_eq_true.mpr ⟨p, hp, by simp [z]⟩)
    unfold lkS
    rw [List.find?_append]
    by_cases h2 : y = x
    · subst h2
      rw [if_pos rfl, List.find?_eq_none.mpr (fun p hp => by simp [hn p hp])]
      simp
    · have h3 : ¬ x = y := fun z => h2 z.symm
      rw [if_neg h2]
      simp [h3]
theorem putS_len (m : List (Str × Str)) (x : Str) (z : Str) : (putS m x z).length ≤ m.length + 1 := by
  unfold putS
  split
  · rw [List.length_map]; lia
  · rw [List.length_append, List.length_singleton]; lia
theorem keys_put (m : List (Str × Str)) (x z y : Str) : (lkS (putS m x z) y).isSome = true ↔ y = x ∨ (lkS m y).isSome = true := by
  rw [lkS_put]
  by_cases h : y = x
  · rw [if_pos h]; simp [h]
  · rw [if_neg h]; simp [h]
theorem lkS_mem {m : List (Str × Str)} {x : Str} : (lkS m x).isSome = true ↔ x ∈ m.map (·.1) := by
  unfold lkS
  rw [Option.isSome_map, List.find?_isSome]
  constructor
  · rintro ⟨p, hp, e⟩
    exact List.mem_map.mpr ⟨p, hp, of_decide_eq_true e⟩
  · intro h
    obtain ⟨p, hp, rfl⟩ := List.mem_map.mp h
    exact ⟨p, hp, by simp⟩
end L2
namespace Kn
open PySem PySem.Spec L2
inductive Conn (F : List (List Str)) : Str → Str → Prop
  | refl (x : Str) : Conn F x x
  | fact {u v : Str} (h : [("is" : Str), u, v] ∈ F) : Conn F u v
  | symm {x y : Str} (h : Conn F x y) : Conn F y x
  | trans {x y z : Str} (h1 : Conn F x y) (h2 : Conn F y z) : Conn F x z
theorem Conn.mono {F G : List (List Str)} (h : ∀ r ∈ F, r ∈ G) {x y : Str} (c : Conn F x y) : Conn G x y := by
  induction c with
  | refl x => exact .refl x
  | fact h1 => exact .fact (h _ h1)
  | symm _ ih => exact ih.symm
  | trans _ _ i1 i2 => exact i1.trans i2
noncomputable def stepH (h : Str → Str) (r : List Str) : Str → Str := if r.getD 0 "" = "is" then fun x => if h x = h (r.getD 2 "") then h (r.getD 1 "") else h x else h
noncomputable def headF (F : List (List Str)) : Str → Str := F.foldl stepH id
theorem headF_snoc (F : List (List Str)) (r : List Str) : headF (F ++ [r]) = stepH (headF F) r := by unfold headF; rw [List.foldl_append]; rfl
noncomputable def FactRow (r : List Str) : Prop := ∃ k u v : Str, r = [k, u, v] ∧ (k = "is" ∨ k = "not")
theorem headF_iff : ∀ (n : Nat) (F : List (List Str)), F.length = n → (∀ r ∈ F, FactRow r) → ∀ x y, headF F x = headF F y ↔ Conn F x y := by
  intro n
  induction n with
  | zero =>
    intro F hl hF x y
    have : F = [] := List.eq_nil_of_length_eq_zero hl
    subst this
    constructor
    · intro h
      have h' : x = y := h
      subst h'
      exact .refl x
    · intro c
      show x = y
      induction c with
      | refl x => rfl
      | fact h => cases h
      | symm _ ih => exact ih.symm
      | trans _ _ i1 i2 => exact i1.trans i2
  | succ n ih =>
    intro F hl hF
    have hne : F ≠ [] := fun z => by rw [z] at hl; cases hl
    obtain ⟨G, r, rfl⟩ : ∃ G r, F = G ++ [r] := ⟨F.dropLast, F.getLast hne, (List.dropLast_concat_getLast hne).symm⟩
    have hGl : G.length = n := by rw [List.length_append] at hl; simpa using hl
    have hG : ∀ r' ∈ G, FactRow r' := fun r' h => hF r' (List.mem_append.mpr (.inl h))
    have I := ih G hGl hG
    have mono : ∀ {x y}, Conn G x y → Conn (G ++ [r]) x y := fun c => c.mono fun r' h => List.mem_append.mpr (.inl h)
    obtain ⟨k, u, v, rfl, hk⟩ := hF r (List.mem_append.mpr (.inr (List.mem_singleton.mpr rfl)))
    intro x y
    rw [headF_snoc]
    unfold stepH
    rcases hk with rfl | rfl
    · rw [if_pos (show ([("is" : Str), u, v].getD 0 "") = "is" from rfl)]
      show (if headF G x = headF G v then headF G u else headF G x) = (if headF G y = headF G v then headF G u else headF G y) ↔ _
      have huv : Conn (G ++ [[("is" : Str), u, v]]) u v := .fact (List.mem_append.mpr (.inr (List.mem_singleton.mpr rfl)))
      constructor
      · intro h
        by_cases hx : headF G x = headF G v
        · by_cases hy : headF G y = headF G v
          · exact mono ((I x y).mp (hx.trans hy.symm))
          · rw [if_pos hx, if_neg hy] at h
            exact (mono ((I x v).mp hx)).trans (huv.symm.trans (mono ((I u y).mp h)))
        · by_cases hy : headF G y = headF G v
          · rw [if_neg hx, if_pos hy] at h
            exact (mono ((I x u).mp h)).trans (huv.trans (mono ((I y v).mp hy)).symm)
          · rw [if_neg hx, if_neg hy] at h
            exact mono ((I x y).mp h)
      · intro c
        induction c with
        | refl x => rfl
        | @fact a b h =>
          rcases List.mem_append.mp h with h | h
          · have := (I a b).mpr (.fact h)
            rw [this]
          · have h' := List.mem_singleton.mp h
            simp only [List.cons.injEq, and_true, true_and] at h'
            obtain ⟨rfl, rfl⟩ := h'
            rw [if_pos rfl]
            by_cases hx : headF G a = headF G b
            · rw [if_pos hx]
            · rw [if_neg hx]
        | symm _ ih => exact ih.symm
        | trans _ _ i1 i2 => exact i1.trans i2
    · have hni : ¬ ("not" : Str) = "is" := by decide +kernel
      rw [if_neg (show ¬ ([("not" : Str), u, v].getD 0 "") = "is" from hni)]
      rw [I x y]
      constructor
      · exact mono
      · intro c
        induction c with
        | refl x => exact .refl x
        | @fact a b h =>
          rcases List.mem_append.mp h with h | h
          · exact .fact h
          · have h' := List.mem_singleton.mp h
            simp only [List.cons.injEq] at h'
            exact absurd h'.1.symm hni
        | symm _ ih => exact ih.symm
        | trans _ _ i1 i2 => exact i1.trans i2
theorem headF_conn {F : List (List Str)} (hF : ∀ r ∈ F, FactRow r) (x y : Str) : headF F x = headF F y ↔ Conn F x y := headF_iff F.length F rfl hF x y
noncomputable def hdS (m : List (Str × Str)) (x : Str) : Str := (lkS m x).getD x
structure HeadsOk (m : List (Str × Str)) (h : Str → Str) : Prop where
  hd : ∀ x, hdS m x = h x
  key : ∀ x v, lkS m x = some v → (lkS m v).isSome = true
theorem HeadsOk.start : HeadsOk [] id := ⟨fun _ => rfl, fun x v h => by cases h⟩
theorem HeadsOk.dflt {m : List (Str × Str)} {h : Str → Str} (H : HeadsOk m h) {u : Str} (hu : lkS m u = none) : HeadsOk (putS m u u) h ∧ h u = u := by
  have e : h u = u := by rw [← H.hd]; unfold hdS; rw [hu]; rfl
  refine ⟨⟨fun x => ?_, fun x v hv => ?_⟩, e⟩
  · unfold hdS
    rw [lkS_put]
    by_cases hx : x = u
    · rw [if_pos hx, hx, e]; rfl
    · rw [if_neg hx]; exact H.hd x
  · rw [keys_put]
    rw [lkS_put] at hv
    by_cases hx : x = u
    · rw [if_pos hx] at hv; exact .inl (Option.some.inj hv).symm
    · rw [if_neg hx] at hv; exact .inr (H.key x v hv)
end Kn
namespace Kn
open PySem PySem.Spec L2
noncomputable def mv (g k z : Str) : Str := if z = g then k else z
theorem mv_mv (g k z : Str) : mv g k (mv g k z) = mv g k z := by
  unfold mv
  by_cases h : z = g
  · rw [if_pos h]; split <;> rfl
  · rw [if_neg h, if_neg h]
theorem HeadsOk.step {m m' : List (Str × Str)} {h : Str → Str} (H : HeadsOk m h) {u v : Str} (hu : (lkS m u).isSome = true) (hv : (lkS m v).isSome = true) (hm : ∀ x, lkS m' x = (lkS m x).map (mv (h v) (h u))) : HeadsOk m' (stepH h [("is" : Str), u, v]) := by
  have val : ∀ {y : Str}, (lkS m y).isSome = true → lkS m y = some (h y) := fun {y} hy => by
    obtain ⟨z, hz⟩ := Option.isSome_iff_exists.mp hy
    rw [hz, ← H.hd]
    unfold hdS
    rw [hz]; rfl
  have e : ∀ x, stepH h [("is" : Str), u, v] x = mv (h v) (h u) (h x) := fun x => by
    unfold stepH
    rw [if_pos (show ([("is" : Str), u, v].getD 0 "") = "is" from rfl)]
    rfl
  refine ⟨fun x => ?_, fun x z hz => ?_⟩
  · rw [e]
    unfold hdS
    rw [hm]
    cases hx : lkS m x with
    | some z =>
      have := val (y := x) (by rw [hx]; rfl)
      rw [hx] at this
      rw [Option.some.inj this]; rfl
    | none =>
      have hxx : h x = x := by rw [← H.hd]; unfold hdS; rw [hx]; rfl
      show x = mv (h v) (h u) (h x)
      unfold mv
      rw [hxx, if_neg]
      intro z
      have := H.key v (h v) (val hv)
      rw [← z, hx] at this
      cases this
  · rw [hm] at hz
    cases hx : lkS m x with
    | none => rw [hx] at hz; cases hz
    | some y =>
      rw [hx] at hz
      have hz' : mv (h v) (h u) y = z := Option.some.inj hz
      have k : (lkS m z).isSome = true := by
        rw [← hz']
        unfold mv
        split
        · exact H.key u (h u) (val hu)
        · exact H.key x y hx
      rw [hm, Option.isSome_map]; exact k
end Kn
namespace K22
open PySem PySem.Spec L2 Mir Kn
noncomputable abbrev sHeadsOf : Stmt := top 2
theorem qe_fldK {X : Cx} {K : PySem.W.Frag} {e : Expr} {fl : Str} {pos : Pos} {ta : TE} (h : X.K = K) (he : QE X e ta) (hb : attributeBase e fl X.env (eval e X.env) = eval e X.env := by rfl) : QE X (.Attribute e fl pos) (tFld K ta fl) := by subst h; exact qe_fld he hb
theorem qs_fldK {X : Cx} {K : PySem.W.Frag} {o value : Expr} {fl : Str} {pos pos' : Pos} {ta tv : TE} (h : X.K = K) (ha : QE X o ta) (hv : QE X value tv) (hs : swapsWith value (some (.Attribute o fl pos')) pos.line X.env = pure false := by rfl) : QS X (.Assign [.Attribute o fl pos'] value pos) (sFld K ta tv fl) := by subst h; exact qs_fld ha hv hs
noncomputable def spHeadsOf (K : PySem.W.Frag) : Sp := fun vs H Q _ => ∃ (fl : Addr) (F : List (List Str)), vs = [.ref fl] ∧ RowsAt K H fl F ∧ F.length ≤ 100 ∧ (∀ r ∈ F, FactRow r) ∧ ∀ hd hm H', Same H H' → H hd = none → H' hd = some (.dK (dS hm)) → hm.length ≤ 2 * F.length → HeadsOk hm (headF F) → Q (.ref hd) H'
noncomputable def tDef (K : PySem.W.Frag) (i j : Nat) : TS := fun D σ H => ∃ (hd b : Addr) (r : List Str) (u : Str) (hm : List (Str × Str)) (h : Str → Str), σ[1]? = some (some (.ref hd)) ∧ σ[2]? = some (some (.ref b)) ∧ RowAt K H b r ∧ r[j]? = some u ∧ H hd = some (.dK (dS hm)) ∧ hm.length ≤ 1000 ∧ HeadsOk hm h ∧
  ∀ hm' H', Kp (· = hd) H H' → H' hd = some (.dK (dS hm')) → hm'.length ≤ hm.length + 1 → HeadsOk hm' h → (lkS hm' u).isSome = true → (∀ x, (lkS hm x).isSome = true → (lkS hm' x).isSome = true) → D.nx (σ.set i (some (.str (h u)))) H'
theorem def_weak {K : PySem.W.Frag} (i j : Nat) (D : Ends) (σ : St) (H : Hp) (hh : tDef K i j D σ H) :
    tAsg (tDSet (tVar 1) (tOp (rIxT K) (tVar 2) (tC (.int (j : Int)))) (tOp (rIxT K) (tVar 2) (tC (.int (j : Int))))) (gName i) D σ H := by
  obtain ⟨hd, b, r, u, hm, h, h1, h2, hR, hu, hD, hl, hok, go⟩ := hh
  have hat : atI (r.map V.str) (j : Int) = some (.str u) := atI_nat (by rw [List.getElem?_map, hu]; rfl)
  refine ⟨_, h1, hd, rfl, .inl ⟨_, .inl hD⟩, _, h2, b, _, _, .str u, rfl, rfl, hR, hat, _, h2, b, _, _, .str u, rfl, rfl, hR, hat, dS hm, Sum.inr u, hD, rfl, ?_, fun v hv => ?_, fun hn => ?_⟩
  · unfold dS; rw [List.length_map]; exact Nat.lt_of_le_of_lt hl (by decide)
  · rw [valV_ds] at hv
    cases hz : lkS hm u with
    | none => rw [hz] at hv; cases hv
    | some z =>
      rw [hz] at hv
      have e : v = .str z := (Option.some.inj hv).symm
      have e2 : h u = z := by rw [← hok.hd]; unfold hdS; rw [hz]; rfl
      have := go hm H (fun _ _ z _ => z) hD (by lia) hok (by rw [hz]; rfl) (fun _ z => z)
      rw [e2] at this
      rw [e]
      exact this
  · rw [valV_ds] at hn
    have hz : lkS hm u = none := by
      cases hz : lkS hm u with
      | none => rfl
      | some z => rw [hz] at hn; cases hn
    obtain ⟨h1, h2⟩ := hok.dflt hz
    rw [putK_ds]
    have := go (putS hm u u) _ (fun b o q n => by rw [upd_ne n]; exact q) upd_same (putS_len _ _ _) h1 (by rw [keys_put]; exact .inl rfl) (fun x hx => by rw [keys_put]; exact .inr hx)
    rw [h2] at this
    exact this
section
variable {P : Program} {w : World} {K : PySem.W.Frag} {mg : Str → Option Value} {base : Heap} {f : Addr} {fd : FuncData}
theorem scHeadsOf : FnScope ["facts", "heads", "fact", "kept", "gone", "name"] ["facts"] (defScope sHeadsOf) := ⟨rfl, rfl, rfl, by decide +kernel, rfl, by decide +kernel, by decide +kernel⟩
theorem ok_headsOf (C : Con K mg w) (F : Fun K "heads_of" "heads_of" sHeadsOf f fd) : FnOk P w K mg base CX0 1 f fd ["facts"] (spHeadsOf K) := by
  refine F.okQ scHeadsOf (fun vs H Q E h => ?_) (fun cdv A outer s0 H vs Q E hr h => ?_)
  · obtain ⟨fl, F, rfl, _⟩ := h; rfl
  obtain ⟨fl, Fs, rfl, hF, hl, hrow, q⟩ := h
  have nd := scHeadsOf.nd
  have hu1 := hu_of hr
  refine ⟨_, qb_cons (qs_set (i := 1) nd rfl (Or.inl rfl) qe_dnew)
    (qb_cons (qs_for PassesOwn.never rfl (qi_list (qv 0)) (qg_name (i := 2) nd rfl (Or.inl rfl)) (qb_one (qs_if (qt_cmpR op_eq (qe_ix ix_tup (qv 2) qe_int (fun _ _ => rfl)) qe_str (nomark _)) (qb_cons (qs_weak (t' := tDef K 3 1) (qs_set (i := 3) nd rfl (Or.inl rfl) (qe_dset (qv 1) (qe_ix ix_tup (qv 2) qe_int (fun _ _ => rfl)) (qe_ix ix_tup (qv 2) qe_int (fun _ _ => rfl)))) (def_weak 3 1))
    (qb_cons (qs_weak (t' := tDef K 4 2) (qs_set (i := 4) nd rfl (Or.inl rfl) (qe_dset (qv 1) (qe_ix ix_tup (qv 2) qe_int (fun _ _ => rfl)) (qe_ix ix_tup (qv 2) qe_int (fun _ _ => rfl)))) (def_weak 4 2))
    (qb_one (qs_for PassesOwn.never rfl (qi_list (qe_callTy (call_list_dict rfl) rfl C.list PyProof.Rows.boot_list (qa_nm (qv 1) qa_nil))) (qg_name (i := 5) nd rfl (Or.inl rfl)) (qb_one (qs_if (qt_cmpR op_eq (qe_dget hu1 (qv 1) (qv 5) (fun _ _ => rfl)) (qv 4) (nomark _)) (qb_one (qs_dput hu1 (qv 1) (qv 5) (qv 3))) qb_nil)))))) qb_nil)))
    (qb_one (qs_ret (qv 1)))), ?_⟩
  intro hd hhd
  have s1 := same_new hhd (.dK (dS []))
  obtain ⟨fas, hfl, hfp⟩ := hF
  have hfal := Paired.length hfp
  refine ⟨_, rfl, fl, rfl, ⟨_, SqL.of (s1 _ _ hfl)⟩, ?_⟩
  refine for_list (xs := fas.map V.ref) (fun i σ H' => Same H H' ∧ ∃ (hm : List (Str × Str)) (z2 z3 z4 z5 : Option V), H' hd = some (.dK (dS hm)) ∧ hm.length ≤ 2 * i ∧ HeadsOk hm (headF (Fs.take i)) ∧ σ = [some (.ref fl), some (.ref hd), z2, z3, z4, z5])
    ⟨s1, [], none, none, none, none, upd_same, Nat.zero_le _, HeadsOk.start, rfl⟩ (fun i σ H' _ p => SqL.of (p.1 _ _ hfl)) ?_ ?_
  · rintro i x σ H' hi ⟨e, hm, z2, z3, z4, z5, hD, hml, hok, rfl⟩
    obtain ⟨b, hb, rfl⟩ := ref_at hi
    obtain ⟨r, hr1, hr2⟩ := Paired.nth hfp hb
    have hil : i < Fs.length := (List.getElem?_eq_some_iff.mp hr1).1
    obtain ⟨k, u, v, rfl, hk⟩ := hrow r (List.mem_of_getElem? hr1)
    have hR := hr2.same e
    have htk : Fs.take (i + 1) = Fs.take i ++ [[k, u, v]] := by rw [List.take_add_one, hr1]; rfl
    refine ⟨_, rfl, b, _, 0, .str k, rfl, rfl, hR, rfl, rfl, _, rfl, iteB (fun c => ?_) (fun c => ?_)⟩
    · have hk' : k = "is" := by simpa using c
      subst hk'
      have kr : ∀ {H2 : Hp}, Kp (· = hd) H' H2 → ∀ {b' : Addr} {r : List Str}, RowAt K H' b' r → RowAt K H2 b' r := fun {H2} kp {b' r} hb' => by
        rcases hb' with (z | ⟨o, z⟩) | z
        · exact .inl (.inl (kp _ _ z fun y => by have y' : b' = hd := y; rw [y', hD] at z; cases z))
        · exact .inl (.inr ⟨o, kp _ _ z fun y => by have y' : b' = hd := y; rw [y', hD] at z; cases z⟩)
        · exact .inr z
      refine ⟨hd, b, _, u, hm, _, rfl, rfl, hR, rfl, hD, by lia, hok, fun hm1 H1 k1 hD1 hl1 ok1 hu1' hsub1 => ?_⟩
      refine ⟨hd, b, _, v, hm1, _, rfl, rfl, kr k1 hR, rfl, hD1, by lia, ok1, fun hm2 H2 k2 hD2 hl2 ok2 hv2 hsub2 => ?_⟩
      have k02 : Kp (· = hd) H' H2 := fun b o q n => k2 b o (k1 b o q n) n
      have hR2 := kr k02 hR
      refine ⟨_, rfl, hd, _, rfl, hD2, fun lk hlk => ?_⟩
      have ek : ((dS hm2).map fun kv => kV kv.1) = (hm2.map (·.1)).map V.str := by unfold dS; rw [List.map_map, List.map_map]; rfl
      rw [ek]
      have s3 := same_new hlk (.lst ((hm2.map (·.1)).map V.str))
      have hlkd : lk ≠ hd := Ne.symm (ne_of_none hD2 hlk)
      have hl2' : hm2.length ≤ 2 * (i + 1) := by lia
      have lk0 : H lk = none := by
        cases q : H lk with
        | none => rfl
        | some o =>
          have := k02 lk o (e _ _ q) (fun z => hlkd z)
          rw [hlk] at this; cases this
      have val : ∀ {y : Str}, (lkS hm2 y).isSome = true → lkS hm2 y = some (headF (Fs.take i) y) := fun {y} hy => by
        obtain ⟨z, hz⟩ := Option.isSome_iff_exists.mp hy
        rw [hz, ← ok2.hd]
        unfold hdS
        rw [hz]; rfl
      generalize hg : headF (Fs.take i) v = gone at *
      generalize hkp : headF (Fs.take i) u = kept at *
      refine ⟨lk, rfl, ⟨_, SqL.of upd_same⟩, ?_⟩
      have hkeep : ∀ {Hx : Hp}, Kp (· = hd) (upd H2 lk (.lst ((hm2.map (·.1)).map V.str))) Hx → Same H Hx := fun {Hx} kp b' o' q => kp b' o' (s3 _ _ (k02 _ _ (e _ _ q) fun z => by have z' : b' = hd := z; rw [z', hhd] at q; cases q)) fun z => by have z' : b' = hd := z; rw [z', hhd] at q; cases q
      refine for_list (xs := (hm2.map (·.1)).map V.str) (fun j σ H3 => Kp (· = hd) (upd H2 lk (.lst ((hm2.map (·.1)).map V.str))) H3 ∧ ∃ (hm3 : List (Str × Str)) (z5 : Option V), H3 hd = some (.dK (dS hm3)) ∧ hm3.length ≤ hm2.length ∧ (∀ x, lkS hm3 x = if x ∈ (hm2.map (·.1)).take j then (lkS hm2 x).map (mv gone kept) else lkS hm2 x) ∧ σ = [some (.ref fl), some (.ref hd), some (.ref b), some (.str kept), some (.str gone), z5])
        ⟨fun _ _ q _ => q, hm2, z5, by rw [upd_ne (Ne.symm hlkd)]; exact hD2, Nat.le_refl _, fun x => by simp, rfl⟩ (fun j σ H3 _ p => SqL.of (p.1 _ _ upd_same fun z => hlkd z)) ?_ ?_
      · rintro j x σ H3 hj ⟨k3, hm3, z5', hD3, hl3, hlk3, rfl⟩
        obtain ⟨nm, hnm, rfl⟩ : ∃ nm, (hm2.map (·.1))[j]? = some nm ∧ x = .str nm := by
          rw [List.getElem?_map] at hj
          cases hz : (hm2.map (·.1))[j]? with
          | none => rw [hz] at hj; cases hj
          | some nm => rw [hz] at hj; exact ⟨nm, rfl, (Option.some.inj hj).symm⟩
        have hin : (lkS hm2 nm).isSome = true := lkS_mem.mpr (List.mem_of_getElem? hnm)
        obtain ⟨z0, hz0⟩ := Option.isSome_iff_exists.mp hin
        obtain ⟨wv, hwv, hwm⟩ : ∃ wv, lkS hm3 nm = some wv ∧ mv gone kept wv = mv gone kept z0 := by
          have := hlk3 nm
          rw [hz0] at this
          by_cases hm : nm ∈ (hm2.map (·.1)).take j
          · rw [if_pos hm] at this
            exact ⟨_, this, mv_mv _ _ _⟩
          · rw [if_neg hm] at this
            exact ⟨_, this, rfl⟩
        have htk2 : ∀ x, x ∈ (hm2.map (·.1)).take (j + 1) ↔ x ∈ (hm2.map (·.1)).take j ∨ x = nm := fun x => by
          rw [List.take_add_one, hnm, List.mem_append]; simp
        have gv : DGet H3 hd (.str nm) (some (.str wv)) := by
          have g := DGet.k (k := Sum.inr nm) hD3
          rw [valV_ds, hwv] at g
          exact g
        refine ⟨_, rfl, _, rfl, hd, .str wv, rfl, gv, _, rfl, rfl, _, rfl, iteB (fun c => ?_) (fun c => ?_)⟩
        · have hc : wv = gone := by simpa using c
          refine ⟨_, rfl, _, rfl, _, rfl, hd, _, rfl, DPut.k (k := Sum.inr nm) hD3 ?_, ?_⟩
          · unfold dS; rw [List.length_map]; exact Nat.lt_of_le_of_lt (show hm3.length ≤ 1000 by lia) (by decide)
          rw [putK_ds]
          have hpl : (putS hm3 nm kept).length ≤ hm3.length := by
            unfold putS
            rw [if_pos, List.length_map]
            · exact Nat.le_refl _
            · have := lkS_mem.mp (show (lkS hm3 nm).isSome = true by rw [hwv]; rfl)
              obtain ⟨p, hp, e⟩ := List.mem_map.mp this
              exact List.any_eq_true.mpr ⟨p, hp, by simpa using e⟩
          refine ⟨fun b' o' q n => by rw [upd_ne n]; exact k3 b' o' q n, putS hm3 nm kept, _, upd_same, by lia, fun x => ?_, rfl⟩
          rw [lkS_put]
          by_cases hx : x = nm
          · rw [if_pos hx, if_pos ((htk2 x).mpr (.inr hx)), hx, hz0]
            show some kept = some (mv gone kept z0)
            rw [← hwm, hc]
            unfold mv
            rw [if_pos rfl]
          · rw [if_neg hx, hlk3 x]
            by_cases hm : x ∈ (hm2.map (·.1)).take j
            · rw [if_pos hm, if_pos ((htk2 x).mpr (.inl hm))]
            · rw [if_neg hm, if_neg fun z => ((htk2 x).mp z).elim hm hx]
        · have hc : ¬ wv = gone := by simpa using c
          refine ⟨k3, hm3, _, hD3, hl3, fun x => ?_, rfl⟩
          by_cases hx : x = nm
          · rw [if_pos ((htk2 x).mpr (.inr hx)), hx, hwv, hz0]
            show some wv = some (mv gone kept z0)
            rw [← hwm]
            unfold mv
            rw [if_neg hc]
          · rw [hlk3 x]
            by_cases hm : x ∈ (hm2.map (·.1)).take j
            · rw [if_pos hm, if_pos ((htk2 x).mpr (.inl hm))]
            · rw [if_neg hm, if_neg fun z => ((htk2 x).mp z).elim hm hx]
      rintro σ H3 ⟨k3, hm3, z5', hD3, hl3, hlk3, rfl⟩
      rw [List.length_map, List.take_length] at hlk3
      have hall : ∀ x, lkS hm3 x = (lkS hm2 x).map (mv gone kept) := fun x => by
        rw [hlk3 x]
        by_cases hm : x ∈ hm2.map (·.1)
        · rw [if_pos hm]
        · rw [if_neg hm]
          cases hz : lkS hm2 x with
          | none => rfl
          | some z => exact absurd (lkS_mem.mp (show (lkS hm2 x).isSome = true by rw [hz]; rfl)) hm
      refine ⟨hkeep k3, hm3, _, _, _, _, hD3, by lia, ?_, rfl⟩
      rw [htk, headF_snoc]
      exact ok2.step (hsub2 u hu1') hv2 (by rw [hg, hkp]; exact hall)
    · have hne : ¬ k = "is" := by simpa using c
      refine ⟨e, hm, _, _, _, _, hD, by lia, ?_, rfl⟩
      rw [htk, headF_snoc]
      unfold stepH
      rw [if_neg (show ¬ ([k, u, v].getD 0 "") = "is" from hne)]
      exact hok
  rintro σ H' ⟨e, hm, z2, z3, z4, z5, hD, hml, hok, rfl⟩
  rw [List.length_map, hfal] at hml hok
  rw [List.take_length] at hok
  exact ⟨_, rfl, q hd hm H' e hhd hD hml hok⟩
end
end K22
namespace K22
open PySem PySem.Spec L2 Mir Kn
noncomputable abbrev sInit : Stmt := inClass (top 4) 0
noncomputable abbrev sHead : Stmt := inClass (top 4) 1
noncomputable abbrev sAlike : Stmt := inClass (top 4) 2
noncomputable abbrev sUnlike : Stmt := inClass (top 4) 3
noncomputable abbrev sTellU : Stmt := inClass (top 4) 4
noncomputable abbrev sIsEmpty : Stmt := inClass (top 4) 5
noncomputable abbrev sMustFull : Stmt := inClass (top 4) 6
noncomputable abbrev sFindF : Stmt := inClass (top 4) 7
noncomputable abbrev sTellF : Stmt := inClass (top 4) 8
noncomputable def methNames : List Str := ["__init__", "head", "alike", "unlike", "tell_unlike", "is_empty", "must_be_full", "find_fulls", "tell_full", "clashing", "shares_place", "open_ends", "number_at"]
structure Txt (K : PySem.W.Frag) (mg : Str → Option Value) (C fI : Addr) : Prop where
  cl : Cls K C
  nP : NoAttr K C "parts"
  nH : NoAttr K C "heads"
  nU : NoAttr K C "unlikes"
  nF : NoAttr K C "fulls"
  nE : NoAttr K C "not_empty"
  mgC : mg "Knowledge" = some (.ref C)
  mkC : Mk K C fI
structure MCal (K : PySem.W.Frag) (C : Addr) (m : Str) (f : Addr) (fd : FuncData) (ps : List Str) : Prop where
  meth : Meth K C m f
  bind : Binds K fd ps []
structure KFs (fs : List (Str × V)) (pl hd un fu : Addr) : Prop where
  parts : fs.lookup ("parts" : Str) = some (.ref pl)
  heads : fs.lookup ("heads" : Str) = some (.ref hd)
  unlikes : fs.lookup ("unlikes" : Str) = some (.ref un)
  fulls : fs.lookup ("fulls" : Str) = some (.ref fu)
  len : fs.length < 100
  meth : ∀ m ∈ methNames, fs.lookup m = none
structure KnAt (C : Addr) (H : Hp) (p pl hd un fu : Addr) (hm : List (Str × Str)) (uk : List (List Key × V)) : Prop where
  ob : ∃ dx fs, H p = some (.ins C dx fs) ∧ KFs fs pl hd un fu
  hds : H hd = some (.dK (dS hm))
  uns : H un = some (.dT uk)
theorem KnAt.same {C : Addr} {H H' : Hp} {p pl hd un fu : Addr} {hm : List (Str × Str)} {uk : List (List Key × V)} (h : KnAt C H p pl hd un fu hm uk) (e : Same H H') : KnAt C H' p pl hd un fu hm uk := by
  obtain ⟨⟨dx, fs, h1, h2⟩, h3, h4⟩ := h
  exact ⟨⟨dx, fs, e _ _ h1, h2⟩, e _ _ h3, e _ _ h4⟩
noncomputable def put2 (uk : List (List Key × V)) (a b : Str) : List (List Key × V) := putK (putK uk [Sum.inr a, Sum.inr b] (.bl true)) [Sum.inr b, Sum.inr a] (.bl true)
theorem KnAt.tell {C : Addr} {H H' : Hp} {p pl hd un fu : Addr} {hm : List (Str × Str)} {uk uk' : List (List Key × V)} (h : KnAt C H p pl hd un fu hm uk) (e : Kp (· = un) H H') (hu : H' un = some (.dT uk')) : KnAt C H' p pl hd un fu hm uk' := by
  obtain ⟨⟨dx, fs, h1, h2⟩, h3, h4⟩ := h
  have n1 : p ≠ un := ne_of h1 h4 (fun z => nomatch z)
  have n2 : hd ≠ un := ne_of h3 h4 (fun z => nomatch z)
  exact ⟨⟨dx, fs, e _ _ h1 n1, h2⟩, e _ _ h3 n2, hu⟩
noncomputable def spHead (C : Addr) : Sp := fun vs H Q _ => ∃ (p pl hd un fu : Addr) (hm : List (Str × Str)) (uk : List (List Key × V)) (x : Str), vs = [.ref p, .str x] ∧ KnAt C H p pl hd un fu hm uk ∧ Q (.str (hdS hm x)) H
noncomputable def spAlike (C : Addr) : Sp := fun vs H Q _ => ∃ (p pl hd un fu : Addr) (hm : List (Str × Str)) (uk : List (List Key × V)) (x y : Str), vs = [.ref p, .str x, .str y] ∧ KnAt C H p pl hd un fu hm uk ∧ Q (.bl (decide (hdS hm x = hdS hm y))) H
noncomputable def spUnlike (C : Addr) : Sp := fun vs H Q _ => ∃ (p pl hd un fu : Addr) (hm : List (Str × Str)) (uk : List (List Key × V)) (x y : Str), vs = [.ref p, .str x, .str y] ∧ KnAt C H p pl hd un fu hm uk ∧ ∀ H', Same H H' → Q (.bl (valV uk [Sum.inr (hdS hm x), Sum.inr (hdS hm y)]).isSome) H'
noncomputable def spTellU (C : Addr) : Sp := fun vs H Q _ => ∃ (p pl hd un fu : Addr) (hm : List (Str × Str)) (uk : List (List Key × V)) (x y : Str), vs = [.ref p, .str x, .str y] ∧ KnAt C H p pl hd un fu hm uk ∧ uk.length ≤ 900 ∧ ∀ H', Kp (· = un) H H' → H' un = some (.dT (put2 uk (hdS hm x) (hdS hm y))) → Q .non H'
noncomputable def pairK (p : List Key × V) : Prop := ∃ a b : Str, p.1 = [Sum.inr a, Sum.inr b]
section
variable {P : Program} {w : World} {K : PySem.W.Frag} {mg : Str → Option Value} {base : Heap} {f C fI gH : Addr} {fd dH : FuncData}
theorem scHead : FnScope ["self", "word"] ["self", "word"] (defScope sHead) := ⟨rfl, rfl, rfl, by decide +kernel, rfl, by decide +kernel, by decide +kernel⟩
theorem ok_head (T : Txt K mg C fI) (F : Fun K "head" "Knowledge.head" sHead f fd) : FnOk P w K mg base CX0 1 f fd ["self", "word"] (spHead C) := by
  refine F.okQ scHead (fun vs H Q E h => ?_) (fun cdv A outer s0 H vs Q E hr h => ?_)
  · obtain ⟨p, pl, hd, un, fu, hm, uk, x, rfl, _⟩ := h; rfl
  obtain ⟨p, pl, hd, un, fu, hm, uk, x, rfl, hK, q⟩ := h
  have hu1 := hu_of hr
  obtain ⟨⟨dx, fs, h1, h2⟩, h3, h4⟩ := hK
  refine ⟨_, (qb_one (qs_ret (qe_dget2 hu1 (qe_fldK (K := K) rfl (qv 0)) (qv 1) (qv 1)))), ?_⟩
  have g := DGet.k (k := Sum.inr x) h3
  rw [valV_ds] at g
  refine ⟨_, rfl, p, C, dx, fs, .ref hd, rfl, h1, T.cl, T.nH, h2.heads, hd, rfl, .inl ⟨_, .inl h3⟩, _, rfl, _, rfl, _, g, ?_⟩
  have e : (((lkS hm x).map V.str).getD (.str x)) = .str (hdS hm x) := by
    unfold hdS
    cases lkS hm x <;> rfl
  rw [e]
  exact q
theorem scAlike : FnScope ["self", "one", "other"] ["self", "one", "other"] (defScope sAlike) := ⟨rfl, rfl, rfl, by decide +kernel, rfl, by decide +kernel, by decide +kernel⟩
theorem ok_alike (T : Txt K mg C fI) (F : Fun K "alike" "Knowledge.alike" sAlike f fd) (GH : FnOk P w K mg base CX0 1 gH dH ["self", "word"] (spHead C)) (cH : MCal K C "head" gH dH ["self", "word"]) : FnOk P w K mg base CX0 2 f fd ["self", "one", "other"] (spAlike C) := by
  refine F.okQ scAlike (fun vs H Q E h => ?_) (fun cdv A outer s0 H vs Q E hr h => ?_)
  · obtain ⟨p, pl, hd, un, fu, hm, uk, x, y, rfl, _⟩ := h; rfl
  obtain ⟨p, pl, hd, un, fu, hm, uk, x, y, rfl, hK, q⟩ := h
  obtain ⟨dx, fs, h1, h2⟩ := hK.ob
  have nh := h2.meth "head" (by decide +kernel)
  refine ⟨_, (qb_one (qs_ret (qe_cmpR op_eq (qe_meth (qv 0) T.cl cH.meth GH hr cH.bind .nil pass0 (qa_nm (qv 1) qa_nil)) (qe_meth (qv 0) T.cl cH.meth GH hr cH.bind .nil pass0 (qa_nm (qv 2) qa_nil)) (nomark _)))), ?_⟩
  refine ⟨_, rfl, p, dx, fs, rfl, h1, nh, _, rfl, p, pl, hd, un, fu, hm, uk, x, rfl, hK, _, rfl, p, dx, fs, rfl, h1, nh, _, rfl, p, pl, hd, un, fu, hm, uk, y, rfl, hK, rfl, ?_⟩
  have e : decide (V.str (hdS hm x) = V.str (hdS hm y)) = decide (hdS hm x = hdS hm y) := by simp
  rw [e]
  exact q
theorem scUnlike : FnScope ["self", "one", "other"] ["self", "one", "other"] (defScope sUnlike) := ⟨rfl, rfl, rfl, by decide +kernel, rfl, by decide +kernel, by decide +kernel⟩
theorem ok_unlike (T : Txt K mg C fI) (F : Fun K "unlike" "Knowledge.unlike" sUnlike f fd) (GH : FnOk P w K mg base CX0 1 gH dH ["self", "word"] (spHead C)) (cH : MCal K C "head" gH dH ["self", "word"]) : FnOk P w K mg base CX0 2 f fd ["self", "one", "other"] (spUnlike C) := by
  refine F.okQ scUnlike (fun vs H Q E h => ?_) (fun cdv A outer s0 H vs Q E hr h => ?_)
  · obtain ⟨p, pl, hd, un, fu, hm, uk, x, y, rfl, _⟩ := h; rfl
  obtain ⟨p, pl, hd, un, fu, hm, uk, x, y, rfl, hK, q⟩ := h
  have hu1 := hu_of hr
  obtain ⟨dx, fs, h1, h2⟩ := hK.ob
  have nh := h2.meth "head" (by decide +kernel)
  refine ⟨_, (qb_one (qs_ret (qe_din hu1 (qe_tup (qa_call (qe_meth (qv 0) T.cl cH.meth GH hr cH.bind .nil pass0 (qa_nm (qv 1) qa_nil)) (qa_call (qe_meth (qv 0) T.cl cH.meth GH hr cH.bind .nil pass0 (qa_nm (qv 2) qa_nil)) qa_nil))) (qe_fldK (K := K) rfl (qv 0))))), ?_⟩
  refine ⟨_, rfl, p, dx, fs, rfl, h1, nh, _, rfl, p, pl, hd, un, fu, hm, uk, x, rfl, hK, _, rfl, p, dx, fs, rfl, h1, nh, _, rfl, p, pl, hd, un, fu, hm, uk, y, rfl, hK, (show 2 ≤ sizeLine by decide), fun t ht => ?_⟩
  have s1 := same_new ht (.tup [.str (hdS hm x), .str (hdS hm y)])
  refine ⟨_, rfl, p, C, dx, fs, .ref un, rfl, s1 _ _ h1, T.cl, T.nU, h2.unlikes, un, _, rfl, DGet.t (k := [Sum.inr (hdS hm x), Sum.inr (hdS hm y)]) (s1 _ _ hK.uns) upd_same, ?_⟩
  exact q _ s1
theorem scTellU : FnScope ["self", "one", "other"] ["self", "one", "other"] (defScope sTellU) := ⟨rfl, rfl, rfl, by decide +kernel, rfl, by decide +kernel, by decide +kernel⟩
theorem ok_tellU (T : Txt K mg C fI) (F : Fun K "tell_unlike" "Knowledge.tell_unlike" sTellU f fd) (GH : FnOk P w K mg base CX0 1 gH dH ["self", "word"] (spHead C)) (cH : MCal K C "head" gH dH ["self", "word"]) : FnOk P w K mg base CX0 2 f fd ["self", "one", "other"] (spTellU C) := by
  refine F.okQ scTellU (fun vs H Q E h => ?_) (fun cdv A outer s0 H vs Q E hr h => ?_)
  · obtain ⟨p, pl, hd, un, fu, hm, uk, x, y, rfl, _⟩ := h; rfl
  obtain ⟨p, pl, hd, un, fu, hm, uk, x, y, rfl, hK, hl, q⟩ := h
  have hu1 := hu_of hr
  obtain ⟨dx, fs, h1, h2⟩ := hK.ob
  have nh := h2.meth "head" (by decide +kernel)
  refine ⟨_, qb_cons (qs_dput hu1 (qe_fldK (K := K) rfl (qv 0)) (qe_tup (qa_call (qe_meth (qv 0) T.cl cH.meth GH hr cH.bind .nil pass0 (qa_nm (qv 1) qa_nil)) (qa_call (qe_meth (qv 0) T.cl cH.meth GH hr cH.bind .nil pass0 (qa_nm (qv 2) qa_nil)) qa_nil))) qe_bl)
    (qb_one (qs_dput hu1 (qe_fldK (K := K) rfl (qv 0)) (qe_tup (qa_call (qe_meth (qv 0) T.cl cH.meth GH hr cH.bind .nil pass0 (qa_nm (qv 2) qa_nil)) (qa_call (qe_meth (qv 0) T.cl cH.meth GH hr cH.bind .nil pass0 (qa_nm (qv 1) qa_nil)) qa_nil))) qe_bl)), ?_⟩
  have hlen : ∀ {n : Nat}, n ≤ 1000 → n < sizeLine := fun h => Nat.lt_of_le_of_lt h (by decide)
  have np : p ≠ un := ne_of h1 hK.uns (fun z => nomatch z)
  refine ⟨_, rfl, p, C, dx, fs, .ref un, rfl, h1, T.cl, T.nU, h2.unlikes, _, rfl, p, dx, fs, rfl, h1, nh, _, rfl, p, pl, hd, un, fu, hm, uk, x, rfl, hK, _, rfl, p, dx, fs, rfl, h1, nh, _, rfl, p, pl, hd, un, fu, hm, uk, y, rfl, hK, (show 2 ≤ sizeLine by decide), fun t ht => ?_⟩
  have s1 := same_new ht (.tup [.str (hdS hm x), .str (hdS hm y)])
  have htu : t ≠ un := Ne.symm (ne_of_none hK.uns ht)
  refine ⟨un, _, rfl, DPut.t (k := [Sum.inr (hdS hm x), Sum.inr (hdS hm y)]) (s1 _ _ hK.uns) upd_same (hlen (by lia)), ?_⟩
  have k1 : Kp (· = un) H (upd (upd H t (.tup [.str (hdS hm x), .str (hdS hm y)])) un (.dT (putK uk [Sum.inr (hdS hm x), Sum.inr (hdS hm y)] (.bl true)))) := fun b o hb n => by rw [upd_ne n]; exact s1 _ _ hb
  have hK1 := hK.tell k1 upd_same
  have hl1 : (putK uk [Sum.inr (hdS hm x), Sum.inr (hdS hm y)] (V.bl true)).length ≤ uk.length + 1 := length_putK _ _ _
  generalize upd (upd H t (.tup [.str (hdS hm x), .str (hdS hm y)])) un (.dT (putK uk [Sum.inr (hdS hm x), Sum.inr (hdS hm y)] (.bl true))) = H1 at k1 hK1 ⊢
  obtain ⟨dx', fs', h1', h2'⟩ := hK1.ob
  have nh' := h2'.meth "head" (by decide +kernel)
  refine ⟨_, rfl, p, C, dx', fs', .ref un, rfl, h1', T.cl, T.nU, h2'.unlikes, _, rfl, p, dx', fs', rfl, h1', nh', _, rfl, p, pl, hd, un, fu, hm, _, y, rfl, hK1, _, rfl, p, dx', fs', rfl, h1', nh', _, rfl, p, pl, hd, un, fu, hm, _, x, rfl, hK1, (show 2 ≤ sizeLine by decide), fun t2 ht2 => ?_⟩
  have s2 := same_new ht2 (.tup [.str (hdS hm y), .str (hdS hm x)])
  refine ⟨un, _, rfl, DPut.t (k := [Sum.inr (hdS hm y), Sum.inr (hdS hm x)]) (s2 _ _ hK1.uns) upd_same (hlen (by lia)), ?_⟩
  exact q _ (fun b o hb n => by rw [upd_ne n]; exact s2 _ _ (k1 b o hb n)) upd_same
end
end K22
namespace K22
open PySem PySem.Spec L2 Mir Kn
theorem ixTK {X : Cx} {K : PySem.W.Frag} (h : X.K = K) : IxR X (rIxT K) := by subst h; exact ix_tup
end K22
namespace Kn
open PySem PySem.Spec L2
noncomputable def place (p : List Str) : Str := p.getD 1 ""
noncomputable def end2 (p : List Str) : Str := if p.getD 0 "" = "stretch" then p.getD 2 "" else "nil"
noncomputable def FullR (R : Str → Str → Prop) (p : List Str) : Prop := p.getD 0 "" = "cell" ∨ R (place p) (end2 p)
theorem FullR.mono {R S : Str → Str → Prop} (h : ∀ a b, R a b → S a b) {p : List Str} (f : FullR R p) : FullR S p := f.imp id (h _ _)
structure Clo (F P : List (List Str)) (R : Str → Str → Prop) : Prop where
  fact : ∀ u v, [("not" : Str), u, v] ∈ F → R u v
  symm : ∀ a b, R a b → R b a
  conn : ∀ a b c, Conn F a b → R b c → R a c
  nil : ∀ p ∈ P, FullR R p → R (place p) "nil"
  two : ∀ (i j : Nat) p q, P[i]? = some p → P[j]? = some q → i ≠ j → FullR R p → FullR R q → R (place p) (place q)
noncomputable def Un (F P : List (List Str)) (a b : Str) : Prop := ∀ R, Clo F P R → R a b
theorem un_clo (F P : List (List Str)) : Clo F P (Un F P) where
  fact := fun u v h R c => c.fact u v h
  symm := fun a b h R c => c.symm a b (h R c)
  conn := fun a b d h1 h2 R c => c.conn a b d h1 (h2 R c)
  nil := fun p hp hf R c => c.nil p hp (hf.mono fun a b h => h R c)
  two := fun i j p q h1 h2 hn f1 f2 R c => c.two i j p q h1 h2 hn (f1.mono fun a b h => h R c) (f2.mono fun a b h => h R c)
theorem Un.conn2 {F P : List (List Str)} {a b c d : Str} (h : Un F P b d) (h1 : Conn F a b) (h2 : Conn F c d) : Un F P a c :=
  (un_clo F P).conn _ _ _ h1 ((un_clo F P).symm _ _ ((un_clo F P).conn _ _ _ h2 ((un_clo F P).symm _ _ h)))
noncomputable def Told (h : Str → Str) (L : List (Str × Str)) (a b : Str) : Prop := ∃ q ∈ L, (h a = h q.1 ∧ h b = h q.2) ∨ (h a = h q.2 ∧ h b = h q.1)
theorem told_un {F P : List (List Str)} (hF : ∀ r ∈ F, FactRow r) {L : List (Str × Str)} (hL : ∀ q ∈ L, Un F P q.1 q.2) {a b : Str} (t : Told (headF F) L a b) : Un F P a b := by
  obtain ⟨q, hq, h⟩ := t
  rcases h with ⟨h1, h2⟩ | ⟨h1, h2⟩
  · exact (hL q hq).conn2 ((headF_conn hF _ _).mp h1) ((headF_conn hF _ _).mp h2)
  · exact ((un_clo F P).symm _ _ (hL q hq)).conn2 ((headF_conn hF _ _).mp h1) ((headF_conn hF _ _).mp h2)
structure AllTold (F P : List (List Str)) (L : List (Str × Str)) (Fl : List Nat) : Prop where
  fact : ∀ u v, [("not" : Str), u, v] ∈ F → (u, v) ∈ L
  full : ∀ (i : Nat) p, P[i]? = some p → FullR (Told (headF F) L) p → i ∈ Fl
  nil : ∀ i ∈ Fl, ∀ p, P[i]? = some p → (place p, ("nil" : Str)) ∈ L
  two : ∀ i ∈ Fl, ∀ j ∈ Fl, i ≠ j → ∀ p q, P[i]? = some p → P[j]? = some q → (place p, place q) ∈ L ∨ (place q, place p) ∈ L
theorem un_told {F P : List (List Str)} (hF : ∀ r ∈ F, FactRow r) {L : List (Str × Str)} {Fl : List Nat} (A : AllTold F P L Fl) {a b : Str} (u : Un F P a b) : Told (headF F) L a b := by
  refine u _ ⟨fun u v h => ⟨_, A.fact u v h, .inl ⟨rfl, rfl⟩⟩, ?_, ?_, ?_, ?_⟩
  · rintro a b ⟨q, hq, h⟩
    exact ⟨q, hq, h.elim (fun z => .inr ⟨z.2, z.1⟩) (fun z => .inl ⟨z.2, z.1⟩)⟩
  · rintro a b c hc ⟨q, hq, h⟩
    have e := (headF_conn hF a b).mpr hc
    exact ⟨q, hq, by rw [e]; exact h⟩
  · intro p hp hf
    obtain ⟨i, hi⟩ := List.getElem?_of_mem hp
    exact ⟨_, A.nil i (A.full i p hi hf) p hi, .inl ⟨rfl, rfl⟩⟩
  · intro i j p q h1 h2 hn f1 f2
    rcases A.two i (A.full i p h1 f1) j (A.full j q h2 f2) hn p q h1 h2 with z | z
    · exact ⟨_, z, .inl ⟨rfl, rfl⟩⟩
    · exact ⟨_, z, .inr ⟨rfl, rfl⟩⟩
structure Going (F P : List (List Str)) (L : List (Str × Str)) (Fl : List Nat) : Prop where
  fact : ∀ u v, [("not" : Str), u, v] ∈ F → (u, v) ∈ L
  sound : ∀ q ∈ L, Un F P q.1 q.2
  nd : Fl.Nodup
  isf : ∀ i ∈ Fl, ∃ p, P[i]? = some p ∧ FullR (Un F P) p
  nil : ∀ i ∈ Fl, ∀ p, P[i]? = some p → (place p, ("nil" : Str)) ∈ L
  two : ∀ i ∈ Fl, ∀ j ∈ Fl, i ≠ j → ∀ p q, P[i]? = some p → P[j]? = some q → (place p, place q) ∈ L ∨ (place q, place p) ∈ L
noncomputable def tellF (P : List (List Str)) (Fl : List Nat) (p : List Str) : List (Str × Str) := (place p, ("nil" : Str)) :: Fl.map fun j => (place p, place (P.getD j []))
theorem Going.step {F P : List (List Str)} {L : List (Str × Str)} {Fl : List Nat} (G : Going F P L Fl) {i : Nat} {p : List Str} (hi : P[i]? = some p) (hf : FullR (Un F P) p) (hn : ¬ i ∈ Fl) : Going F P (L ++ tellF P Fl p) (Fl ++ [i]) := by
  have pn : (place p, ("nil" : Str)) ∈ L ++ tellF P Fl p := List.mem_append.mpr (.inr (List.mem_cons_self ..))
  have pj : ∀ j ∈ Fl, ∀ q, P[j]? = some q → (place p, place q) ∈ L ++ tellF P Fl p := fun j hj q hq => by
    refine List.mem_append.mpr (.inr (List.mem_cons_of_mem _ (List.mem_map.mpr ⟨j, hj, ?_⟩)))
    rw [List.getD_eq_getElem?_getD, hq]; rfl
  refine ⟨fun u v h => List.mem_append.mpr (.inl (G.fact u v h)), ?_, ?_, ?_, ?_, ?_⟩
  · intro q hq
    rcases List.mem_append.mp hq with z | z
    · exact G.sound q z
    · rcases List.mem_cons.mp z with rfl | z
      · exact (un_clo F P).nil p (List.mem_of_getElem? hi) hf
      · obtain ⟨j, hj, rfl⟩ := List.mem_map.mp z
        obtain ⟨q, hq, hfq⟩ := G.isf j hj
        have e : P.getD j [] = q := by rw [List.getD_eq_getElem?_getD, hq]; rfl
        show Un F P (place p) (place (P.getD j []))
        rw [e]
        exact (un_clo F P).two i j p q hi hq (fun z => hn (z ▸ hj)) hf hfq
  · refine List.nodup_append.mpr ⟨G.nd, List.nodup_cons.mpr ⟨List.not_mem_nil, .nil⟩, fun a ha b hb e => ?_⟩
    rw [List.mem_singleton.mp hb] at e
    exact hn (e ▸ ha)
  · intro j hj
    rcases List.mem_append.mp hj with z | z
    · exact G.isf j z
    · rw [List.mem_singleton.mp z]; exact ⟨p, hi, hf⟩
  · intro j hj q hq
    rcases List.mem_append.mp hj with z | z
    · exact List.mem_append.mpr (.inl (G.nil j z q hq))
    · rw [List.mem_singleton.mp z, hi] at hq
      cases hq
      exact pn
  · intro j hj k hk hne q r hq hr
    rcases List.mem_append.mp hj with z | z
    · rcases List.mem_append.mp hk with y | y
      · exact (G.two j z k y hne q r hq hr).imp (fun w => List.mem_append.mpr (.inl w)) (fun w => List.mem_append.mpr (.inl w))
      · rw [List.mem_singleton.mp y, hi] at hr
        cases hr
        exact .inr (pj j z q hq)
    · rw [List.mem_singleton.mp z, hi] at hq
      cases hq
      rcases List.mem_append.mp hk with y | y
      · exact .inl (pj k y r hr)
      · exact absurd ((List.mem_singleton.mp z).trans (List.mem_singleton.mp y).symm) hne
theorem Going.done {F P : List (List Str)} {L : List (Str × Str)} {Fl : List Nat} (G : Going F P L Fl) (h : ∀ (i : Nat) p, P[i]? = some p → FullR (Told (headF F) L) p → i ∈ Fl) : AllTold F P L Fl := ⟨G.fact, h, G.nil, G.two⟩
theorem nd_lenN : ∀ {l m : List Nat}, l.Nodup → (∀ x ∈ l, x ∈ m) → l.length ≤ m.length
  | [], _, _, _ => Nat.zero_le _
  | x :: l, m, hn, hm => by
    have hx := hm x (List.mem_cons_self ..)
    obtain ⟨h1, h2⟩ := List.nodup_cons.mp hn
    have := nd_lenN (l := l) (m := m.erase x) h2 fun y hy => (List.mem_erase_of_ne (a := y) (b := x) (fun e => h1 (by rw [← e]; exact hy))).mpr (hm y (List.mem_cons_of_mem _ hy))
    rw [List.length_erase_of_mem hx] at this
    have hp : 0 < m.length := List.length_pos_of_mem hx
    rw [List.length_cons]
    lia
theorem Going.len {F P : List (List Str)} {L : List (Str × Str)} {Fl : List Nat} (G : Going F P L Fl) : Fl.length ≤ P.length := by
  have := nd_lenN (m := List.range P.length) G.nd fun i hi => by
    obtain ⟨p, hp, _⟩ := G.isf i hi
    exact List.mem_range.mpr (List.getElem?_eq_some_iff.mp hp).1
  rw [List.length_range] at this
  exact this
end Kn
namespace L2
open PySem PySem.Spec PyProof.Rows
noncomputable def Itk (a : Addr) (od : Obj) (kvs : List (Key × V)) : It where
  go := fun i H => H a = some (.frz od (.dK kvs)) ∧ i < kvs.length
  yld := fun i H x H' => H' = H ∧ (kvs.map fun kv => kV kv.1)[i]? = some x
  stop := fun i H => H a = some (.frz od (.dK kvs)) ∧ kvs.length ≤ i
noncomputable def DEntK (od : Obj) (kvs : List (Key × V)) (es : Array DictEntry) (ep : Nat) : Prop := od.ExactDict ∧ od.data = .dict es ep ∧ Paired (fun (p : Key × V) (e : DictEntry) => RelV (kV p.1) e.key) kvs es.toList
theorem dent_k {P : Program} {w : World} {od : Obj} {es : Array DictEntry} {ep : Nat} : ∀ {kvs : List (Key × V)} {vs : List (Key × Value)} {l : List DictEntry}, KV kvs vs → PySem.Pairs (mixKind P w) l vs → Paired (fun (p : Key × V) (e : DictEntry) => RelV (kV p.1) e.key) kvs l
  | _, _, _, .nil, .nil => .nil
  | _, _, _, .cons h t, .cons h1 h2 t2 => .cons (by rw [h.1]; exact key_rel h1) (dent_k (od := od) (es := es) (ep := ep) t t2)
theorem Paired.nthK {α β : Type} {F : α → β → Prop} : ∀ {l₁ : List α} {l₂ : List β} {i : Nat} {a : α} {b : β}, Paired F l₁ l₂ → l₁[i]? = some a → l₂[i]? = some b → F a b
  | _, _, 0, _, _, .cons h t, h1, h2 => by cases h1; cases h2; exact h
  | _, _, i + 1, _, _, .cons h t, h1, h2 => Paired.nthK (i := i) t (by simpa using h1) (by simpa using h2)
theorem turn_dK {P : Program} {w : World} {K : PySem.W.Frag} {tg : Expr} {a J : Addr} {od : Obj} {kvs : List (Key × V)} {es : Array DictEntry} {ep : Nat} (hd : DEntK od kvs es ep) :
    Turn P w K tg (Itk a od kvs) [J] J (fun i h => h.IsKeyIter J a i es.size ep) where
  mem := by simp
  obj := fun i h st b hb => by
    have e : b = J := by simpa using hb
    subst e
    obtain ⟨o, h1, h2, h3⟩ := st
    exact ⟨o, h1, fun v z => by rw [h3] at z; cases z⟩
  keep := fun i h h' st k => by
    obtain ⟨o, h1, h2⟩ := st
    exact ⟨o, k J (by simp) o h1, h2⟩
  item := by
    intro X hP hw hK hc i pins s σ H E I hf st hg
    subst hP hw hK
    obtain ⟨f0, f1, f2, f3, f4, f5⟩ := hf J (by simp)
    obtain ⟨g1, g2⟩ := I.hok a _ hg.1
    have hsz : es.size = kvs.length := by
      have := hd.2.2.length
      rw [Array.length_toList] at this; exact this.symm
    refine ent_look st g1 hd.2.1 (I.ok.hd hc) (fun hn h' st' sb => ?_) (fun hn => absurd hg.2 (by lia))
    have I1 : Inv X pins σ H { s with heap := h', toks := s.toks } := I.turned (fun b o hb e => (sb.2 b hb).trans e) f0 f1 f3 f4 f5
    have hk : RelV (kV (kvs[i]'hg.2).1) es[i].key := Paired.nthK (F := fun (p : Key × V) (e : DictEntry) => RelV (kV p.1) e.key) hd.2.2 (i := i) (a := kvs[i]'hg.2) (b := es[i]) (List.getElem?_eq_getElem hg.2) (by rw [Array.getElem?_toList]; exact Array.getElem?_eq_getElem hn)
    refine ⟨_, rfl, letGo_keyiter st' ⟨kV (kvs[i]'hg.2).1, H, I1, hk, ⟨rfl, by rw [List.getElem?_map, List.getElem?_eq_getElem hg.2]; rfl⟩, st', fun b hb => (hf b hb).1⟩⟩
  done := by
    intro X hP hw hK hc i pins s σ H E I hf st hg
    subst hP hw hK
    obtain ⟨f0, f1, f2, f3, f4, f5⟩ := hf J (by simp)
    obtain ⟨g1, g2⟩ := I.hok a _ hg.1
    have hsz : es.size = kvs.length := by
      have := hd.2.2.length
      rw [Array.length_toList] at this; exact this.symm
    exact ent_look st g1 hd.2.1 (I.ok.hd hc) (fun hn => absurd hg.2 (by lia)) (fun _ h' eb => ⟨rfl, I.turned (t' := s.toks) (fun b o hb e => eb b o hb e) f0 f1 f3 f4 f5⟩)
  self := fun _ _ _ _ _ st h => wpAny_pyIter_keyiter st h
noncomputable def iDictK (X : Cx) (tl : TE) : TI := fun σ H R => tl σ H fun x H1 => ∃ a kvs, x = .ref a ∧ H1 a = some (.dK kvs) ∧ ∀ od, NF X a → R (Itk a od kvs) (upd H1 a (.frz od (.dK kvs)))
theorem pi_dictK {X : Cx} {tg l : Expr} {tl : TE} (hl : PE X l tl) : PI X tg l (iDictK X tl) := by
  intro pins s σ H R I h
  refine thn (hl pins s σ H _ I h) fun v s1 ⟨x, H1, I1, r1, a, kvs, ex, e, q⟩ => ?_
  subst ex
  cases r1
  obtain ⟨z, hd, vs, rel, od, es, ep, h1, hc, h2, h3, h4, h5⟩ := (show ObjOk X.prog X.w H1 s1.heap a (.dK kvs) from I1.hok a _ e)
  have I2 : Inv X pins σ (upd H1 a (.frz od (.dK kvs))) s1 := I1.write (x := a) (e := a) (h' := s1.heap) (t' := s1.toks) (by rw [e]; exact True.intro) (.inl rfl) (fun _ _ _ z => z) ⟨od, h1⟩ ⟨h1, z, hd, vs, rel, od, es, ep, h1, hc, h2, h3, h4, h5⟩
  have ent : DEntK od kvs es ep := ⟨hc, h2, dent_k (od := od) (es := es) (ep := ep) rel h4⟩
  refine ent_iter hd h1 hc h2 ?_
  refine ⟨s1.heap.objs.size, [s1.heap.objs.size], _, _, upd H1 a (.frz od (.dK kvs)), rfl, I2.kept (t' := s1.toks) fun b o e => Heap.get?_push_of_some _ e, turn_dK ent, ⟨_, Heap.get?_push_size _ rfl, rfl, rfl⟩, fun b hb => ?_, q od (I1.nf e fun _ _ z => nomatch z)⟩
  have e : b = s1.heap.objs.size := by simpa using hb
  subst e
  exact I2.fpOk (Nat.le_refl _) (I2.hok.fresh (Nat.le_refl _))
theorem qi_dictK {X : Cx} {tg l : Expr} {tl : TE} (hl : QE X l tl) : QI X tg l (iDictK X tl) := ⟨pi_dictK hl.run⟩
noncomputable def tThawS (X : Cx) (t : TS) : TS := fun D σ H => t { D with nx := fun σ' H' => ∃ a o u, H' a = some (.frz o u) ∧ NF X a ∧ D.nx σ' (upd H' a u) } σ H
theorem qs_thaw {X : Cx} {st : Stmt} {t : TS} (h : QS X st t) : QS X st (tThawS X t) := ⟨fun pins s σ H D I q => thn (h.run pins s σ H _ I q) fun f s1 p => by
  cases f with
  | next => obtain ⟨σ', H', I', a, o, u, e, nf, q'⟩ := p; exact ⟨σ', _, I'.thaw e nf, q'⟩
  | brk => exact p
  | cont => exact p
  | ret u => exact p⟩
theorem for_dictK {a : Addr} {od : Obj} {kvs : List (Key × V)} {g : TG} {tb : TS} {D : Ends} {σ : St} {H : Hp} (Pv : Nat → St → Hp → Prop) (h0 : Pv 0 σ H) (hl : ∀ i σ H, i ≤ kvs.length → Pv i σ H → H a = some (.frz od (.dK kvs)))
    (hs : ∀ i x σ H, (kvs.map fun kv => kV kv.1)[i]? = some x → Pv i σ H → g x σ H fun σ2 H2 => tb { D with nx := Pv (i + 1), ct := Pv (i + 1), bk := D.nx } σ2 H2) (hd : ∀ σ H, Pv kvs.length σ H → D.nx σ H) :
    ∃ W : Nat → Nat → St → Hp → Prop, (∃ m, W 0 m σ H) ∧ ∀ i m σ H, W i m σ H →
      ((Itk a od kvs).stop i H ∧ D.nx σ H) ∨ ((Itk a od kvs).go i H ∧ ∃ N : St → Hp → Prop, (∀ σ' H', N σ' H' → ∃ m', m' < m ∧ W (i + 1) m' σ' H') ∧ ∀ x H', (Itk a od kvs).yld i H x H' → g x σ H' fun σ2 H2 => tb { D with nx := N, ct := N, bk := D.nx } σ2 H2) := by
  refine ⟨fun i m σ H => m = kvs.length - i ∧ i ≤ kvs.length ∧ Pv i σ H, ⟨kvs.length, by simp, Nat.zero_le _, h0⟩, ?_⟩
  rintro i m σ H ⟨rfl, hi, p⟩
  have q := hl i σ H hi p
  by_cases hlt : i < kvs.length
  · refine .inr ⟨⟨q, hlt⟩, Pv (i + 1), fun σ' H' p' => ⟨kvs.length - (i + 1), by lia, rfl, hlt, p'⟩, fun x H' y => ?_⟩
    obtain ⟨e, y⟩ := y
    subst e
    exact hs i x σ _ y p
  · have e : i = kvs.length := by lia
    subst e
    exact .inl ⟨⟨q, Nat.le_refl _⟩, hd σ H p⟩
end L2
namespace L2
open PySem PySem.Spec PyProof.Rows PySem.SeqAt
open AutoSeq1 (wpAny_loadPart')
open MeetsSeq MeetsSeq2 MeetsSeq3
section
variable {prog : Program} {w : World}
end
section
variable {X : Cx}
end
end L2
namespace L2
open PySem PySem.Spec PyProof.Rows
section
variable {X : Cx}
noncomputable def CDivB (_ j : Int) : Prop := 0 < j ∧ j ≤ 10 ^ 60
theorem op_fdivB : OpR X (binaryOp .FloorDiv) (rI CDivB fun i j => .int (i / j)) := opI fun i j _ _ _ _ _ hc q => by
  have h1 : (0 : Int) < j := hc.1
  have h2 : j ≤ 10 ^ 60 := hc.2
  refine floordiv_int (by lia) (by rw [Int.fdiv_eq_ediv_of_nonneg i (by lia)]; exact q) (.inl (PyProof.noPylong_of_log2 ?_))
  have h3 : j.natAbs < 2 ^ 200 := by
    have : (10 : Int) ^ 60 < 2 ^ 200 := by decide +kernel
    lia
  have h4 : j.natAbs.log2 < 200 := (Nat.log2_lt (by lia)).mpr h3
  lia
set_option autoImplicit true
set_option relaxedAutoImplicit true
end
end L2
namespace K22
open PySem PySem.Spec L2 Mir Kn
noncomputable abbrev sEndsOf : Stmt := top 3
noncomputable def PartRow (r : List Str) : Prop := (∃ a f s, r = [("cell" : Str), a, f, s]) ∨ (∃ a b, r = [("stretch" : Str), a, b]) ∨ ∃ a, r = [("tree" : Str), a]
structure UkT (uk : List (List Key × V)) (h : Str → Str) (L : List (Str × Str)) : Prop where
  pr : ∀ q ∈ uk, pairK q
  len : uk.length ≤ 2 * L.length
  iff : ∀ a b, (valV uk [Sum.inr a, Sum.inr b]).isSome = true ↔ ∃ q ∈ L, (a = h q.1 ∧ b = h q.2) ∨ (a = h q.2 ∧ b = h q.1)
theorem UkT.told {uk : List (List Key × V)} {h : Str → Str} {L : List (Str × Str)} (U : UkT uk h L) (a b : Str) : (valV uk [Sum.inr (h a), Sum.inr (h b)]).isSome = true ↔ Told h L a b := U.iff (h a) (h b)
theorem put_pr {uk : List (List Key × V)} {a b : Str} {v : V} (h : ∀ q ∈ uk, pairK q) : ∀ q ∈ putK uk [Sum.inr a, Sum.inr b] v, pairK q := fun q hq => by
  unfold putK at hq
  split at hq
  · obtain ⟨p, hp, rfl⟩ := List.mem_map.mp hq
    split
    · exact ⟨a, b, by assumption⟩
    · exact h p hp
  · rcases List.mem_append.mp hq with z | z
    · exact h q z
    · rw [List.mem_singleton.mp z]; exact ⟨a, b, rfl⟩
theorem UkT.step {uk : List (List Key × V)} {h : Str → Str} {L : List (Str × Str)} (U : UkT uk h L) (u v : Str) : UkT (put2 uk (h u) (h v)) h (L ++ [(u, v)]) := by
  refine ⟨put_pr (put_pr U.pr), ?_, fun a b => ?_⟩
  · have h1 := length_putK uk [Sum.inr (h u), Sum.inr (h v)] (V.bl true)
    have h2 := length_putK (putK uk [Sum.inr (h u), Sum.inr (h v)] (V.bl true)) [Sum.inr (h v), Sum.inr (h u)] (V.bl true)
    have := U.len
    unfold put2
    rw [List.length_append, List.length_singleton]
    lia
  · unfold put2
    rw [valV_put, valV_put]
    have e1 : ∀ x y z w' : Str, ([Sum.inr x, Sum.inr y] : List Key) = [Sum.inr z, Sum.inr w'] ↔ x = z ∧ y = w' := fun x y z w' => by simp
    constructor
    · intro hs
      by_cases c1 : ([Sum.inr a, Sum.inr b] : List Key) = [Sum.inr (h v), Sum.inr (h u)]
      · have := (e1 _ _ _ _).mp c1
        exact ⟨(u, v), List.mem_append.mpr (.inr (List.mem_singleton.mpr rfl)), .inr this⟩
      · rw [if_neg c1] at hs
        by_cases c2 : ([Sum.inr a, Sum.inr b] : List Key) = [Sum.inr (h u), Sum.inr (h v)]
        · have := (e1 _ _ _ _).mp c2
          exact ⟨(u, v), List.mem_append.mpr (.inr (List.mem_singleton.mpr rfl)), .inl this⟩
        · rw [if_neg c2] at hs
          obtain ⟨q, h1, h2⟩ := (U.iff a b).mp hs
          exact ⟨q, List.mem_append.mpr (.inl h1), h2⟩
    · rintro ⟨q, h1, h2⟩
      by_cases c1 : ([Sum.inr a, Sum.inr b] : List Key) = [Sum.inr (h v), Sum.inr (h u)]
      · rw [if_pos c1]; rfl
      · rw [if_neg c1]
        by_cases c2 : ([Sum.inr a, Sum.inr b] : List Key) = [Sum.inr (h u), Sum.inr (h v)]
        · rw [if_pos c2]; rfl
        · rw [if_neg c2]
          rcases List.mem_append.mp h1 with z | z
          · exact (U.iff a b).mpr ⟨q, z, h2⟩
          · have z' := List.mem_singleton.mp z
            subst z'
            rcases h2 with h2 | h2
            · exact absurd ((e1 _ _ _ _).mpr h2) c2
            · exact absurd ((e1 _ _ _ _).mpr h2) c1
noncomputable def fk (Fl : List Nat) : List (Key × V) := Fl.map fun (n : Nat) => ((Sum.inl ((n : Nat) : Int) : Key), V.bl true)
structure KnS (K : PySem.W.Frag) (C : Addr) (H : Hp) (p pl hd un fu : Addr) (F P : List (List Str)) (L : List (Str × Str)) : Prop where
  at_ : ∃ hm uk, KnAt C H p pl hd un fu hm uk ∧ HeadsOk hm (headF F) ∧ UkT uk (headF F) L
  parts : RowsAt K H pl P
  ne : hd ≠ fu
theorem KnS.same {K : PySem.W.Frag} {C : Addr} {H H' : Hp} {p pl hd un fu : Addr} {F P : List (List Str)} {L : List (Str × Str)} (h : KnS K C H p pl hd un fu F P L) (e : Same H H') : KnS K C H' p pl hd un fu F P L := by
  obtain ⟨⟨hm, uk, h1, h2⟩, h3, h4⟩ := h
  exact ⟨⟨hm, uk, h1.same e, h2⟩, h3.same e, h4⟩
noncomputable def spEnds (K : PySem.W.Frag) : Sp := fun vs H Q _ => ∃ (b : Addr) (r : List Str), vs = [.ref b] ∧ RowAt K H b r ∧ PartRow r ∧ ∀ t H', Same H H' → SqT K H' t [.str (place r), .str (end2 r)] → Q (.ref t) H'
noncomputable def spPart (K : PySem.W.Frag) (C : Addr) (R : List Str → (Str → Str) → List (Str × Str) → Prop) : Sp := fun vs H Q _ => ∃ (p pl hd un fu : Addr) (F P : List (List Str)) (L : List (Str × Str)) (n : Nat) (r : List Str), vs = [.ref p, .int (n : Int)] ∧ KnS K C H p pl hd un fu F P L ∧ P[n]? = some r ∧ PartRow r ∧
  ∀ (b : Bool) H', Same H H' → (b = true ↔ R r (headF F) L) → Q (.bl b) H'
noncomputable def EmptyR (r : List Str) (h : Str → Str) (_ : List (Str × Str)) : Prop := r.getD 0 "" ≠ "cell" ∧ h (place r) = h (end2 r)
noncomputable def MustR (r : List Str) (h : Str → Str) (L : List (Str × Str)) : Prop := FullR (Told h L) r
theorem part_at {K : PySem.W.Frag} {H : Hp} {pl : Addr} {P : List (List Str)} (h : RowsAt K H pl P) {n : Nat} {r : List Str} (hn : P[n]? = some r) : ∃ (as : List Addr) (b : Addr), H pl = some (.lst (as.map V.ref)) ∧ atI (as.map V.ref) (n : Int) = some (.ref b) ∧ RowAt K H b r := by
  obtain ⟨as, h1, h2⟩ := h
  have hl := Paired.length h2
  have hlt : n < as.length := by rw [hl]; exact (List.getElem?_eq_some_iff.mp hn).1
  exact ⟨as, as[n], h1, atI_nat (by rw [List.getElem?_map, List.getElem?_eq_getElem hlt]; rfl), Paired.at2 h2 (List.getElem?_eq_getElem hlt) hn⟩
theorem PartRow.at0 {r : List Str} (h : PartRow r) : atI (r.map V.str) (0 : Int) = some (.str (r.getD 0 "")) := by
  rcases h with ⟨a, f, s, rfl⟩ | ⟨a, b, rfl⟩ | ⟨a, rfl⟩ <;> rfl
theorem PartRow.at1 {r : List Str} (h : PartRow r) : atI (r.map V.str) (1 : Int) = some (.str (place r)) := by
  rcases h with ⟨a, f, s, rfl⟩ | ⟨a, b, rfl⟩ | ⟨a, rfl⟩ <;> rfl
section
variable {P : Program} {w : World} {K : PySem.W.Frag} {mg : Str → Option Value} {base : Heap} {f C fI gE gA : Addr} {fd dE dA : FuncData}
theorem scEnds : FnScope ["part"] ["part"] (defScope sEndsOf) := ⟨rfl, rfl, rfl, by decide +kernel, rfl, by decide +kernel, by decide +kernel⟩
theorem ok_ends (F : Fun K "ends_of" "ends_of" sEndsOf f fd) : FnOk P w K mg base CX0 1 f fd ["part"] (spEnds K) := by
  refine F.okQ scEnds (fun vs H Q E h => ?_) (fun cdv A outer s0 H vs Q E hr h => ?_)
  · obtain ⟨b, r, rfl, _⟩ := h; rfl
  obtain ⟨b, r, rfl, hR, hp, q⟩ := h
  refine ⟨_, (qb_one (qs_ret (qe_ifExp (qt_cmpR op_eq (qe_ix ix_tup (qv 0) qe_int (fun _ _ => rfl)) qe_str (nomark _)) (qe_tup (qa_sub (qe_ix ix_tup (qv 0) qe_int (fun _ _ => rfl)) (qa_sub (qe_ix ix_tup (qv 0) qe_int (fun _ _ => rfl)) qa_nil))) (qe_tup (qa_sub (qe_ix ix_tup (qv 0) qe_int (fun _ _ => rfl)) (qa_str qa_nil)))))), ?_⟩
  refine ⟨_, rfl, b, _, 0, _, rfl, rfl, hR, hp.at0, rfl, _, rfl, iteB (fun c => ?_) (fun c => ?_)⟩
  · have c' : r.getD 0 "" = "stretch" := by simpa using c
    obtain ⟨x, y, rfl⟩ : ∃ x y, r = [("stretch" : Str), x, y] := by
      rcases hp with ⟨a, f, s, rfl⟩ | z | ⟨a, rfl⟩
      · exact absurd c' (by show ¬ ("cell" : Str) = "stretch"; decide +kernel)
      · exact z
      · exact absurd c' (by show ¬ ("tree" : Str) = "stretch"; decide +kernel)
    refine ⟨_, rfl, b, _, 1, .str x, rfl, rfl, hR, rfl, _, rfl, b, _, 2, .str y, rfl, rfl, hR, rfl, (show 2 ≤ sizeLine by decide), fun t ht => ?_⟩
    exact q t _ (same_new ht _) (SqT.of upd_same)
  · have c' : ¬ r.getD 0 "" = "stretch" := by simpa using c
    refine ⟨_, rfl, b, _, 1, _, rfl, rfl, hR, hp.at1, (show 2 ≤ sizeLine by decide), fun t ht => ?_⟩
    have e : end2 r = "nil" := by unfold end2; rw [if_neg c']
    refine q t _ (same_new ht _) ?_
    rw [e]
    exact SqT.of upd_same
theorem scEmpty : FnScope ["self", "number", "ends"] ["self", "number"] (defScope sIsEmpty) := ⟨rfl, rfl, rfl, by decide +kernel, rfl, by decide +kernel, by decide +kernel⟩
theorem ok_empty (T : Txt K mg C fI) (F : Fun K "is_empty" "Knowledge.is_empty" sIsEmpty f fd) (GE : FnOk P w K mg base CX0 1 gE dE ["part"] (spEnds K)) (cE : Cal K mg "ends_of" gE dE ["part"])
    (GA : FnOk P w K mg base CX0 2 gA dA ["self", "one", "other"] (spAlike C)) (cA : MCal K C "alike" gA dA ["self", "one", "other"]) : FnOk P w K mg base CX0 3 f fd ["self", "number"] (spPart K C EmptyR) := by
  refine F.okQ scEmpty (fun vs H Q E h => ?_) (fun cdv A outer s0 H vs Q E hr h => ?_)
  · obtain ⟨p, pl, hd, un, fu, F, P, L, n, r, rfl, _⟩ := h; rfl
  obtain ⟨p, pl, hd, un, fu, Fs, Ps, L, n, r, rfl, hK, hn, hp, q⟩ := h
  have nd := scEmpty.nd
  have hr1 := hr.mono (j := 1) (by lia)
  refine ⟨_, qb_cons (qs_set (i := 2) nd rfl (Or.inl rfl) (qe_call GE hr1 rfl cE.name cE.keep cE.bind .nil pass0 (qa_sub (qe_ix ix_list (qe_fldK (K := K) rfl (qv 0)) (qv 1) (fun _ _ => rfl)) qa_nil)))
    (qb_one (qs_ret (qe_and (qe_cmpR op_ne (qe_ix ix_tup (qe_ix ix_list (qe_fldK (K := K) rfl (qv 0)) (qv 1) (fun _ _ => rfl)) qe_int (fun _ _ => rfl)) qe_str (nomark _)) (qe_one (qe_meth (qv 0) T.cl cA.meth GA hr cA.bind .nil pass0 (qa_sub (qe_ix ix_tup (qv 2) qe_int (fun _ _ => rfl)) (qa_sub (qe_ix ix_tup (qv 2) qe_int (fun _ _ => rfl)) qa_nil))))))), ?_⟩
  obtain ⟨⟨hm, uk, hk, hok, hU⟩, hrows, hne⟩ := id hK
  obtain ⟨dx, fs, h1, h2⟩ := hk.ob
  obtain ⟨as, b, hpl, hat, hR⟩ := part_at hrows hn
  refine ⟨_, rfl, p, C, dx, fs, .ref pl, rfl, h1, T.cl, T.nP, h2.parts, _, rfl, pl, _, _, .ref b, rfl, rfl, SqL.of hpl, hat, b, r, rfl, hR, hp, fun t H1 e1 hT => ?_⟩
  have hk1 := hk.same e1
  refine ⟨_, rfl, p, C, dx, fs, .ref pl, rfl, e1 _ _ h1, T.cl, T.nP, h2.parts, _, rfl, pl, _, _, .ref b, rfl, rfl, SqL.of (e1 _ _ hpl), hat, b, _, 0, _, rfl, rfl, hR.same e1, hp.at0, rfl, _, rfl, iteB (fun c => ?_) (fun c => ?_)⟩
  · have c' : ¬ r.getD 0 "" = "cell" := by simpa using c
    refine ⟨_, rfl, p, dx, fs, rfl, e1 _ _ h1, h2.meth "alike" (by decide +kernel), _, rfl, t, _, 0, .str (place r), rfl, rfl, hT, rfl, _, rfl, t, _, 1, .str (end2 r), rfl, rfl, hT, rfl, p, pl, hd, un, fu, hm, uk, _, _, rfl, hk1, ?_⟩
    refine q _ H1 e1 ?_
    rw [hok.hd, hok.hd, decide_eq_true_eq]
    exact ⟨fun z => ⟨c', z⟩, fun z => z.2⟩
  · have c' : r.getD 0 "" = "cell" := by simpa using c
    exact q false H1 e1 ⟨fun z => Bool.noConfusion z, fun z => absurd c' z.1⟩
theorem scMust : FnScope ["self", "number", "ends"] ["self", "number"] (defScope sMustFull) := ⟨rfl, rfl, rfl, by decide +kernel, rfl, by decide +kernel, by decide +kernel⟩
theorem ok_must (T : Txt K mg C fI) (F : Fun K "must_be_full" "Knowledge.must_be_full" sMustFull f fd) (GE : FnOk P w K mg base CX0 1 gE dE ["part"] (spEnds K)) (cE : Cal K mg "ends_of" gE dE ["part"])
    (GA : FnOk P w K mg base CX0 2 gA dA ["self", "one", "other"] (spUnlike C)) (cA : MCal K C "unlike" gA dA ["self", "one", "other"]) : FnOk P w K mg base CX0 3 f fd ["self", "number"] (spPart K C MustR) := by
  refine F.okQ scMust (fun vs H Q E h => ?_) (fun cdv A outer s0 H vs Q E hr h => ?_)
  · obtain ⟨p, pl, hd, un, fu, F, P, L, n, r, rfl, _⟩ := h; rfl
  obtain ⟨p, pl, hd, un, fu, Fs, Ps, L, n, r, rfl, hK, hn, hp, q⟩ := h
  have nd := scMust.nd
  have hr1 := hr.mono (j := 1) (by lia)
  refine ⟨_, qb_cons (qs_set (i := 2) nd rfl (Or.inl rfl) (qe_call GE hr1 rfl cE.name cE.keep cE.bind .nil pass0 (qa_sub (qe_ix ix_list (qe_fldK (K := K) rfl (qv 0)) (qv 1) (fun _ _ => rfl)) qa_nil)))
    (qb_one (qs_ret (qe_or (qe_cmpR op_eq (qe_ix ix_tup (qe_ix ix_list (qe_fldK (K := K) rfl (qv 0)) (qv 1) (fun _ _ => rfl)) qe_int (fun _ _ => rfl)) qe_str (nomark _)) (qe_one (qe_meth (qv 0) T.cl cA.meth GA hr cA.bind .nil pass0 (qa_sub (qe_ix ix_tup (qv 2) qe_int (fun _ _ => rfl)) (qa_sub (qe_ix ix_tup (qv 2) qe_int (fun _ _ => rfl)) qa_nil))))))), ?_⟩
  obtain ⟨⟨hm, uk, hk, hok, hU⟩, hrows, hne⟩ := id hK
  obtain ⟨dx, fs, h1, h2⟩ := hk.ob
  obtain ⟨as, b, hpl, hat, hR⟩ := part_at hrows hn
  refine ⟨_, rfl, p, C, dx, fs, .ref pl, rfl, h1, T.cl, T.nP, h2.parts, _, rfl, pl, _, _, .ref b, rfl, rfl, SqL.of hpl, hat, b, r, rfl, hR, hp, fun t H1 e1 hT => ?_⟩
  have hk1 := hk.same e1
  refine ⟨_, rfl, p, C, dx, fs, .ref pl, rfl, e1 _ _ h1, T.cl, T.nP, h2.parts, _, rfl, pl, _, _, .ref b, rfl, rfl, SqL.of (e1 _ _ hpl), hat, b, _, 0, _, rfl, rfl, hR.same e1, hp.at0, rfl, _, rfl, iteB (fun c => ?_) (fun c => ?_)⟩
  · have c' : r.getD 0 "" = "cell" := by simpa using c
    exact q true H1 e1 ⟨fun _ => .inl c', fun _ => rfl⟩
  · have c' : ¬ r.getD 0 "" = "cell" := by simpa using c
    refine ⟨_, rfl, p, dx, fs, rfl, e1 _ _ h1, h2.meth "unlike" (by decide +kernel), _, rfl, t, _, 0, .str (place r), rfl, rfl, hT, rfl, _, rfl, t, _, 1, .str (end2 r), rfl, rfl, hT, rfl, p, pl, hd, un, fu, hm, uk, _, _, rfl, hk1, fun H2 e2 => ?_⟩
    refine q _ H2 (e1.trans e2) ?_
    rw [hok.hd, hok.hd, hU.told]
    exact ⟨fun z => .inr z, fun z => z.resolve_left c'⟩
end
end K22
namespace K22
open PySem PySem.Spec L2 Mir Kn
noncomputable def NoRow (o : HO) : Prop := (∃ kv, o = .dK kv) ∨ (∃ kv, o = .dT kv) ∨ (∃ od kv, o = .frz od (.dK kv)) ∨ ∃ C dx fs, o = .ins C dx fs
theorem NoRow.tup {o : HO} (h : NoRow o) {xs : List V} : o ≠ .tup xs ∧ (∀ ob, o ≠ .frz ob (.tup xs)) ∧ o ≠ .lst xs := by
  rcases h with ⟨kv, rfl⟩ | ⟨kv, rfl⟩ | ⟨od, kv, rfl⟩ | ⟨C, dx, fs, rfl⟩
  · exact ⟨(fun z => nomatch z), (fun _ z => nomatch z), (fun z => nomatch z)⟩
  · exact ⟨(fun z => nomatch z), (fun _ z => nomatch z), (fun z => nomatch z)⟩
  · exact ⟨(fun z => nomatch z), (fun _ z => nomatch z), (fun z => nomatch z)⟩
  · exact ⟨(fun z => nomatch z), (fun _ z => nomatch z), (fun z => nomatch z)⟩
theorem rowsAt_kp {K : PySem.W.Frag} {H H' : Hp} {S : Addr → Prop} {pl : Addr} {P : List (List Str)} (h : RowsAt K H pl P) (k : Kp S H H') (hS : ∀ b, S b → ∃ o, H b = some o ∧ NoRow o) : RowsAt K H' pl P := by
  obtain ⟨as, h1, h2⟩ := h
  refine ⟨as, k _ _ h1 fun z => ?_, Paired.mapP h2 fun b r hb => ?_⟩
  · obtain ⟨o, e, n⟩ := hS _ z
    rw [h1] at e
    exact (n.tup (xs := as.map V.ref)).2.2 (Option.some.inj e).symm
  · rcases hb with (z | ⟨ob, z⟩) | z
    · refine .inl (.inl (k _ _ z fun y => ?_))
      obtain ⟨o, e, n⟩ := hS _ y
      rw [z] at e
      exact (n.tup (xs := r.map V.str)).1 (Option.some.inj e).symm
    · refine .inl (.inr ⟨ob, k _ _ z fun y => ?_⟩)
      obtain ⟨o, e, n⟩ := hS _ y
      rw [z] at e
      exact (n.tup (xs := r.map V.str)).2.1 ob (Option.some.inj e).symm
    · exact .inr z
theorem KnS.tell {K : PySem.W.Frag} {C : Addr} {H H' : Hp} {p pl hd un fu : Addr} {F P : List (List Str)} {L : List (Str × Str)} {hm : List (Str × Str)} {uk : List (List Key × V)} {u v : Str} (hk : KnAt C H p pl hd un fu hm uk) (hok : HeadsOk hm (headF F)) (hU : UkT uk (headF F) L) (hp : RowsAt K H pl P) (hne : hd ≠ fu)
    (k : Kp (· = un) H H') (e : H' un = some (.dT (put2 uk (hdS hm u) (hdS hm v)))) : KnS K C H' p pl hd un fu F P (L ++ [(u, v)]) := by
  refine ⟨⟨hm, _, hk.tell k e, hok, ?_⟩, rowsAt_kp hp k fun b hb => ⟨.dT uk, by rw [show b = un from hb]; exact hk.uns, .inr (.inl ⟨_, rfl⟩)⟩, hne⟩
  rw [hok.hd, hok.hd]
  exact hU.step u v
theorem KnS.fus {K : PySem.W.Frag} {C : Addr} {H : Hp} {p pl hd un fu : Addr} {F P : List (List Str)} {L : List (Str × Str)} (h : KnS K C H p pl hd un fu F P L) {o : HO} (hf : H fu = some o) (hn : (∃ kv, o = .dK kv) ∨ ∃ od kv, o = .frz od (.dK kv)) (o' : HO) : KnS K C (upd H fu o') p pl hd un fu F P L := by
  obtain ⟨⟨hm, uk, hk, hok, hU⟩, hr, hne⟩ := h
  obtain ⟨dx, fs, h1, h2⟩ := hk.ob
  have hnr : NoRow o := hn.elim (fun z => .inl z) (fun z => .inr (.inr (.inl z)))
  have n1 : p ≠ fu := fun z => by
    rw [z, hf] at h1
    rcases hn with ⟨kv, rfl⟩ | ⟨od, kv, rfl⟩ <;> cases h1
  have n2 : un ≠ fu := fun z => by
    have := hk.uns
    rw [z, hf] at this
    rcases hn with ⟨kv, rfl⟩ | ⟨od, kv, rfl⟩ <;> cases this
  refine ⟨⟨hm, uk, ⟨⟨dx, fs, by rw [upd_ne n1]; exact h1, h2⟩, by rw [upd_ne hne]; exact hk.hds, by rw [upd_ne n2]; exact hk.uns⟩, hok, hU⟩, ?_, hne⟩
  exact rowsAt_kp (S := (· = fu)) hr (fun b o hb hn => by rw [upd_ne hn]; exact hb) fun b hb => ⟨o, by rw [show b = fu from hb]; exact hf, hnr⟩
theorem fk_new {Fl : List Nat} {n : Nat} (h : ¬ n ∈ Fl) : putK (fk Fl) (Sum.inl (n : Int)) (.bl true) = fk (Fl ++ [n]) := by
  have hv : valV (fk Fl) (Sum.inl (n : Int) : Key) = none := by
    cases e : valV (fk Fl) (Sum.inl (n : Int) : Key) with
    | none => rfl
    | some v =>
      have := valV_in e
      unfold fk at this
      rw [List.map_map] at this
      obtain ⟨m, hm, e2⟩ := List.mem_map.mp this
      have e3 : (Sum.inl (m : Int) : Key) = Sum.inl (n : Int) := e2
      have e4 : (m : Int) = n := Sum.inl.inj e3
      have e5 : m = n := by lia
      exact absurd (e5 ▸ hm) h
  rw [putK_new _ hv]
  unfold fk
  rw [List.map_append]; rfl
noncomputable def spTellF (K : PySem.W.Frag) (C : Addr) : Sp := fun vs H Q _ => ∃ (p pl hd un fu : Addr) (F P : List (List Str)) (L : List (Str × Str)) (Fl : List Nat) (n : Nat) (r : List Str), vs = [.ref p, .int (n : Int)] ∧ KnS K C H p pl hd un fu F P L ∧ H fu = some (.dK (fk Fl)) ∧ P[n]? = some r ∧ (∀ r ∈ P, PartRow r) ∧ (∀ j ∈ Fl, j < P.length) ∧ (¬ n ∈ Fl) ∧ L.length + Fl.length + 1 ≤ 400 ∧
  ∀ H', Kp (fun b => b = un ∨ b = fu) H H' → KnS K C H' p pl hd un fu F P (L ++ tellF P Fl r) → H' fu = some (.dK (fk (Fl ++ [n]))) → Q .non H'
section
variable {P : Program} {w : World} {K : PySem.W.Frag} {mg : Str → Option Value} {base : Heap} {f C fI gU : Addr} {fd dU : FuncData}
theorem scTellF : FnScope ["self", "number", "place", "other"] ["self", "number"] (defScope sTellF) := ⟨rfl, rfl, rfl, by decide +kernel, rfl, by decide +kernel, by decide +kernel⟩
theorem ok_tellF (T : Txt K mg C fI) (F : Fun K "tell_full" "Knowledge.tell_full" sTellF f fd) (GU : FnOk P w K mg base CX0 2 gU dU ["self", "one", "other"] (spTellU C)) (cU : MCal K C "tell_unlike" gU dU ["self", "one", "other"]) : FnOk P w K mg base CX0 3 f fd ["self", "number"] (spTellF K C) := by
  refine F.okQ scTellF (fun vs H Q E h => ?_) (fun cdv A outer s0 H vs Q E hr h => ?_)
  · obtain ⟨p, pl, hd, un, fu, F, P, L, Fl, n, r, rfl, _⟩ := h; rfl
  obtain ⟨p, pl, hd, un, fu, Fs, Ps, L, Fl, n, r, rfl, hK, hfu, hn, hparts, hFl, hnFl, hlen, q⟩ := h
  have nd := scTellF.nd
  have hu1 := hu_of hr
  have hp := hparts r (List.mem_of_getElem? hn)
  refine ⟨_, qb_cons (qs_set (i := 2) nd rfl (Or.inl rfl) (qe_ix ix_tup (qe_ix ix_list (qe_fldK (K := K) rfl (qv 0)) (qv 1) (fun _ _ => rfl)) qe_int (fun _ _ => rfl)))
    (qb_cons (qs_expr (qe_meth (qv 0) T.cl cU.meth GU hr cU.bind .nil pass0 (qa_nm (qv 2) (qa_str qa_nil))))
    (qb_cons (qs_thaw (qs_for PassesOwn.never rfl (qi_dictK (qe_fldK (K := K) rfl (qv 0))) (qg_name (i := 3) nd rfl (Or.inl rfl)) (qb_one (qs_expr (qe_meth (qv 0) T.cl cU.meth GU hr cU.bind .nil pass0 (qa_nm (qv 2) (qa_sub (qe_ix ix_tup (qe_ix ix_list (qe_fldK (K := K) rfl (qv 0)) (qv 3) (fun _ _ => rfl)) qe_int (fun _ _ => rfl)) qa_nil)))))))
    (qb_one (qs_dput hu1 (qe_fldK (K := K) rfl (qv 0)) (qv 1) qe_bl)))), ?_⟩
  obtain ⟨⟨hm, uk, hk, hok, hU⟩, hrows, hne⟩ := id hK
  obtain ⟨dx, fs, h1, h2⟩ := hk.ob
  obtain ⟨as, b, hpl, hat, hR⟩ := part_at hrows hn
  refine ⟨_, rfl, p, C, dx, fs, .ref pl, rfl, h1, T.cl, T.nP, h2.parts, _, rfl, pl, _, _, .ref b, rfl, rfl, SqL.of hpl, hat, b, _, 1, _, rfl, rfl, hR, hp.at1, ?_⟩
  have hUl := hU.len
  refine ⟨_, rfl, p, dx, fs, rfl, h1, h2.meth "tell_unlike" (by decide +kernel), _, rfl, p, pl, hd, un, fu, hm, uk, place r, "nil", rfl, hk, by lia, fun H1 k1 e1 => ?_⟩
  have hK1 := KnS.tell hk hok hU hrows hne k1 e1
  have nuf : fu ≠ un := ne_of hfu hk.uns (fun z => nomatch z)
  have hfu1 := k1 _ _ hfu nuf
  obtain ⟨⟨hm1, uk1, hk1, _, _⟩, _, _⟩ := id hK1
  obtain ⟨dx1, fs1, h11, h21⟩ := hk1.ob
  refine ⟨_, rfl, p, C, dx1, fs1, .ref fu, rfl, h11, T.cl, T.nF, h21.fulls, fu, _, rfl, hfu1, fun od nf => ?_⟩
  have hK2 := hK1.fus hfu1 (.inl ⟨_, rfl⟩) (.frz od (.dK (fk Fl)))
  have hfu2 : (upd H1 fu (.frz od (.dK (fk Fl)))) fu = some (.frz od (.dK (fk Fl))) := upd_same
  have k2 : Kp (fun b => b = un ∨ b = fu) H (upd H1 fu (.frz od (.dK (fk Fl)))) := fun b o hb hnn => by
    rw [upd_ne (fun z => hnn (.inr z))]
    exact k1 b o hb (fun z => hnn (.inl z))
  generalize upd H1 fu (.frz od (.dK (fk Fl))) = H2 at hK2 hfu2 k2 ⊢
  clear hK1 hfu1 hk1 h11 h21 k1 e1
  refine for_dictK (fun i σ H3 => Kp (fun b => b = un ∨ b = fu) H H3 ∧ KnS K C H3 p pl hd un fu Fs Ps (L ++ ((place r, ("nil" : Str)) :: (Fl.take i).map fun j => (place r, place (Ps.getD j [])))) ∧ H3 fu = some (.frz od (.dK (fk Fl))) ∧ ∃ z3 : Option V, σ = [some (.ref p), some (.int (n : Int)), some (.str (place r)), z3])
    ⟨k2, hK2, hfu2, none, rfl⟩ (fun i σ H3 _ pv => pv.2.2.1) ?_ ?_
  · rintro i x σ H3 hx ⟨k3, hK3, hfu3, z3, rfl⟩
    have hil : i < Fl.length := by
      have := (List.getElem?_eq_some_iff.mp hx).1
      unfold fk at this
      simpa using this
    obtain rfl : x = .int ((Fl[i] : Nat) : Int) := by
      unfold fk at hx
      rw [List.getElem?_map, List.getElem?_map, List.getElem?_eq_getElem hil] at hx
      exact (Option.some.inj hx).symm
    have hjl := hFl _ (List.getElem_mem hil)
    obtain ⟨s, hs⟩ : ∃ s, Ps[Fl[i]]? = some s := ⟨Ps[Fl[i]], List.getElem?_eq_getElem hjl⟩
    have hsp := hparts s (List.mem_of_getElem? hs)
    obtain ⟨⟨hm3, uk3, hk3, hok3, hU3⟩, hrows3, _⟩ := id hK3
    obtain ⟨dx3, fs3, h13, h23⟩ := hk3.ob
    obtain ⟨as3, b3, hpl3, hat3, hR3⟩ := part_at hrows3 hs
    have hUl3 := hU3.len
    have hll : ((Fl.take i).map fun j => (place r, place (Ps.getD j []))).length ≤ Fl.length := by rw [List.length_map, List.length_take]; lia
    refine ⟨_, rfl, p, dx3, fs3, rfl, h13, h23.meth "tell_unlike" (by decide +kernel), _, rfl, _, rfl, p, C, dx3, fs3, .ref pl, rfl, h13, T.cl, T.nP, h23.parts, _, rfl, pl, _, _, .ref b3, rfl, rfl, SqL.of hpl3, hat3, b3, _, 1, _, rfl, rfl, hR3, hsp.at1, p, pl, hd, un, fu, hm3, uk3, place r, place s, rfl, hk3, ?_, fun H4 k4 e4 => ?_⟩
    · rw [List.length_append, List.length_cons] at hUl3
      lia
    have hK4 := KnS.tell hk3 hok3 hU3 hrows3 hne k4 e4
    refine ⟨fun b' o hb hnn => k4 b' o (k3 b' o hb hnn) (fun z => hnn (.inl z)), ?_, k4 _ _ hfu3 nuf, _, rfl⟩
    have et : Fl.take (i + 1) = Fl.take i ++ [Fl[i]] := by rw [List.take_add_one, List.getElem?_eq_getElem hil]; rfl
    have eg : Ps.getD Fl[i] [] = s := by rw [List.getD_eq_getElem?_getD, hs]; rfl
    rw [List.append_assoc] at hK4
    rw [et, List.map_append, List.map_singleton, eg]
    exact hK4
  · rintro σ H3 ⟨k3, hK3, hfu3, z3, rfl⟩
    have e0 : (fk Fl).length = Fl.length := by unfold fk; rw [List.length_map]
    rw [e0, List.take_length] at hK3
    refine ⟨fu, od, .dK (fk Fl), hfu3, nf, ?_⟩
    have hK4 := hK3.fus hfu3 (.inr ⟨_, _, rfl⟩) (.dK (fk Fl))
    have hfu4 : (upd H3 fu (.dK (fk Fl))) fu = some (.dK (fk Fl)) := upd_same
    have k4 : Kp (fun b => b = un ∨ b = fu) H (upd H3 fu (.dK (fk Fl))) := fun b o hb hnn => by
      rw [upd_ne (fun z => hnn (.inr z))]
      exact k3 b o hb hnn
    generalize upd H3 fu (.dK (fk Fl)) = H4 at hK4 hfu4 k4 ⊢
    obtain ⟨⟨hm4, uk4, hk4, _, _⟩, _, _⟩ := id hK4
    obtain ⟨dx4, fs4, h14, h24⟩ := hk4.ob
    refine ⟨_, rfl, p, C, dx4, fs4, .ref fu, rfl, h14, T.cl, T.nF, h24.fulls, _, rfl, fu, _, rfl, DPut.k (k := Sum.inl (n : Int)) hfu4 ?_, ?_⟩
    · rw [e0]; exact Nat.lt_of_le_of_lt (show Fl.length ≤ 1000 by lia) (by decide)
    rw [fk_new hnFl]
    refine q _ (fun b o hb hnn => by rw [upd_ne (fun z => hnn (.inr z))]; exact k4 b o hb hnn) (hK4.fus hfu4 (.inl ⟨_, rfl⟩) _) upd_same
end
end K22
namespace L2
open PySem PySem.Spec
noncomputable def natV (n : Nat) : V := .int (n : Int)
theorem nums_nat (n : Nat) : nums 0 n = (List.range n).map natV := by
  unfold nums natV
  refine List.map_congr_left fun i _ => ?_
  rw [Int.zero_add]
theorem comp_keep {J : It} {H1 : Hp} {σ : St} {ix : List Nat} {tc : TT} {te : TE} {Q : VK} {I0 : Hp → Prop} (ns : List Nat) (p : Nat → Bool) (hJ : JSeq J I0 (ns.map natV)) (h0 : I0 H1) (hz : ns.length ≤ 1000)
    (hc : ∀ n ∈ ns, ∀ H2, Same H1 H2 → ∀ Q' : Bool → Hp → Prop, (∀ H3, Same H2 H3 → Q' (p n) H3) → tc (some (.int (n : Int)) :: frees σ ix) H2 Q')
    (he : ∀ (n : Nat) H2 (Q' : VK), Q' (.int (n : Int)) H2 → te (some (.int (n : Int)) :: frees σ ix) H2 Q')
    (hQ : ∀ D H', H1 D = none → Same H1 H' → H' D = some (.lst ((ns.filter p).map natV)) → Q (.ref D) H') : CompGo J H1 σ ix tc te Q := by
  have pv : ∀ n : Nat, (fun v : V => match v with | .int i => p i.toNat | _ => false) (natV n) = p n := fun n => by
    show p ((n : Int)).toNat = p n
    rw [Int.toNat_natCast]
  refine comp_map (ns.map natV) (fun v => match v with | .int i => p i.toNat | _ => false) id hJ h0 (by rw [List.length_map]; exact Nat.le_trans hz (by decide)) ?_ ?_ ?_
  · intro x hx H2 e2 Q' q'
    obtain ⟨n, hn, rfl⟩ := List.mem_map.mp hx
    refine hc n hn H2 e2 Q' fun H3 e3 => ?_
    have := q' H3 e3
    have e : (match natV n with | .int i => p i.toNat | _ => false) = p n := pv n
    rw [e] at this
    exact this
  · intro x hx _ H2 e2 Q' q'
    obtain ⟨n, hn, rfl⟩ := List.mem_map.mp hx
    exact he n H2 Q' (q' H2 (Same.refl _))
  · intro D H' hD e hd
    refine hQ D H' hD e ?_
    rw [hd, List.map_id, List.filter_map]
    rw [show (List.filter ((fun v : V => match v with | .int i => p i.toNat | _ => false) ∘ natV) ns) = ns.filter p from List.filter_congr fun n _ => pv n]
end L2
namespace K22
open PySem PySem.Spec L2 Mir Kn
open Classical in
noncomputable def mustB (P : List (List Str)) (h : Str → Str) (L : List (Str × Str)) (n : Nat) : Bool := decide (∃ r, P[n]? = some r ∧ FullR (Told h L) r)
open Classical in
theorem mustB_iff {P : List (List Str)} {h : Str → Str} {L : List (Str × Str)} {n : Nat} : mustB P h L n = true ↔ ∃ r, P[n]? = some r ∧ FullR (Told h L) r := by
  unfold mustB
  exact ⟨fun z => of_decide_eq_true z, fun z => decide_eq_true z⟩
theorem mustB_eq {P : List (List Str)} {h : Str → Str} {L : List (Str × Str)} {n : Nat} {r : List Str} {b : Bool} (hn : P[n]? = some r) (hb : b = true ↔ FullR (Told h L) r) : mustB P h L n = b := by
  rw [Bool.eq_iff_iff, mustB_iff, hb]
  constructor
  · rintro ⟨r', h1, h2⟩
    rw [hn] at h1
    cases h1
    exact h2
  · exact fun z => ⟨r, hn, z⟩
theorem fk_val {Fl : List Nat} {n : Nat} : (valV (fk Fl) (Sum.inl (n : Int) : Key)).isSome = decide (n ∈ Fl) := by
  rw [← valV_any]
  unfold fk
  rw [Bool.eq_iff_iff, List.any_eq_true, decide_eq_true_eq]
  constructor
  · rintro ⟨q, hq, e⟩
    obtain ⟨m, hm, rfl⟩ := List.mem_map.mp hq
    have e' : (Sum.inl (m : Int) : Key) = Sum.inl (n : Int) := by simpa using e
    have : (m : Int) = n := Sum.inl.inj e'
    have : m = n := by lia
    exact this ▸ hm
  · exact fun h => ⟨_, List.mem_map.mpr ⟨n, h, rfl⟩, by simp⟩
noncomputable def spFind (K : PySem.W.Frag) (C : Addr) : Sp := fun vs H Q _ => ∃ (p pl hd un fu : Addr) (F P : List (List Str)) (L : List (Str × Str)), vs = [.ref p] ∧ KnS K C H p pl hd un fu F P L ∧ H fu = some (.dK (fk [])) ∧ (∀ r ∈ F, FactRow r) ∧ (∀ r ∈ P, PartRow r) ∧ P.length ≤ 15 ∧ L.length ≤ 100 ∧ Going F P L [] ∧
  ∀ L' Fl H', Kp (fun b => b = un ∨ b = fu) H H' → KnS K C H' p pl hd un fu F P L' → H' fu = some (.dK (fk Fl)) → AllTold F P L' Fl → Going F P L' Fl → L'.length ≤ 400 → Q .non H'
section
variable {P : Program} {w : World} {K : PySem.W.Frag} {mg : Str → Option Value} {base : Heap} {f C fI gM gT : Addr} {fd dM dT : FuncData}
theorem while_n {c : TT} {tb : TS} {D : Ends} {σ : St} {H : Hp} (Pv : Nat → St → Hp → Prop) {m0 : Nat} (h0 : Pv m0 σ H)
    (hs : ∀ m σ H, Pv m σ H → c σ H fun b H1 => if b = true then tb { D with nx := fun σ' H' => ∃ m', m' < m ∧ Pv m' σ' H', ct := fun σ' H' => ∃ m', m' < m ∧ Pv m' σ' H', bk := D.nx } σ H1 else D.nx σ H1)
    (mono : ∀ σ H Q Q', (∀ b H1, Q b H1 → Q' b H1) → c σ H Q → c σ H Q') : tWhile c tb D σ H := by
  refine ⟨Pv, ⟨_, h0⟩, ?_⟩
  intro m σ H p
  refine mono σ H _ _ (fun b H1 q => ?_) (hs m σ H p)
  cases b with
  | true => exact ⟨_, fun σ' H' ⟨m', l, p'⟩ => ⟨m', l, p'⟩, q⟩
  | false => exact q
theorem scFindF : FnScope ["self", "found", "number", "waiting"] ["self"] (defScope sFindF) := ⟨rfl, rfl, rfl, by decide +kernel, rfl, by decide +kernel, by decide +kernel⟩
theorem ok_find (Cn : Con K mg w) (T : Txt K mg C fI) (F : Fun K "find_fulls" "Knowledge.find_fulls" sFindF f fd) (GM : FnOk P w K mg base CX0 3 gM dM ["self", "number"] (spPart K C MustR)) (cM : MCal K C "must_be_full" gM dM ["self", "number"]) (GT : FnOk P w K mg base CX0 3 gT dT ["self", "number"] (spTellF K C)) (cT : MCal K C "tell_full" gT dT ["self", "number"]) : FnOk P w K mg base CX0 4 f fd ["self"] (spFind K C) := by
  refine F.okQ scFindF (fun vs H Q E h => ?_) (fun cdv A outer s0 H vs Q E hr h => ?_)
  · obtain ⟨p, pl, hd, un, fu, F, P, L, rfl, _⟩ := h; rfl
  obtain ⟨p, pl, hd, un, fu, Fs, Ps, L0, rfl, hK, hfu, hFr, hPr, hP15, hL0, hG0, q⟩ := h
  have nd := scFindF.nd
  have hu1 := hu_of hr
  refine ⟨_, qb_cons (qs_setCG ["number", "self"] [0] (i := 1) nd rfl (Or.inl rfl) (qi_range1 rfl Cn.range (qa_call (qe_callB call_len_seq rfl Cn.len PySem.boot_len (qa_cons (qe_fldK (K := K) rfl (qv 0)) qa_nil)) qa_nil)) (fun _ _ _ _ => (qts_one (qt_val (qe_meth (qv 1) T.cl cM.meth GM hr cM.bind .nil pass0 (qa_nm (qv 0) qa_nil))))) (fun _ _ _ _ => (qv 0)))
    (qb_one (qs_while PassesOwn.never (qt_truth (K := K) (qv 1)) (qb_cons (qs_for PassesOwn.never rfl (qi_list (qv 1)) (qg_name (i := 2) nd rfl (Or.inl rfl)) (qb_one (qs_expr (qe_meth (qv 0) T.cl cT.meth GT hr cT.bind .nil pass0 (qa_nm (qv 2) qa_nil)))))
    (qb_cons (qs_setCG ["number", "self"] [0] (i := 3) nd rfl (Or.inl rfl) (qi_range1 rfl Cn.range (qa_call (qe_callB call_len_seq rfl Cn.len PySem.boot_len (qa_cons (qe_fldK (K := K) rfl (qv 0)) qa_nil)) qa_nil)) (fun _ _ _ _ => (qts_one (qt_dnotin hu1 (qv 0) (qe_fldK (K := K) rfl (qv 1))))) (fun _ _ _ _ => (qv 0)))
    (qb_one (qs_setCG ["number", "self"] [0] (i := 1) nd rfl (Or.inl rfl) (qi_list (qv 3)) (fun _ _ _ _ => (qts_one (qt_val (qe_meth (qv 1) T.cl cM.meth GM hr cM.bind .nil pass0 (qa_nm (qv 0) qa_nil))))) (fun _ _ _ _ => (qv 0)))))))), ?_⟩
  have must : ∀ {H2 H3 : Hp} {L : List (Str × Str)} {n : Nat} {Q' : Bool → Hp → Prop}, KnS K C H2 p pl hd un fu Fs Ps L → n < Ps.length → Same H2 H3 → (∀ H4, Same H3 H4 → Q' (mustB Ps (headF Fs) L n) H4) → spPart K C MustR [.ref p, .int (n : Int)] H3 (fun v H4 => ∃ b, v = .bl b ∧ Q' b H4) E0 := fun {H2 H3 L n Q'} hk hn e q' => by
    have hs : Ps[n]? = some Ps[n] := List.getElem?_eq_getElem hn
    refine ⟨p, pl, hd, un, fu, Fs, Ps, L, n, _, rfl, hk.same e, hs, hPr _ (List.getElem_mem hn), fun b H4 e4 hb => ⟨b, rfl, ?_⟩⟩
    have := q' H4 e4
    rw [mustB_eq hs hb] at this
    exact this
  obtain ⟨⟨hm, uk, hk, hok, hU⟩, hrows, hne⟩ := id hK
  obtain ⟨dx, fs, h1, h2⟩ := hk.ob
  obtain ⟨as, hpl, hpp⟩ := hrows
  have hasl := Paired.length hpp
  have hml : (as.map V.ref).length = Ps.length := by rw [List.length_map]; exact hasl
  refine ⟨_, rfl, p, C, dx, fs, .ref pl, rfl, h1, T.cl, T.nP, h2.parts, pl, _, rfl, .inl (SqL.of hpl), _, rfl, (by rw [hml]; lia), (by rw [hml]; lia), ?_⟩
  rw [hml, Int.toNat_natCast]
  have JR : ∀ n, JSeq (Itr 0 n) (fun _ => True) ((List.range n).map natV) := fun n => by rw [← nums_nat]; exact jseq_rng
  refine comp_keep (List.range Ps.length) (mustB Ps (headF Fs) L0) (JR _) trivial (by rw [List.length_range]; lia) (fun n hn H2 e2 Q' q' => ?_) (fun n H2 Q' q' => ⟨_, rfl, q'⟩) fun D H1 hD e1 hd1 => ?_
  · exact ⟨_, rfl, p, dx, fs, rfl, e2 _ _ h1, h2.meth "must_be_full" (by decide +kernel), _, rfl, must hK (List.mem_range.mp hn) e2 q'⟩
  have hfo0 : ∀ i r, Ps[i]? = some r → FullR (Told (headF Fs) L0) r → i ∈ ([] : List Nat) ∨ i ∈ (List.range Ps.length).filter (mustB Ps (headF Fs) L0) := fun i r hi hf => .inr (List.mem_filter.mpr ⟨List.mem_range.mpr (List.getElem?_eq_some_iff.mp hi).1, mustB_iff.mpr ⟨r, hi, hf⟩⟩)
  refine while_n (fun m σ H2 => ∃ (L : List (Str × Str)) (Fl fo : List Nat) (D : Addr) (z2 z3 : Option V), σ = [some (.ref p), some (.ref D), z2, z3] ∧ Kp (fun b => b = un ∨ b = fu) H H2 ∧ KnS K C H2 p pl hd un fu Fs Ps L ∧ H2 fu = some (.dK (fk Fl)) ∧ Going Fs Ps L Fl ∧ L.length ≤ 100 + Fl.length * 16 ∧ H2 D = some (.lst (fo.map natV)) ∧ fo.Nodup ∧ (∀ i ∈ fo, (¬ i ∈ Fl) ∧ ∃ r, Ps[i]? = some r ∧ FullR (Told (headF Fs) L) r) ∧ (∀ i r, Ps[i]? = some r → FullR (Told (headF Fs) L) r → i ∈ Fl ∨ i ∈ fo) ∧ m = Ps.length - Fl.length)
    (m0 := Ps.length) ⟨L0, [], _, D, none, none, rfl, fun b o hb _ => e1 b o hb, hK.same e1, e1 _ _ hfu, hG0, by simpa using hL0, hd1, List.Nodup.sublist List.filter_sublist List.nodup_range, fun i hi => ⟨List.not_mem_nil, mustB_iff.mp (List.mem_filter.mp hi).2⟩, hfo0, rfl⟩ ?_ ?_
  · rintro m σ H2 ⟨L, Fl, fo, D, z2, z3, rfl, k2, hK2, hfu2, hG, hLl, hD2, hfn, hff, hfc, rfl⟩
    refine ⟨_, rfl, _, .inl ⟨_, SqL.of hD2, rfl⟩, ?_⟩
    have nuf : fu ≠ un := by
      obtain ⟨⟨_, _, hk2, _⟩, _⟩ := hK2
      exact ne_of hfu2 hk2.uns (fun z => nomatch z)
    have hfl := hG.len
    refine iteB (fun c => ?_) (fun c => ?_)
    · have hfpos : 0 < fo.length := by
        cases fo with
        | nil => cases c
        | cons _ _ => exact Nat.succ_pos _
      clear c
      refine ⟨_, rfl, D, rfl, ⟨_, SqL.of hD2⟩, ?_⟩
      have hDu : D ≠ un := by
        obtain ⟨⟨_, _, hk2, _⟩, _⟩ := hK2
        exact ne_of hD2 hk2.uns (fun z => nomatch z)
      have hDf : D ≠ fu := ne_of hD2 hfu2 (fun z => nomatch z)
      refine for_list (xs := fo.map natV) (fun j σ H3 => ∃ (L3 : List (Str × Str)) (z2 : Option V), σ = [some (.ref p), some (.ref D), z2, z3] ∧ Kp (fun b => b = un ∨ b = fu) H H3 ∧ KnS K C H3 p pl hd un fu Fs Ps L3 ∧ H3 fu = some (.dK (fk (Fl ++ fo.take j))) ∧ Going Fs Ps L3 (Fl ++ fo.take j) ∧ L3.length ≤ 100 + (Fl ++ fo.take j).length * 16 ∧ H3 D = some (.lst (fo.map natV)))
        ⟨L, z2, rfl, k2, hK2, by rw [List.take_zero, List.append_nil]; exact hfu2, by rw [List.take_zero, List.append_nil]; exact hG, by rw [List.take_zero, List.append_nil]; exact hLl, hD2⟩ (fun j σ H3 _ pv => by obtain ⟨_, _, _, _, _, _, _, _, hd3⟩ := pv; exact SqL.of hd3) ?_ ?_
      · rintro j x σ H3 hx ⟨L3, z2, rfl, k3, hK3, hfu3, hG3, hL3, hD3⟩
        have hjl : j < fo.length := by have := (List.getElem?_eq_some_iff.mp hx).1; rw [List.length_map] at this; exact this
        obtain rfl : x = .int ((fo[j] : Nat) : Int) := by
          rw [List.getElem?_map, List.getElem?_eq_getElem hjl] at hx
          exact (Option.some.inj hx).symm
        obtain ⟨hn1, r, hr, hfr⟩ := hff _ (List.getElem_mem hjl)
        have hnt : ¬ fo[j] ∈ Fl ++ fo.take j := fun z => by
          rcases List.mem_append.mp z with y | y
          · exact hn1 y
          · obtain ⟨i, hi, e⟩ := List.mem_take_iff_getElem.mp y
            have := (List.getElem_inj hfn).mp e
            lia
        have hfU : FullR (Un Fs Ps) r := hfr.mono fun a b z => told_un hFr hG.sound z
        have hlen3 := hG3.len
        have hm16 : (Fl ++ fo.take j).length * 16 ≤ 15 * 16 := Nat.mul_le_mul_right _ (by lia)
        obtain ⟨⟨hm3, uk3, hk3, _, _⟩, _, _⟩ := id hK3
        obtain ⟨dx3, fs3, h13, h23⟩ := hk3.ob
        refine ⟨_, rfl, p, dx3, fs3, rfl, h13, h23.meth "tell_full" (by decide +kernel), _, rfl, p, pl, hd, un, fu, Fs, Ps, L3, Fl ++ fo.take j, fo[j], r, rfl, hK3, hfu3, hr, hPr, fun i hi => ?_, hnt, by lia, fun H4 k4 hK4 hfu4 => ?_⟩
        · obtain ⟨r', h', _⟩ := hG3.isf i hi
          exact (List.getElem?_eq_some_iff.mp h').1
        have et : Fl ++ fo.take (j + 1) = Fl ++ fo.take j ++ [fo[j]] := by rw [List.take_add_one, List.getElem?_eq_getElem hjl, List.append_assoc]; rfl
        refine ⟨_, _, rfl, fun b o hb hnn => k4 b o (k3 b o hb hnn) hnn, hK4, by rw [et]; exact hfu4, by rw [et]; exact hG3.step hr hfU hnt, ?_, k4 _ _ hD3 (fun z => z.elim hDu hDf)⟩
        have tl : (tellF Ps (Fl ++ fo.take j) r).length = (Fl ++ fo.take j).length + 1 := by unfold tellF; rw [List.length_cons, List.length_map]
        rw [et, List.length_append, tl, List.length_append (bs := [fo[j]]), List.length_singleton, Nat.add_mul]
        lia
      · rintro σ H3 ⟨L3, z2, rfl, k3, hK3, hfu3, hG3, hL3, hD3⟩
        have el : (fo.map natV).length = fo.length := List.length_map ..
        rw [el, List.take_length] at hfu3 hG3 hL3
        have hlen3 := hG3.len
        rw [List.length_append] at hlen3
        obtain ⟨⟨hm3, uk3, hk3, hok3, hU3⟩, hrows3, _⟩ := id hK3
        obtain ⟨dx3, fs3, h13, h23⟩ := hk3.ob
        obtain ⟨as3, hpl3, hpp3⟩ := hrows3
        have hml3 : (as3.map V.ref).length = Ps.length := by rw [List.length_map]; exact Paired.length hpp3
        refine ⟨_, rfl, p, C, dx3, fs3, .ref pl, rfl, h13, T.cl, T.nP, h23.parts, pl, _, rfl, .inl (SqL.of hpl3), _, rfl, (by rw [hml3]; lia), (by rw [hml3]; lia), ?_⟩
        rw [hml3, Int.toNat_natCast]
        refine comp_keep (List.range Ps.length) (fun n => !decide (n ∈ Fl ++ fo)) (JR _) trivial (by rw [List.length_range]; lia) (fun n hn H4 e4 Q' q' => ?_) (fun n H4 Q' q' => ⟨_, rfl, q'⟩) fun D4 H4 hD4 e4 hd4 => ?_
        · have g := DGet.k (k := Sum.inl (n : Int)) (e4 _ _ hfu3)
          have := q' H4 (Same.refl _)
          rw [← fk_val] at this
          exact ⟨_, rfl, _, rfl, p, C, dx3, fs3, .ref fu, rfl, e4 _ _ h13, T.cl, T.nF, h23.fulls, fu, _, rfl, g, _, rfl, this⟩
        have hK4 := hK3.same e4
        obtain ⟨⟨hm4, uk4, hk4, _, _⟩, _, _⟩ := id hK4
        obtain ⟨dx4, fs4, h14, h24⟩ := hk4.ob
        refine ⟨_, rfl, D4, rfl, ⟨_, SqL.of hd4⟩, ?_⟩
        have hwl : ((List.range Ps.length).filter fun n => !decide (n ∈ Fl ++ fo)).length ≤ Ps.length := by
          have := List.length_filter_le (fun n => !decide (n ∈ Fl ++ fo)) (List.range Ps.length)
          rw [List.length_range] at this
          exact this
        refine comp_keep ((List.range Ps.length).filter fun n => !decide (n ∈ Fl ++ fo)) (mustB Ps (headF Fs) L3) jseq_list (SqL.of hd4) (by lia) (fun n hn H5 e5 Q' q' => ?_) (fun n H5 Q' q' => ⟨_, rfl, q'⟩) fun D5 H5 hD5 e5 hd5 => ?_
        · exact ⟨_, rfl, p, dx4, fs4, rfl, e5 _ _ h14, h24.meth "must_be_full" (by decide +kernel), _, rfl, must hK4 (List.mem_range.mp (List.mem_filter.mp hn).1) e5 q'⟩
        have e35 := e4.trans e5
        refine ⟨Ps.length - (Fl ++ fo).length, by rw [List.length_append]; lia, L3, Fl ++ fo, _, D5, _, _, rfl, fun b o hb hnn => e35 b o (k3 b o hb hnn), hK3.same e35, e35 _ _ hfu3, hG3, hL3, hd5, List.Nodup.sublist (List.filter_sublist.trans List.filter_sublist) List.nodup_range, fun i hi => ?_, fun i r hi hf => ?_, rfl⟩
        · obtain ⟨g1, g2⟩ := List.mem_filter.mp hi
          obtain ⟨g3, g4⟩ := List.mem_filter.mp g1
          exact ⟨by simpa using g4, mustB_iff.mp g2⟩
        · by_cases hin : i ∈ Fl ++ fo
          · exact .inl hin
          · exact .inr (List.mem_filter.mpr ⟨List.mem_filter.mpr ⟨List.mem_range.mpr (List.getElem?_eq_some_iff.mp hi).1, by simpa using hin⟩, mustB_iff.mpr ⟨r, hi, hf⟩⟩)
    · have hfe : fo = [] := by
        cases fo with
        | nil => rfl
        | cons _ _ => cases c
      subst hfe
      have A := hG.done fun i r hi hf => (hfc i r hi hf).resolve_right List.not_mem_nil
      exact q L Fl H2 k2 hK2 hfu2 A hG (by have : Fl.length * 16 ≤ 15 * 16 := Nat.mul_le_mul_right _ (by lia); lia)
  · rintro σ H2 Q1 Q2 hq ⟨v, h1, k, h2, h3⟩
    exact ⟨v, h1, k, h2, hq _ _ h3⟩
end
end K22
namespace K22
open PySem PySem.Spec L2 Mir Kn
noncomputable def nots (F : List (List Str)) : List (Str × Str) := F.filterMap fun (r : List Str) => if (r.getD 0 "" : Str) = ("not" : Str) then some ((r.getD 1 "", r.getD 2 "") : Str × Str) else none
theorem nots_len (F : List (List Str)) : (nots F).length ≤ F.length := List.length_filterMap_le _ _
theorem nots_not (F : List (List Str)) (u v : Str) : nots (F ++ [[("not" : Str), u, v]]) = nots F ++ [(u, v)] := by
  unfold nots
  rw [List.filterMap_append]
  rfl
theorem nots_is (F : List (List Str)) {k u v : Str} (h : ¬ k = "not") : nots (F ++ [[k, u, v]]) = nots F := by
  unfold nots
  rw [List.filterMap_append, List.filterMap_cons]
  have e : (if ([k, u, v].getD 0 "" : Str) = ("not" : Str) then some (([k, u, v].getD 1 "", [k, u, v].getD 2 "") : Str × Str) else none) = none := if_neg h
  rw [e]
  simp
theorem nots_mem {F : List (List Str)} (hF : ∀ r ∈ F, FactRow r) {u v : Str} : (u, v) ∈ nots F ↔ [("not" : Str), u, v] ∈ F := by
  unfold nots
  rw [List.mem_filterMap]
  constructor
  · rintro ⟨r, hr, e⟩
    obtain ⟨k, a, b, rfl, hk⟩ := hF r hr
    by_cases c : k = "not"
    · rw [if_pos (show ([k, a, b].getD 0 "") = "not" from c)] at e
      have e' : (a, b) = (u, v) := Option.some.inj e
      injection e' with e1 e2
      rw [← e1, ← e2, ← c]; exact hr
    · rw [if_neg (show ¬ ([k, a, b].getD 0 "") = "not" from c)] at e
      cases e
  · intro h
    exact ⟨_, h, by rw [if_pos (show ([("not" : Str), u, v].getD 0 "") = "not" from rfl)]; rfl⟩
theorem going0 {F P : List (List Str)} (hF : ∀ r ∈ F, FactRow r) : Going F P (nots F) [] := ⟨fun u v h => (nots_mem hF).mpr h, fun q hq => (un_clo F P).fact _ _ ((nots_mem hF).mp hq), .nil, fun i hi => by simp at hi, fun i hi => by simp at hi, fun i hi => by simp at hi⟩
open Classical in
noncomputable def emptyB (P : List (List Str)) (h : Str → Str) (n : Nat) : Bool := decide (∃ r, P[n]? = some r ∧ EmptyR r h [])
open Classical in
theorem emptyB_iff {P : List (List Str)} {h : Str → Str} {n : Nat} : emptyB P h n = true ↔ ∃ r, P[n]? = some r ∧ EmptyR r h [] := by
  unfold emptyB
  exact ⟨fun z => of_decide_eq_true z, fun z => decide_eq_true z⟩
theorem emptyB_eq {P : List (List Str)} {h : Str → Str} {L : List (Str × Str)} {n : Nat} {r : List Str} {b : Bool} (hn : P[n]? = some r) (hb : b = true ↔ EmptyR r h L) : (!emptyB P h n) = !b := by
  congr 1
  rw [Bool.eq_iff_iff, emptyB_iff, hb]
  constructor
  · rintro ⟨r', h1, h2⟩
    rw [hn] at h1
    cases h1
    exact h2
  · exact fun z => ⟨r, hn, z⟩
noncomputable def spInitP (K : PySem.W.Frag) (C : Addr) : Sp := fun vs H Q _ => ∃ (p dx fl pl0 : Addr) (F P : List (List Str)), vs = [.ref p, .ref fl, .ref pl0] ∧ H p = some (.ins C dx []) ∧ RowsAt K H fl F ∧ F.length ≤ 100 ∧ (∀ r ∈ F, FactRow r) ∧ RowsAt K H pl0 P ∧ P.length ≤ 15 ∧ (∀ r ∈ P, PartRow r) ∧
  ∀ pl hd un fu L Fl D dx' fs' H', Kp (· = p) H H' → KnS K C H' p pl hd un fu F P L → H' fu = some (.dK (fk Fl)) → AllTold F P L Fl → Going F P L Fl → H' p = some (.ins C dx' fs') → fs'.lookup ("not_empty" : Str) = some (.ref D) → KFs fs' pl hd un fu → H' D = some (.lst (((List.range P.length).filter fun n => !emptyB P (headF F) n).map natV)) → L.length ≤ 400 → Q .non H'
theorem meth_ne : ∀ m ∈ methNames, m ≠ ("parts" : Str) ∧ m ≠ ("heads" : Str) ∧ m ≠ ("unlikes" : Str) ∧ m ≠ ("fulls" : Str) ∧ m ≠ ("not_empty" : Str) := by decide +kernel
theorem fld_ne : ("parts" : Str) ≠ "heads" ∧ ("parts" : Str) ≠ "unlikes" ∧ ("parts" : Str) ≠ "fulls" ∧ ("parts" : Str) ≠ "not_empty" ∧ ("heads" : Str) ≠ "unlikes" ∧ ("heads" : Str) ≠ "fulls" ∧ ("heads" : Str) ≠ "not_empty" ∧ ("unlikes" : Str) ≠ "fulls" ∧ ("unlikes" : Str) ≠ "not_empty" ∧ ("fulls" : Str) ≠ "not_empty" := by decide +kernel
theorem kfs4 (pl hd un fu : Addr) : KFs (putF "fulls" (.ref fu) (putF "unlikes" (.ref un) (putF "heads" (.ref hd) (putF "parts" (.ref pl) [])))) pl hd un fu := by
  obtain ⟨n1, n2, n3, n4, n5, n6, n7, n8, n9, n10⟩ := fld_ne
  refine ⟨?_, ?_, ?_, ?_, ?_, fun m hm => ?_⟩
  · rw [lookup_putF, if_neg n3, lookup_putF, if_neg n2, lookup_putF, if_neg n1, lookup_putF, if_pos rfl]
  · rw [lookup_putF, if_neg n6, lookup_putF, if_neg n5, lookup_putF, if_pos rfl]
  · rw [lookup_putF, if_neg n8, lookup_putF, if_pos rfl]
  · rw [lookup_putF, if_pos rfl]
  · have h1 := length_putF "parts" (.ref pl) []
    have h2 := length_putF "heads" (.ref hd) (putF "parts" (.ref pl) [])
    have h3 := length_putF "unlikes" (.ref un) (putF "heads" (.ref hd) (putF "parts" (.ref pl) []))
    have h4 := length_putF "fulls" (.ref fu) (putF "unlikes" (.ref un) (putF "heads" (.ref hd) (putF "parts" (.ref pl) [])))
    simp only [List.length_nil] at h1
    lia
  · obtain ⟨m1, m2, m3, m4, m5⟩ := meth_ne m hm
    rw [lookup_putF, if_neg m4, lookup_putF, if_neg m3, lookup_putF, if_neg m2, lookup_putF, if_neg m1]; rfl
theorem KFs.more {fs : List (Str × V)} {pl hd un fu : Addr} (h : KFs fs pl hd un fu) (v : V) (hl : fs.length < 50) : KFs (putF "not_empty" v fs) pl hd un fu := by
  obtain ⟨n1, n2, n3, n4, n5, n6, n7, n8, n9, n10⟩ := fld_ne
  refine ⟨?_, ?_, ?_, ?_, ?_, fun m hm => ?_⟩
  · rw [lookup_putF, if_neg n4]; exact h.parts
  · rw [lookup_putF, if_neg n7]; exact h.heads
  · rw [lookup_putF, if_neg n9]; exact h.unlikes
  · rw [lookup_putF, if_neg n10]; exact h.fulls
  · have := length_putF "not_empty" v fs; lia
  · rw [lookup_putF, if_neg (meth_ne m hm).2.2.2.2]; exact h.meth m hm
theorem rows_kpI {K : PySem.W.Frag} {H H' : Hp} {p fl C dx : Addr} {fs : List (Str × V)} {F : List (List Str)} (hp : H p = some (.ins C dx fs)) (k : Kp (· = p) H H') (h : RowsAt K H fl F) : RowsAt K H' fl F := by
  obtain ⟨as, h1, h2⟩ := h
  refine ⟨as, k _ _ h1 (fun z => by have z' : fl = p := z; rw [z', hp] at h1; cases h1), Paired.mapP h2 fun b r hb => ?_⟩
  rcases hb with (z | ⟨o, z⟩) | z
  · exact .inl (.inl (k _ _ z fun y => by have y' : b = p := y; rw [y', hp] at z; cases z))
  · exact .inl (.inr ⟨o, k _ _ z fun y => by have y' : b = p := y; rw [y', hp] at z; cases z⟩)
  · exact .inr z
section
variable {P : Program} {w : World} {K : PySem.W.Frag} {mg : Str → Option Value} {base : Heap} {f C fI gH gU gF gE : Addr} {fd dH dU dF dE : FuncData}
theorem scInit : FnScope ["self", "facts", "parts", "fact"] ["self", "facts", "parts"] (defScope sInit) := ⟨rfl, rfl, rfl, by decide +kernel, rfl, by decide +kernel, by decide +kernel⟩
theorem ok_initP (Cn : Con K mg w) (T : Txt K mg C fI) (F : Fun K "__init__" "Knowledge.__init__" sInit f fd) (GH : FnOk P w K mg base CX0 1 gH dH ["facts"] (spHeadsOf K)) (cH : Cal K mg "heads_of" gH dH ["facts"])
    (GU : FnOk P w K mg base CX0 2 gU dU ["self", "one", "other"] (spTellU C)) (cU : MCal K C "tell_unlike" gU dU ["self", "one", "other"]) (GF : FnOk P w K mg base CX0 4 gF dF ["self"] (spFind K C)) (cF : MCal K C "find_fulls" gF dF ["self"])
    (GE : FnOk P w K mg base CX0 3 gE dE ["self", "number"] (spPart K C EmptyR)) (cE : MCal K C "is_empty" gE dE ["self", "number"]) : FnOk P w K mg base CX0 5 f fd ["self", "facts", "parts"] (spInitP K C) := by
  refine F.okQ scInit (fun vs H Q E h => ?_) (fun cdv A outer s0 H vs Q E hr h => ?_)
  · obtain ⟨p, dx, fl, pl0, F, P, rfl, _⟩ := h; rfl
  obtain ⟨p, dx, fl, pl0, Fs, Ps, rfl, h1, hF, hFl, hrow, hPP, hP15, hPr, q⟩ := h
  obtain ⟨pas, hP0, hPp⟩ := id hPP
  have hpal := Paired.length hPp
  have nd := scInit.nd
  have hu1 := hu_of hr
  have hr3 := hr.mono (j := 3) (by lia)
  have hr2 := hr.mono (j := 2) (by lia)
  have hr1 := hr.mono (j := 1) (by lia)
  refine ⟨_, qb_cons (qs_fldK (K := K) rfl (qv 0) (qe_callTy call_list_of rfl Cn.list PyProof.Rows.boot_list (qa_nm (qv 2) qa_nil)))
    (qb_cons (qs_fldK (K := K) rfl (qv 0) (qe_call GH hr1 rfl cH.name cH.keep cH.bind .nil pass0 (qa_nm (qv 1) qa_nil)))
    (qb_cons (qs_fldK (K := K) rfl (qv 0) qe_dnewT)
    (qb_cons (qs_fldK (K := K) rfl (qv 0) qe_dnew)
    (qb_cons (qs_for PassesOwn.never rfl (qi_list (qv 1)) (qg_name (i := 3) nd rfl (Or.inl rfl)) (qb_one (qs_if (qt_cmpR op_eq (qe_ix ix_tup (qv 3) qe_int (fun _ _ => rfl)) qe_str (nomark _)) (qb_one (qs_expr (qe_meth (qv 0) T.cl cU.meth GU hr2 cU.bind .nil pass0 (qa_sub (qe_ix ix_tup (qv 3) qe_int (fun _ _ => rfl)) (qa_sub (qe_ix ix_tup (qv 3) qe_int (fun _ _ => rfl)) qa_nil))))) qb_nil)))
    (qb_cons (qs_expr (qe_meth0 (qv 0) T.cl cF.meth GF hr cF.bind .nil pass0))
    (qb_one (qs_fldK (K := K) rfl (qv 0) (qe_compG ["number", "self"] [0] (qi_range1 rfl Cn.range (qa_call (qe_callB call_len_seq rfl Cn.len PySem.boot_len (qa_nm (qv 2) qa_nil)) qa_nil)) (fun _ _ _ _ => (qts_one (qt_not (qt_val (qe_meth (qv 1) T.cl cE.meth GE hr3 cE.bind .nil pass0 (qa_nm (qv 0) qa_nil)))))) (fun _ _ _ _ => (qv 0)))))))))), ?_⟩
  have kr : ∀ {Hx : Hp}, Kp (· = p) H Hx → RowsAt K Hx fl Fs := fun k => rows_kpI h1 k hF
  have small : ∀ {n : Nat}, n ≤ 10 → n < 1000 := fun h => by lia
  refine ⟨_, rfl, pl0, _, rfl, .inl (SqL.of hP0), fun pl hpl => ?_⟩
  have hpp : p ≠ pl := ne_of_none h1 hpl
  refine ⟨_, rfl, p, C, dx, _, rfl, (by rw [upd_ne hpp]; exact h1), T.cl, T.nP, small (Nat.zero_le _), ?_⟩
  have k1 : Kp (· = p) H (upd (upd H pl (.lst (pas.map V.ref))) p (.ins C dx (putF "parts" (.ref pl) []))) := fun b o hb n => by rw [upd_ne n]; exact same_new hpl _ _ _ hb
  have hp1 : (upd (upd H pl (.lst (pas.map V.ref))) p (.ins C dx (putF "parts" (.ref pl) []))) p = some (.ins C dx (putF "parts" (.ref pl) [])) := upd_same
  have hl1 : (upd (upd H pl (.lst (pas.map V.ref))) p (.ins C dx (putF "parts" (.ref pl) []))) pl = some (.lst (pas.map V.ref)) := by rw [upd_ne (Ne.symm hpp), upd_same]
  generalize upd (upd H pl (.lst (pas.map V.ref))) p (.ins C dx (putF "parts" (.ref pl) [])) = H1 at k1 hp1 hl1 ⊢
  refine ⟨_, rfl, fl, Fs, rfl, kr k1, hFl, hrow, fun hd hm H2 e2 hhd0 hhd hml hok => ?_⟩
  have hp2 := e2 _ _ hp1
  have hl2 := e2 _ _ hl1
  have hphd : p ≠ hd := ne_of_none hp1 hhd0
  have hplhd : pl ≠ hd := ne_of_none hl1 hhd0
  have len1 : (putF "parts" (.ref pl) []).length ≤ 1 := length_putF _ _ _
  refine ⟨_, rfl, p, C, dx, _, rfl, hp2, T.cl, T.nH, small (by lia), ?_⟩
  have k2 : Kp (· = p) H (upd H2 p (.ins C dx (putF "heads" (.ref hd) (putF "parts" (.ref pl) [])))) := fun b o hb n => by rw [upd_ne n]; exact e2 _ _ (k1 b o hb n)
  have hp2' : (upd H2 p (.ins C dx (putF "heads" (.ref hd) (putF "parts" (.ref pl) [])))) p = some (.ins C dx (putF "heads" (.ref hd) (putF "parts" (.ref pl) []))) := upd_same
  have hl2' : (upd H2 p (.ins C dx (putF "heads" (.ref hd) (putF "parts" (.ref pl) [])))) pl = some (.lst (pas.map V.ref)) := by rw [upd_ne (Ne.symm hpp)]; exact hl2
  have hd2 : (upd H2 p (.ins C dx (putF "heads" (.ref hd) (putF "parts" (.ref pl) [])))) hd = some (.dK (dS hm)) := by rw [upd_ne (Ne.symm hphd)]; exact hhd
  have len2 : (putF "heads" (.ref hd) (putF "parts" (.ref pl) [])).length ≤ 2 := by have := length_putF "heads" (.ref hd) (putF "parts" (.ref pl) []); lia
  generalize upd H2 p (.ins C dx (putF "heads" (.ref hd) (putF "parts" (.ref pl) []))) = H3 at k2 hp2' hl2' hd2 ⊢
  intro un hun
  have hpu : p ≠ un := ne_of_none hp2' hun
  have s4 := same_new hun (.dT [])
  refine ⟨_, rfl, p, C, dx, _, rfl, s4 _ _ hp2', T.cl, T.nU, small (by lia), ?_⟩
  have len3 : (putF "unlikes" (.ref un) (putF "heads" (.ref hd) (putF "parts" (.ref pl) []))).length ≤ 3 := by have := length_putF "unlikes" (.ref un) (putF "heads" (.ref hd) (putF "parts" (.ref pl) [])); lia
  have k3 : Kp (· = p) H (upd (upd H3 un (.dT [])) p (.ins C dx (putF "unlikes" (.ref un) (putF "heads" (.ref hd) (putF "parts" (.ref pl) []))))) := fun b o hb n => by rw [upd_ne n]; exact s4 _ _ (k2 b o hb n)
  have hp3 : (upd (upd H3 un (.dT [])) p (.ins C dx (putF "unlikes" (.ref un) (putF "heads" (.ref hd) (putF "parts" (.ref pl) []))))) p = some (.ins C dx (putF "unlikes" (.ref un) (putF "heads" (.ref hd) (putF "parts" (.ref pl) [])))) := upd_same
  have hl3 : (upd (upd H3 un (.dT [])) p (.ins C dx (putF "unlikes" (.ref un) (putF "heads" (.ref hd) (putF "parts" (.ref pl) []))))) pl = some (.lst (pas.map V.ref)) := by rw [upd_ne (Ne.symm hpp)]; exact s4 _ _ hl2'
  have hd3 : (upd (upd H3 un (.dT [])) p (.ins C dx (putF "unlikes" (.ref un) (putF "heads" (.ref hd) (putF "parts" (.ref pl) []))))) hd = some (.dK (dS hm)) := by rw [upd_ne (Ne.symm hphd)]; exact s4 _ _ hd2
  have hu3 : (upd (upd H3 un (.dT [])) p (.ins C dx (putF "unlikes" (.ref un) (putF "heads" (.ref hd) (putF "parts" (.ref pl) []))))) un = some (.dT []) := by rw [upd_ne (Ne.symm hpu), upd_same]
  have un0 : H un = none := by
    cases qz : H un with
    | none => rfl
    | some o => have := k2 un o qz (fun z => hpu z.symm); rw [hun] at this; cases this
  generalize upd (upd H3 un (.dT [])) p (.ins C dx (putF "unlikes" (.ref un) (putF "heads" (.ref hd) (putF "parts" (.ref pl) [])))) = H4 at k3 hp3 hl3 hd3 hu3 ⊢
  intro fu hfu
  have hpf : p ≠ fu := ne_of_none hp3 hfu
  have s5 := same_new hfu (.dK [])
  refine ⟨_, rfl, p, C, dx, _, rfl, s5 _ _ hp3, T.cl, T.nF, small (by lia), ?_⟩
  have KF := kfs4 pl hd un fu
  have len4 : (putF "fulls" (.ref fu) (putF "unlikes" (.ref un) (putF "heads" (.ref hd) (putF "parts" (.ref pl) [])))).length ≤ 4 := by have := length_putF "fulls" (.ref fu) (putF "unlikes" (.ref un) (putF "heads" (.ref hd) (putF "parts" (.ref pl) []))); lia
  generalize putF "fulls" (.ref fu) (putF "unlikes" (.ref un) (putF "heads" (.ref hd) (putF "parts" (.ref pl) []))) = f4 at KF len4 ⊢
  have k4 : Kp (· = p) H (upd (upd H4 fu (.dK [])) p (.ins C dx f4)) := fun b o hb n => by rw [upd_ne n]; exact s5 _ _ (k3 b o hb n)
  have hl4 : (upd (upd H4 fu (.dK [])) p (.ins C dx f4)) pl = some (.lst (pas.map V.ref)) := by rw [upd_ne (Ne.symm hpp)]; exact s5 _ _ hl3
  have K4 : KnAt C (upd (upd H4 fu (.dK [])) p (.ins C dx f4)) p pl hd un fu hm [] := ⟨⟨dx, f4, upd_same, KF⟩, by rw [upd_ne (Ne.symm hphd)]; exact s5 _ _ hd3, by rw [upd_ne (Ne.symm hpu)]; exact s5 _ _ hu3⟩
  have hp4 : (upd (upd H4 fu (.dK [])) p (.ins C dx f4)) p = some (.ins C dx f4) := upd_same
  have hfu4 : (upd (upd H4 fu (.dK [])) p (.ins C dx f4)) fu = some (.dK (fk [])) := by rw [upd_ne (Ne.symm hpf), upd_same]; rfl
  generalize upd (upd H4 fu (.dK [])) p (.ins C dx f4) = H5 at k4 hl4 K4 hp4 hfu4 ⊢
  have hrows := kr k4
  obtain ⟨fas, hfl, hfp⟩ := hrows
  have hfal := Paired.length hfp
  obtain ⟨fas0, hfl0, hfp0⟩ := hF
  have hflp : fl ≠ p := fun z => by rw [z, h1] at hfl0; cases hfl0
  have hflu : fl ≠ un := fun z => by rw [z, un0] at hfl0; cases hfl0
  have efas : fas = fas0 := by
    have := k4 _ _ hfl0 hflp
    rw [hfl] at this
    have e := Option.some.inj this
    injection e with e
    exact List.map_inj_right (fun a b h => by injection h) |>.mp e
  subst efas
  refine ⟨_, rfl, fl, rfl, ⟨_, SqL.of hfl⟩, ?_⟩
  refine for_list (xs := fas.map V.ref) (fun i σ H' => Kp (· = un) H5 H' ∧ ∃ (uk : List (List Key × V)) (z3 : Option V), H' un = some (.dT uk) ∧ UkT uk (headF Fs) (nots (Fs.take i)) ∧ σ = [some (.ref p), some (.ref fl), some (.ref pl0), z3])
    ⟨fun _ _ q _ => q, [], none, K4.uns, ⟨(fun q hq => nomatch hq), (Nat.zero_le _), (fun a b => ⟨(fun h => nomatch h), (fun ⟨_, h, _⟩ => by rw [List.take_zero] at h; cases h)⟩)⟩, rfl⟩ (fun i σ H' _ pv => SqL.of (pv.1 _ _ hfl fun z => hflu z)) ?_ ?_
  · rintro i x σ H' hi ⟨kk, uk, z3, hU, hUk, rfl⟩
    obtain ⟨b, hb, rfl⟩ := ref_at hi
    obtain ⟨r, hr1', hr2'⟩ := Paired.nth hfp hb
    have hil : i < Fs.length := (List.getElem?_eq_some_iff.mp hr1').1
    obtain ⟨k, u, v, rfl, hk⟩ := hrow r (List.mem_of_getElem? hr1')
    have hR : RowAt K H' b [k, u, v] := by
      rcases hr2' with (z | ⟨o, z⟩) | z
      · exact .inl (.inl (kk _ _ z fun y => by have y' : b = un := y; rw [y', K4.uns] at z; cases z))
      · exact .inl (.inr ⟨o, kk _ _ z fun y => by have y' : b = un := y; rw [y', K4.uns] at z; cases z⟩)
      · exact .inr z
    have htk : Fs.take (i + 1) = Fs.take i ++ [[k, u, v]] := by rw [List.take_add_one, hr1']; rfl
    have KN := K4.tell kk hU
    obtain ⟨dx', fs', g1, g2⟩ := KN.ob
    have hlu := hUk.len
    have hltk : (nots (Fs.take i)).length ≤ i := Nat.le_trans (nots_len _) (by rw [List.length_take]; lia)
    refine ⟨_, rfl, b, _, 0, .str k, rfl, rfl, hR, rfl, rfl, _, rfl, iteB (fun c => ?_) (fun c => ?_)⟩
    · have hk' : k = "not" := by simpa using c
      subst hk'
      refine ⟨_, rfl, p, dx', fs', rfl, g1, g2.meth "tell_unlike" (by decide +kernel), _, rfl, b, _, 1, .str u, rfl, rfl, hR, rfl, _, rfl, b, _, 2, .str v, rfl, rfl, hR, rfl, p, pl, hd, un, fu, hm, uk, u, v, rfl, KN, by lia, fun H6 k6 hu6 => ?_⟩
      rw [hok.hd, hok.hd] at hu6
      refine ⟨fun b o q n => k6 b o (kk b o q n) n, _, _, hu6, ?_, rfl⟩
      rw [htk, nots_not]
      exact hUk.step u v
    · have hk' : ¬ k = "not" := by simpa using c
      refine ⟨kk, uk, _, hU, ?_, rfl⟩
      rw [htk]
      rw [nots_is _ hk']
      exact hUk
  rintro σ H' ⟨kk, uk, z3, hU, hUk, rfl⟩
  rw [List.length_map, hfal, List.take_length] at hUk
  have KN := K4.tell kk hU
  obtain ⟨dx', fs', g1, g2⟩ := KN.ob
  have hplu : pl ≠ un := fun z => by rw [z, K4.uns] at hl4; cases hl4
  have hkp : ∀ {b : Addr} {o : HO}, H b = some o → b ≠ p → H' b = some o := fun {b o} hb n => kk _ _ (k4 b o hb n) (fun z => by have z' : b = un := z; rw [z', un0] at hb; cases hb)
  have hrowsP : Paired (fun b r => RowAt K H' b r) pas Ps := Paired.mapP hPp fun b r hb => by
    rcases hb with (z | ⟨o, z⟩) | z
    · exact .inl (.inl (hkp z fun y => by rw [y, h1] at z; cases z))
    · exact .inl (.inr ⟨o, hkp z fun y => by rw [y, h1] at z; cases z⟩)
    · exact .inr z
  have hfun : fu ≠ un := fun z => by rw [z] at hfu; rw [hu3] at hfu; cases hfu
  have hhdf : hd ≠ fu := fun z => by rw [← z] at hfu; rw [hd3] at hfu; cases hfu
  have hfu' : H' fu = some (.dK (fk [])) := kk _ _ hfu4 hfun
  have KS : KnS K C H' p pl hd un fu Fs Ps (nots Fs) := ⟨⟨hm, uk, KN, hok, hUk⟩, ⟨pas, kk _ _ hl4 hplu, hrowsP⟩, hhdf⟩
  have G0 := going0 (P := Ps) hrow
  refine ⟨_, rfl, p, dx', fs', rfl, g1, g2.meth "find_fulls" (by decide +kernel), p, pl, hd, un, fu, Fs, Ps, nots Fs, rfl, KS, hfu', hrow, hPr, hP15, Nat.le_trans (nots_len Fs) hFl, G0, fun L Fl H6 k6 KS6 hfu6 A6 G6 hL6 => ?_⟩
  have hp5 : H' p = some (.ins C dx f4) := kk _ _ hp4 (fun z => hpu z)
  have hp6 : H6 p = some (.ins C dx f4) := k6 _ _ hp5 (fun z => z.elim hpu hpf)
  have fu0 : H fu = none := by
    cases qz : H fu with
    | none => rfl
    | some o => have := k3 fu o qz (fun z => hpf z.symm); rw [hfu] at this; cases this
  have hk6 : ∀ {b : Addr} {o : HO}, H b = some o → b ≠ p → H6 b = some o := fun {b o} hb n => k6 _ _ (hkp hb n) (fun z => z.elim (fun y => by rw [y, un0] at hb; cases hb) (fun y => by rw [y, fu0] at hb; cases hb))
  have hpl06 : H6 pl0 = some (.lst (pas.map V.ref)) := hk6 hP0 (fun z => by rw [z, h1] at hP0; cases hP0)
  have hml : (pas.map V.ref).length = Ps.length := by rw [List.length_map]; exact hpal
  refine ⟨_, rfl, pl0, _, rfl, .inl (SqL.of hpl06), _, rfl, (by rw [hml]; lia), (by rw [hml]; lia), ?_⟩
  rw [hml, Int.toNat_natCast]
  obtain ⟨⟨hm6, uk6, KN6, hok6, hU6⟩, hrows6, _⟩ := id KS6
  refine comp_keep (List.range Ps.length) (fun n => !emptyB Ps (headF Fs) n) (by rw [← nums_nat]; exact jseq_rng) trivial (by rw [List.length_range]; lia) (fun n hn H7 e7 Q' q' => ?_) (fun n H7 Q' q' => ⟨_, rfl, q'⟩) fun D H7 hD e7 hd7 => ?_
  · have hn' : n < Ps.length := List.mem_range.mp hn
    have hs : Ps[n]? = some Ps[n] := List.getElem?_eq_getElem hn'
    refine ⟨_, rfl, p, dx, f4, rfl, e7 _ _ hp6, KF.meth "is_empty" (by decide +kernel), _, rfl, p, pl, hd, un, fu, Fs, Ps, L, n, _, rfl, KS6.same e7, hs, hPr _ (List.getElem_mem (List.mem_range.mp hn)), fun b H8 e8 hb => ⟨b, rfl, ?_⟩⟩
    have := q' H8 e8
    rw [emptyB_eq hs hb] at this
    exact this
  have KN7 := KN6.same e7
  have hp7 : H7 p = some (.ins C dx f4) := e7 _ _ hp6
  refine ⟨_, rfl, p, C, dx, f4, rfl, hp7, T.cl, T.nE, (by lia), ?_⟩
  have hpD : D ≠ p := fun z => by rw [z, hp6] at hD; cases hD
  have kpp : Kp (· = p) H7 (upd H7 p (.ins C dx (putF "not_empty" (.ref D) f4))) := fun b o hb n => by rw [upd_ne n]; exact hb
  refine q pl hd un fu L Fl D dx _ _ (fun b o hb n => by rw [upd_ne n]; exact e7 _ _ (hk6 hb n)) ⟨⟨hm6, uk6, ⟨⟨dx, _, upd_same, KF.more (.ref D) (by lia)⟩, by rw [upd_ne (Ne.symm hphd)]; exact KN7.hds, by rw [upd_ne (Ne.symm hpu)]; exact KN7.uns⟩, hok6, hU6⟩, rowsAt_kp (hrows6.same e7) kpp (fun b hb => ⟨.ins C dx f4, by rw [show b = p from hb]; exact hp7, .inr (.inr (.inr ⟨_, _, _, rfl⟩))⟩), hhdf⟩ (by rw [upd_ne (Ne.symm hpf)]; exact e7 _ _ hfu6) A6 G6 upd_same (by rw [lookup_putF, if_pos rfl]) (KF.more (.ref D) (by lia)) (by rw [upd_ne hpD]; exact hd7) hL6
end
end K22
namespace K22
open PySem PySem.Spec L2 Mir Kn
noncomputable abbrev sMixed : Stmt := top 8
noncomputable def Ok (x : Str) : Prop := (PyData.str x).canLay0 = true
theorem Ok.app {x y : Str} (hx : Ok x) (hy : Ok y) : Ok (x ++ y) := by
  unfold Ok at *
  simp only [PyData.canLay0] at *
  unfold PyData.strOk at *
  rw [Str.cps_append, Array.all_append, hx, hy]; rfl
theorem eqOk_rowsS {rs : List (List Str)} (h : ∀ r ∈ rs, ∀ y ∈ r, Ok y) : EqOk (.list (rs.map dRow)) := by
  have h1 : ∀ r : List Str, (∀ y ∈ r, Ok y) → PyData.canLayAll0 (dStrs r) = true := fun r h => by
    unfold dStrs
    induction r with
    | nil => simp only [List.map_nil, PyData.canLayAll0]
    | cons x l ih =>
      simp only [List.map_cons, PyData.canLayAll0, Bool.and_eq_true]
      exact ⟨h x (List.mem_cons_self ..), ih fun y hy => h y (List.mem_cons_of_mem _ hy)⟩
  have h2 : ∀ r : List Str, PyData.depthAll (dStrs r) ≤ 0 := fun r => by
    unfold dStrs
    induction r with
    | nil => simp only [List.map_nil, PyData.depthAll]; exact Nat.le_refl _
    | cons x l ih => simp only [List.map_cons, PyData.depthAll, PyData.depth]; exact Nat.max_le.mpr ⟨Nat.le_refl _, ih⟩
  have h3 : ∀ rs : List (List Str), (∀ r ∈ rs, ∀ y ∈ r, Ok y) → PyData.canLayAll0 (rs.map dRow) = true := fun rs h => by
    induction rs with
    | nil => simp only [List.map_nil, PyData.canLayAll0]
    | cons r l ih =>
      simp only [List.map_cons, PyData.canLayAll0, Bool.and_eq_true, dRow, PyData.canLay0]
      exact ⟨h1 r (h r (List.mem_cons_self ..)), ih fun r' hr' => h r' (List.mem_cons_of_mem _ hr')⟩
  have h4 : ∀ rs : List (List Str), PyData.depthAll (rs.map dRow) ≤ 1 := fun rs => by
    induction rs with
    | nil => simp only [List.map_nil, PyData.depthAll]; lia
    | cons r l ih =>
      have := h2 r
      simp only [List.map_cons, PyData.depthAll, dRow, PyData.depth]
      lia
  constructor
  · simp only [PyData.canLay0]
    exact h3 rs h
  · have := h4 rs
    simp only [PyData.depth]
    lia
noncomputable def spMixed : Sp := fun vs H Q _ => ∃ (c : Int) (k : Nat), vs = [.int c, .int (k : Int)] ∧ k ≤ 500 ∧ ∀ n : Int, 0 ≤ n → Q (.int n) H
noncomputable def tLeft : TS := fun D σ H => ∃ (c : Int) (k : Nat) (l : Int), σ = [some (.int c), some (.int (k : Int)), some (.int l), none, none] ∧ k ≤ 500 ∧ ∀ l z3, D.nx [some (.int c), some (.int (k : Int)), some (.int l), z3, none] H
noncomputable def tOwn : TS := fun D σ H => ∃ (c l : Int) (z1 z3 : Option V), σ = [some (.int c), z1, some (.int l), z3, none] ∧ (∀ n : Int, 0 ≤ n → D.rt (.int n) H) ∧ D.nx σ H
section
variable {P : Program} {w : World} {K : PySem.W.Frag} {mg : Str → Option Value} {base : Heap} {f : Addr} {fd : FuncData}
theorem scMixed : FnScope ["_law_cell", "_law_k", "_law_left", "_law_j", "_law_number"] ["_law_cell", "_law_k"] (defScope sMixed) := ⟨rfl, rfl, rfl, by decide +kernel, rfl, by decide +kernel, by decide +kernel⟩
theorem ok_mixed (C : Con K mg w) (F : Fun K "_law_mixed" "_law_mixed" sMixed f fd) : FnOk P w K mg base CX0 1 f fd ["_law_cell", "_law_k"] spMixed := by
  refine F.okQ scMixed (fun vs H Q E h => ?_) (fun cdv A outer s0 H vs Q E hr h => ?_)
  · obtain ⟨c, k, rfl, _⟩ := h; rfl
  obtain ⟨c, k, rfl, hk, q⟩ := h
  have nd := scMixed.nd
  refine ⟨_, qb_cons (qs_set (i := 2) nd rfl (Or.inl rfl) (qe_op op_fdiv (qv 0) qe_int))
    (qb_cons (qs_weak (t' := tLeft) (qs_for PassesOwn.never rfl (qi_range1 rfl C.range (qa_bop (qe_op op_add (qe_op op_fdiv (qv 1) qe_int) (qe_op op_mod (qv 1) qe_int)) qa_nil)) (qg_name (i := 3) nd rfl (Or.inl rfl)) (qb_cons (qs_if (QW.qt (qw_or (qt_cmpR op_eq (qv 2) qe_int (nomark _)) (qw_or1 (qt_cmpR op_eq (qv 2) (qe_un un_neg qe_int) (nomark _))))) (qb_one qs_break) qb_nil)
    (qb_one (qs_set (i := 2) nd rfl (Or.inl rfl) (qe_op op_fdivB (qv 2) qe_int))))) (fun D σ H hh => by
      obtain ⟨c, k, l, rfl, hk, go⟩ := hh
      refine ⟨_, rfl, _, _, rfl, rfl, (show CDiv _ 70 from ⟨by decide, by decide⟩), _, rfl, _, _, rfl, rfl, (show (0 : Int) < 70 by decide), _, _, rfl, rfl, _, rfl, ?_, ?_, ?_⟩
      · lia
      · lia
      refine for_range (lo := 0) (n := ((k : Int) / 70 + (k : Int) % 70).toNat) (fun _ σ H' => ∃ (l : Int) (z3 : Option V), H' = H ∧ σ = [some (.int c), some (.int (k : Int)), some (.int l), z3, none]) ⟨_, none, rfl, rfl⟩ ?_ ?_
      · rintro i σ H' hi ⟨l, z3, rfl, rfl⟩
        refine ⟨_, rfl, rfl, _, rfl, iteB (fun _ => go _ _) (fun _ => ?_)⟩
        refine ⟨_, rfl, _, rfl, rfl, _, rfl, iteB (fun _ => go _ _) (fun _ => ?_)⟩
        exact ⟨_, rfl, _, _, rfl, rfl, (show CDivB _ 2147483587 from ⟨by decide, by decide⟩), _, _, rfl, rfl⟩
      · rintro σ H' ⟨l, z3, rfl, rfl⟩
        exact go _ _))
    (qb_cons (qs_weak (t' := tOwn) (qs_if (QW.qt (qw_and (qt_cmpR op_eq (qe_op op_mod (qv 0) qe_int) qe_int (nomark _)) (qw_and (qt_cmpR op_ne (qv 2) qe_int (nomark _)) (qw_and1 (qt_cmpR op_ne (qv 2) (qe_un un_neg qe_int) (nomark _)))))) (qb_one (qs_ret (qe_op op_mod (qv 2) qe_int))) qb_nil) (fun D σ H hh => by
      obtain ⟨c, l, z1, z3, rfl, go, nx⟩ := hh
      refine ⟨_, rfl, _, _, rfl, rfl, (show (0 : Int) < 2 by decide), rfl, _, rfl, iteB (fun _ => ?_) (fun _ => nx)⟩
      refine ⟨_, rfl, rfl, _, rfl, iteB (fun _ => ?_) (fun _ => nx)⟩
      refine ⟨_, rfl, _, rfl, rfl, _, rfl, iteB (fun _ => ?_) (fun _ => nx)⟩
      exact ⟨_, rfl, _, _, rfl, rfl, (show (0 : Int) < 2147483587 by decide), go _ (Int.emod_nonneg _ (by decide))⟩))
    (qb_cons (qs_set (i := 4) nd rfl (Or.inl rfl) (qe_op op_mod (qe_op op_add (qe_op op_add (qe_op op_mul (qe_op op_mod (qv 0) qe_int) qe_int) (qe_op op_mul (qe_op op_mul (qv 1) (qv 1)) qe_int)) qe_int) qe_int))
    (qb_cons (qs_set (i := 4) nd rfl (Or.inl rfl) (qe_op op_mod (qe_op op_mul (qv 4) (qv 4)) qe_int))
    (qb_one (qs_ret (qe_op op_mod (qe_op op_mul (qv 4) (qe_op op_add (qv 4) qe_int)) qe_int))))))), ?_⟩
  refine ⟨_, rfl, _, _, rfl, rfl, (show CDiv _ 2 from ⟨by decide, by decide⟩), ?_⟩
  refine ⟨c, k, _, rfl, hk, fun l z3 => ?_⟩
  refine ⟨c, l, _, _, rfl, q, ?_⟩
  have b1 := Int.emod_nonneg c (show (2147483647 : Int) ≠ 0 by decide)
  have b2 := Int.emod_lt_of_pos c (show (0 : Int) < 2147483647 by decide)
  refine ⟨_, rfl, _, _, rfl, rfl, (show (0 : Int) < 2147483647 by decide), _, _, rfl, rfl, .inl ⟨by lia, by lia⟩, _, rfl, _, rfl, _, _, rfl, rfl, .inl ⟨by lia, by lia⟩, _, _, rfl, rfl, .inr ⟨by decide, by decide⟩, _, _, rfl, rfl, _, _, rfl, rfl, _, _, rfl, rfl, (show (0 : Int) < 2147483629 by decide), ?_⟩
  generalize (c % 2147483647 * 48271 + (k : Int) * (k : Int) * 69621 + 7919) = y
  have b3 := Int.emod_nonneg y (show (2147483629 : Int) ≠ 0 by decide)
  have b4 := Int.emod_lt_of_pos y (show (0 : Int) < 2147483629 by decide)
  refine ⟨_, rfl, _, rfl, _, _, rfl, rfl, .inl ⟨by lia, by lia⟩, _, _, rfl, rfl, (show (0 : Int) < 2147483587 by decide), ?_⟩
  generalize (y % 2147483629) * (y % 2147483629) = y2
  have b5 := Int.emod_nonneg y2 (show (2147483587 : Int) ≠ 0 by decide)
  have b6 := Int.emod_lt_of_pos y2 (show (0 : Int) < 2147483587 by decide)
  refine ⟨_, rfl, _, rfl, _, _, rfl, rfl, _, _, rfl, rfl, .inl ⟨by lia, by lia⟩, _, _, rfl, rfl, (show (0 : Int) < 2147483563 by decide), ?_⟩
  exact q _ (Int.emod_nonneg _ (by decide))
end
end K22
namespace L2
open PySem PySem.Spec
theorem for_str {z : Str} {g : TG} {tb : TS} {D : Ends} {σ : St} {H : Hp} (Pv : Nat → St → Hp → Prop) (h0 : Pv 0 σ H)
    (hs : ∀ i c σ H, i < z.cps.size → c ∈ z.cps.toList → Pv i σ H → g (.str ⟨#[c]⟩) σ H fun σ2 H2 => tb { D with nx := Pv (i + 1), ct := Pv (i + 1), bk := D.nx } σ2 H2) (hd : ∀ σ H, Pv z.cps.size σ H → D.nx σ H) :
    ∃ W : Nat → Nat → St → Hp → Prop, (∃ m, W 0 m σ H) ∧ ∀ i m σ H, W i m σ H →
      ((Its z).stop i H ∧ D.nx σ H) ∨ ((Its z).go i H ∧ ∃ N : St → Hp → Prop, (∀ σ' H', N σ' H' → ∃ m', m' < m ∧ W (i + 1) m' σ' H') ∧ ∀ x H', (Its z).yld i H x H' → g x σ H' fun σ2 H2 => tb { D with nx := N, ct := N, bk := D.nx } σ2 H2) := by
  refine ⟨fun i m σ H => m = z.cps.size - i ∧ i ≤ z.cps.size ∧ Pv i σ H, ⟨z.cps.size, by simp, Nat.zero_le _, h0⟩, ?_⟩
  rintro i m σ H ⟨rfl, hi, p⟩
  by_cases hlt : i < z.cps.size
  · refine .inr ⟨hlt, Pv (i + 1), fun σ' H' p' => ⟨z.cps.size - (i + 1), by lia, rfl, hlt, p'⟩, fun x H' y => ?_⟩
    obtain ⟨e, c, hc, y⟩ := y
    subst e y
    have hm : c ∈ z.cps := Array.mem_of_getElem? hc
    exact hs i c σ _ hlt (Array.mem_toList_iff.mpr hm) p
  · have e : i = z.cps.size := by lia
    subst e
    exact .inl ⟨Nat.le_refl _, hd σ H p⟩
end L2
namespace K22
open PySem PySem.Spec L2 Mir Kn
noncomputable abbrev sFree : Stmt := top 9
noncomputable abbrev sNames : Stmt := top 10
structure Nm (k : Nat) (x : Str) : Prop where
  len : x.length ≤ k
  ok : Ok x
theorem Nm.mono {k k' : Nat} {x : Str} (h : Nm k x) (hk : k ≤ k') : Nm k' x := ⟨Nat.le_trans h.len hk, h.ok⟩
theorem ok_iff {x : Str} : Ok x ↔ ∀ c ∈ x.cps.toList, c < 0x110000 := by
  unfold Ok
  simp only [PyData.canLay0]
  unfold PyData.strOk
  rw [← Array.all_toList, List.all_eq_true]
  simp only [decide_eq_true_eq]
theorem nm_one {z : Str} (h : Ok z) {c : Nat} (hc : c ∈ z.cps.toList) : Nm 1 ⟨#[c]⟩ := ⟨Nat.le_refl _, ok_iff.mpr fun d hd => by
  simp only [List.mem_cons, List.not_mem_nil, or_false] at hd
  subst hd
  exact ok_iff.mp h _ hc⟩
theorem Nm.app {j k : Nat} {x y : Str} (hx : Nm j x) (hy : Nm k y) : Nm (j + k) (x ++ y) := ⟨by
  have h1 := hx.len; have h2 := hy.len
  have : (x ++ y).length = x.length + y.length := Str.length_append x y
  lia, hx.ok.app hy.ok⟩
theorem Nm.cut {k : Nat} {x : Str} (hx : Nm k x) (lo hi : Option Int) : Nm k (cutS x lo hi) := by
  constructor
  · have := hx.len
    have e : (cutS x lo hi).length ≤ x.length := by
      show ((x.cps.toList.drop (HT.sIx x.length 0 lo)).take _).toArray.size ≤ x.cps.size
      rw [List.size_toArray, List.length_take, List.length_drop, Array.length_toList]
      lia
    lia
  · refine ok_iff.mpr fun c hc => ok_iff.mp hx.ok c ?_
    have hc' : c ∈ (x.cps.toList.drop (HT.sIx x.length 0 lo)).take (HT.sIx x.length x.length hi - HT.sIx x.length 0 lo) := hc
    exact List.mem_of_mem_drop (List.mem_of_mem_take hc')
theorem at_in {α : Type} {xs : List α} {i : Int} (h0 : 0 ≤ i) (h1 : i < xs.length) : ∃ v, atI xs i = some v ∧ v ∈ xs := by
  obtain ⟨j, rfl⟩ : ∃ j : Nat, i = (j : Int) := ⟨i.toNat, by lia⟩
  have hj : j < xs.length := by lia
  exact ⟨xs[j], atI_nat (by rw [List.getElem?_eq_getElem hj]), List.getElem_mem hj⟩
theorem le_line {n : Nat} (h : n ≤ 1000) : n ≤ sizeLine := Nat.le_trans h (by decide)
theorem lt_line {n : Nat} (h : n ≤ 1000) : n < sizeLine := Nat.lt_of_le_of_lt h (by decide)
noncomputable def spNames (K : PySem.W.Frag) : Sp := fun vs H Q _ => ∃ (c : Int) (n : Nat), vs = [.int c, .int (n : Int)] ∧ n ≤ 10 ∧ ∀ l xs H', Same H H' → H' l = some (.lst ((xs : List Str).map V.str)) → xs.length = n → (∀ x ∈ xs, Nm 40 x) → Q (.ref l) H'
noncomputable def signsT : Str := "abcdefghijklmnopqrstuvwxyz0123456789"
noncomputable def wordsT : List Str := ["nil", "any", "is", "not", "cell", "stretch", "tree", "nothing", "then", "with"]
theorem ok_signs : Ok signsT := show (PyData.str signsT).canLay0 = true by decide +kernel
theorem nm_words : ∀ x ∈ wordsT, Nm 40 x := fun x hx => by
  have h1 : wordsT.all (fun x => decide (x.length ≤ 40) && (PyData.str x).canLay0) = true := by decide +kernel
  have h2 := List.all_eq_true.mp h1 x hx
  rw [Bool.and_eq_true] at h2
  exact ⟨of_decide_eq_true h2.1, h2.2⟩
section
variable {P : Program} {w : World} {K : PySem.W.Frag} {mg : Str → Option Value} {base : Heap} {f : Addr} {fd : FuncData}
theorem scFree : FnScope ["_law_cell", "_law_many", "_law_signs", "_law_names_here", "_law_k", "_law_name", "_law_left", "_law_j", "_law_sign"] ["_law_cell", "_law_many"] (defScope sFree) := ⟨rfl, rfl, rfl, by decide +kernel, rfl, by decide +kernel, by decide +kernel⟩
theorem ok_free (C : Con K mg w) (F : Fun K "_law_free_names" "_law_free_names" sFree f fd) : FnOk P w K mg base CX0 1 f fd ["_law_cell", "_law_many"] (spNames K) := by
  refine F.okQ scFree (fun vs H Q E h => ?_) (fun cdv A outer s0 H vs Q E hr h => ?_)
  · obtain ⟨c, k, rfl, _⟩ := h; rfl
  obtain ⟨c, n, rfl, hn, q⟩ := h
  have nd := scFree.nd
  refine ⟨_, qb_cons (qs_set (i := 2) nd rfl (Or.inl rfl) qe_str)
    (qb_cons (qs_set (i := 3) nd rfl (Or.inl rfl) (qe_lst (qa_str (qa_str (qa_str (qa_str (qa_str (qa_str (qa_str (qa_str (qa_str (qa_str qa_nil))))))))))))
    (qb_cons (qs_for PassesOwn.never rfl (qi_range1 rfl C.range (qa_nm (qv 1) qa_nil)) (qg_name (i := 4) nd rfl (Or.inl rfl)) (qb_cons (qs_set (i := 5) nd rfl (Or.inl rfl) (qe_ix ix_str (qv 2) (qe_op op_mod (qe_op op_fdiv (qv 0) qe_int) qe_int) (fun _ _ => rfl)))
    (qb_cons (qs_set (i := 6) nd rfl (Or.inl rfl) (qe_op op_fdiv (qv 0) qe_int))
    (qb_cons (qs_for PassesOwn.never rfl (qi_range1 rfl C.range (qa_bop (qe_op op_mod (qv 0) qe_int) qa_nil)) (qg_name (i := 7) nd rfl (Or.inl rfl)) (qb_cons (qs_set (i := 5) nd rfl (Or.inl rfl) (qe_op op_add_str (qv 5) (qe_ix ix_str (qv 2) (qe_op op_mod (qv 6) qe_int) (fun _ _ => rfl))))
    (qb_one (qs_set (i := 6) nd rfl (Or.inl rfl) (qe_op op_fdiv (qv 6) qe_int)))))
    (qb_cons (qs_for PassesOwn.never rfl (qi_str (qe_slice sl_str (qv 2) qo_none (qo_some qe_int))) (qg_name (i := 8) nd rfl (Or.inl rfl)) (qb_one (qs_if (qt_cmpR op_in_seq (qv 5) (qv 3) (by with_unfolding_all rfl)) (qb_one (qs_set (i := 5) nd rfl (Or.inl rfl) (qe_op op_add_str (qe_slice sl_str (qv 5) qo_none (qo_some (qe_un un_neg qe_int))) (qv 8)))) qb_nil)))
    (qb_cons (qs_expr (qe_bmK (K := K) rfl PySem.F.plainAttrs_list PySem.F.slot_list_append PySem.F.type_list_append mt_append (qv 3) (qa_nm (qv 5) qa_nil)))
    (qb_one (qs_set (i := 0) nd rfl (Or.inl rfl) (qe_op op_fdivB (qv 0) (qe_op op_mul qe_int (qe_op op_pow qe_int qe_int)))))))))))
    (qb_one (qs_ret (qe_slice sl_list (qv 3) (qo_some qe_int) qo_none))))), ?_⟩
  refine ⟨(by decide), fun l1 hl1 => ?_⟩
  have e0 := same_new hl1 (.lst (wordsT.map V.str))
  have hL0 : (upd H l1 (.lst (wordsT.map V.str))) l1 = some (.lst (wordsT.map V.str)) := upd_same
  replace e0 : Same H (upd H l1 (.lst (wordsT.map V.str))) := e0
  show tSeq _ _ _ _ (upd H l1 (.lst (wordsT.map V.str)))
  generalize upd H l1 (.lst (wordsT.map V.str)) = H1 at e0 hL0 ⊢
  refine ⟨_, rfl, _, rfl, by lia, (by lia), ?_⟩
  refine for_range (lo := 0) (n := (n : Int).toNat) (fun i σ H2 => ∃ (c : Int) (ns : List Str) (z4 z5 z6 z7 z8 : Option V), σ = [some (.int c), some (.int (n : Int)), some (.str signsT), some (.ref l1), z4, z5, z6, z7, z8] ∧ Same H H2 ∧ H2 l1 = some (.lst (ns.map V.str)) ∧ ns.length = 10 + i ∧ ∀ x ∈ ns, Nm 40 x) ⟨c, wordsT, none, none, none, none, none, rfl, e0, hL0, rfl, nm_words⟩ ?_ ?_
  · rintro i σ H2 hi ⟨c, ns, z4, z5, z6, z7, z8, rfl, e2, hL2, hl2, hn2⟩
    have hi10 : i < 10 := by lia
    have hsl : signsT.length ≤ sizeLine := by decide +kernel
    have hs36 : signsT.cps.toList.length = 36 := by decide +kernel
    have m26 := Int.emod_nonneg (c / 8) (show (26 : Int) ≠ 0 by decide)
    have m26' := Int.emod_lt_of_pos (c / 8) (show (0 : Int) < 26 by decide)
    obtain ⟨c1, hc1, hm1⟩ := at_in (xs := signsT.cps.toList) (i := c / 8 % 26) m26 (by rw [hs36]; lia)
    refine ⟨_, rfl, _, rfl, _, _, rfl, rfl, (show CDiv _ 8 from ⟨by decide, by decide⟩), _, _, rfl, rfl, (show (0 : Int) < 26 by decide), signsT, _, c1, rfl, rfl, hsl, hc1, ?_⟩
    refine ⟨_, rfl, _, _, rfl, rfl, (show CDiv _ 208 from ⟨by decide, by decide⟩), ?_⟩
    have m8 := Int.emod_nonneg c (show (8 : Int) ≠ 0 by decide)
    have m8' := Int.emod_lt_of_pos c (show (0 : Int) < 8 by decide)
    refine ⟨_, rfl, _, _, rfl, rfl, (show (0 : Int) < 8 by decide), _, rfl, by lia, by lia, ?_⟩
    refine for_range (lo := 0) (n := (c % 8).toNat) (fun j σ H3 => H3 = H2 ∧ ∃ (nm : Str) (l : Int) (z7 : Option V), σ = [some (.int c), some (.int (n : Int)), some (.str signsT), some (.ref l1), some (.int (0 + (i : Int))), some (.str nm), some (.int l), z7, z8] ∧ Nm (1 + j) nm) ⟨rfl, _, _, _, rfl, nm_one ok_signs hm1⟩ ?_ ?_
    · rintro j σ H3 hj ⟨rfl, nm, l, z7, rfl, hnm⟩
      obtain ⟨c2, hc2, hm2⟩ := at_mod (xs := signsT.cps.toList) (m := 36) (i := l) (by rw [hs36]; rfl) (by decide)
      have hlen := hnm.len
      refine ⟨_, rfl, _, rfl, _, rfl, _, _, rfl, rfl, (show (0 : Int) < 36 by decide), signsT, _, c2, rfl, rfl, hsl, hc2, nm, _, rfl, rfl, le_line (by show nm.length + 1 ≤ 1000; lia), ?_⟩
      exact ⟨_, rfl, _, _, rfl, rfl, (show CDiv _ 36 from ⟨by decide, by decide⟩), rfl, _, _, _, rfl, hnm.app (nm_one ok_signs hm2)⟩
    rintro σ H3 ⟨rfl, nm, l, z7, rfl, hnm⟩
    have hnm8 : Nm 8 nm := hnm.mono (by lia)
    clear hnm
    have hcm : ∀ d ∈ (cutS signsT none (some 26)).cps.toList, d ∈ signsT.cps.toList := fun d hd => by
      have hd' : d ∈ (signsT.cps.toList.drop (HT.sIx signsT.length 0 none)).take (HT.sIx signsT.length signsT.length (some 26) - HT.sIx signsT.length 0 none) := hd
      exact List.mem_of_mem_drop (List.mem_of_mem_take hd')
    have hcz : (cutS signsT none (some 26)).cps.size = 26 := by decide +kernel
    refine ⟨_, rfl, _, rfl, signsT, rfl, hsl, _, rfl, ?_⟩
    refine for_str (fun j σ H4 => H4 = H3 ∧ ∃ (nm : Str) (z8 : Option V), σ = [some (.int c), some (.int (n : Int)), some (.str signsT), some (.ref l1), some (.int (0 + (i : Int))), some (.str nm), some (.int l), z7, z8] ∧ Nm (8 + j) nm) ⟨rfl, _, _, rfl, hnm8⟩ ?_ ?_
    · rintro j d σ H4 hj hd ⟨rfl, nm, z8, rfl, hnm⟩
      have hlen := hnm.len
      rw [hcz] at hj
      refine ⟨_, rfl, _, rfl, l1, _, rfl, .inl (SqL.of hL2), rfl, (by rw [List.all_map]; exact List.all_eq_true.mpr fun _ _ => rfl), _, rfl, iteB (fun _ => ?_) (fun _ => ⟨rfl, _, _, rfl, hnm.mono (by lia)⟩)⟩
      have hc := hnm.cut none (some (-1))
      have hcl := hc.len
      exact ⟨_, rfl, _, rfl, _, rfl, nm, rfl, le_line (by lia), _, rfl, _, _, rfl, rfl, le_line (by show _ + 1 ≤ 1000; lia), rfl, _, _, rfl, hc.app (nm_one ok_signs (hcm d hd))⟩
    rintro σ H4 ⟨rfl, nm, z8, rfl, hnm⟩
    rw [hcz] at hnm
    refine ⟨_, rfl, (.inl ⟨rfl, _, SqL.of hL2⟩), _, rfl, l1, ns.map V.str, _, rfl, rfl, hL2, lt_line (by rw [List.length_map]; lia), ?_⟩
    refine ⟨_, rfl, _, _, rfl, rfl, (show CPow 36 7 from ⟨by decide, by decide, by decide⟩), _, _, rfl, rfl, .inl ⟨by decide, by decide⟩, _, _, rfl, rfl, (show CDivB _ _ from ⟨by decide +kernel, by decide +kernel⟩), ?_⟩
    refine ⟨_, ns ++ [nm], _, _, _, _, _, rfl, ?_, ?_, ?_, ?_⟩
    · exact fun b o hb => by rw [upd_ne (ne_of_none hb hl1)]; exact e2 b o hb
    · rw [upd_same, List.map_append]; rfl
    · rw [List.length_append, List.length_singleton]; lia
    · intro x hx
      rcases List.mem_append.mp hx with hx | hx
      · exact hn2 x hx
      · rw [List.mem_singleton.mp hx]; exact hnm.mono (by lia)
  rintro σ H2 ⟨c, ns, z4, z5, z6, z7, z8, rfl, e2, hL2, hl2, hn2⟩
  refine ⟨_, rfl, _, rfl, l1, _, rfl, SqL.of hL2, fun p hp => ?_⟩
  have hcv : cutV (ns.map V.str) (some 10) none = (ns.drop 10).map V.str := by
    unfold cutV
    rw [List.length_map, show HT.sIx ns.length 0 (some 10) = 10 by show min 10 ns.length = 10; lia, show HT.sIx ns.length ns.length none = ns.length from rfl, ← List.map_drop, List.take_of_length_le (by rw [List.length_map, List.length_drop]; lia)]
  rw [hcv]
  refine q p (ns.drop 10) _ (e2.trans (same_new hp _)) upd_same (by rw [List.length_drop]; lia) fun x hx => hn2 x (List.mem_of_mem_drop hx)
theorem call_int_bl {X : Cx} : CallR X (.type "int") (fun xs H Q => ∃ b : Bool, xs = [.bl b] ∧ Q (.int (if b = true then 1 else 0)) H) := by
  intro pins s σ H xs us Q I r h
  obtain ⟨b, rfl, q⟩ := h
  obtain ⟨u, rfl, ru⟩ := r.one
  cases ru
  exact PySem.call_int_bool ⟨.int _, H, I.tok _, ⟨_, rfl⟩, q⟩
theorem scNames : FnScope ["_law_cell", "_law_many", "_law_letters", "_law_at", "_law_names_here", "_law_k", "_law_name", "_law_j", "_law_step"] ["_law_cell", "_law_many"] (defScope sNames) := ⟨rfl, rfl, rfl, by decide +kernel, rfl, by decide +kernel, by decide +kernel⟩
noncomputable def lettT : Str := "abcdefghijkmnopqruvwxz"
noncomputable def figT : Str := "0123456789"
theorem ok_lett : Ok lettT := show (PyData.str lettT).canLay0 = true by decide +kernel
theorem ok_fig : Ok figT := show (PyData.str figT).canLay0 = true by decide +kernel
theorem ok_names {gF : Addr} {dF : FuncData} (C : Con K mg w) (F : Fun K "_law_names" "_law_names" sNames f fd) (GF : FnOk P w K mg base CX0 1 gF dF ["_law_cell", "_law_many"] (spNames K)) (cF : Cal K mg "_law_free_names" gF dF ["_law_cell", "_law_many"]) : FnOk P w K mg base CX0 2 f fd ["_law_cell", "_law_many"] (spNames K) := by
  refine F.okQ scNames (fun vs H Q E h => ?_) (fun cdv A outer s0 H vs Q E hr h => ?_)
  · obtain ⟨c, k, rfl, _⟩ := h; rfl
  obtain ⟨c, n, rfl, hn, q⟩ := h
  have nd := scNames.nd
  refine ⟨_, qb_cons (qs_if (qt_cmpR op_eq (qe_op op_mod (qv 0) qe_int) qe_int (nomark _)) (qb_one (qs_ret (qe_call GF hr rfl cF.name cF.keep cF.bind .nil pass0 (qa_bop (qe_op op_fdiv (qv 0) qe_int) (qa_nm (qv 1) qa_nil))))) qb_nil)
    (qb_cons (qs_set (i := 0) nd rfl (Or.inl rfl) (qe_op op_fdiv (qv 0) qe_int))
    (qb_cons (qs_set (i := 2) nd rfl (Or.inl rfl) qe_str)
    (qb_cons (qs_set (i := 3) nd rfl (Or.inl rfl) (qe_op op_mod (qe_op op_fdiv (qv 0) qe_int) (qe_op op_add qe_int (qe_op op_mod (qv 0) qe_int))))
    (qb_cons (qs_set (i := 4) nd rfl (Or.inl rfl) (qe_lst qa_nil))
    (qb_cons (qs_for PassesOwn.never rfl (qi_range1 rfl C.range (qa_nm (qv 1) qa_nil)) (qg_name (i := 5) nd rfl (Or.inl rfl)) (qb_cons (qs_set (i := 6) nd rfl (Or.inl rfl) qe_str)
    (qb_cons (qs_for PassesOwn.never rfl (qi_range1 rfl C.range (qa_bop (qe_op op_add qe_int (qe_op op_mod (qv 0) qe_int)) qa_nil)) (qg_name (i := 7) nd rfl (Or.inl rfl)) (qb_cons (qs_set (i := 8) nd rfl (Or.inl rfl) (qe_op op_add (qe_op op_mul (qv 7) (qe_op op_mod (qe_op op_fdiv (qv 0) qe_int) qe_int)) (qe_op op_mul (qv 5) (qe_callTy call_int_bl rfl C.int PyProof.Rows.boot_int (qa_cons (qe_cmpR op_eq (qv 7) (qv 3) (nomark _)) qa_nil)))))
    (qb_one (qs_if (QW.qt (qw_and (qt_cmpR op_gt (qv 7) qe_int (nomark _)) (qw_and1 (qt_cmpR op_eq (qe_op op_mod (qe_op op_add (qe_op op_fdiv (qv 0) qe_int) (qv 7)) qe_int) qe_int (nomark _))))) (qb_one (qs_set (i := 6) nd rfl (Or.inl rfl) (qe_op op_add_str (qv 6) (qe_ix ix_str qe_str (qe_op op_mod (qe_op op_add (qe_op op_fdiv (qv 0) qe_int) (qv 8)) qe_int) (fun _ _ => rfl))))) (qb_one (qs_set (i := 6) nd rfl (Or.inl rfl) (qe_op op_add_str (qv 6) (qe_ix ix_str (qv 2) (qe_op op_mod (qe_op op_add (qe_op op_fdiv (qv 0) qe_int) (qv 8)) qe_int) (fun _ _ => rfl)))))))))
    (qb_one (qs_expr (qe_bmK (K := K) rfl PySem.F.plainAttrs_list PySem.F.slot_list_append PySem.F.type_list_append mt_append (qv 4) (qa_nm (qv 6) qa_nil)))))))
    (qb_one (qs_ret (qv 4)))))))), ?_⟩
  refine ⟨_, rfl, _, _, rfl, rfl, (show (0 : Int) < 2 by decide), rfl, _, rfl, iteB (fun _ => ?_) (fun _ => ?_)⟩
  · exact ⟨_, rfl, _, _, rfl, rfl, (show CDiv _ 2 from ⟨by decide, by decide⟩), _, rfl, c / 2, n, rfl, hn, q⟩
  refine ⟨_, rfl, _, _, rfl, rfl, (show CDiv _ 2 from ⟨by decide, by decide⟩), ?_⟩
  have m8 := Int.emod_nonneg (c / 2) (show (8 : Int) ≠ 0 by decide)
  refine ⟨_, rfl, _, _, rfl, rfl, (show CDiv _ 8 from ⟨by decide, by decide⟩), _, rfl, _, _, rfl, rfl, (show (0 : Int) < 8 by decide), _, _, rfl, rfl, _, _, rfl, rfl, (show (0 : Int) < 1 + c / 2 % 8 by lia), ?_⟩
  refine ⟨(by decide), fun l1 hl1 => ?_⟩
  refine ⟨_, rfl, _, rfl, by lia, (by lia), ?_⟩
  refine for_range (lo := 0) (n := (n : Int).toNat) (fun i σ H2 => ∃ (c at0 : Int) (ns : List Str) (z6 z7 z8 z9 : Option V), σ = [some (.int c), some (.int (n : Int)), some (.str lettT), some (.int at0), some (.ref l1), z6, z7, z8, z9] ∧ Same H H2 ∧ H2 l1 = some (.lst (ns.map V.str)) ∧ ns.length = i ∧ ∀ x ∈ ns, Nm 40 x) ⟨_, _, [], none, none, none, none, rfl, same_new hl1 _, upd_same, rfl, fun x hx => by cases hx⟩ ?_ ?_
  · rintro i σ H2 hi ⟨c, at0, ns, z6, z7, z8, z9, rfl, e2, hL2, hl2, hn2⟩
    have hi10 : i < 10 := by lia
    have m8 := Int.emod_nonneg c (show (8 : Int) ≠ 0 by decide)
    have m8' := Int.emod_lt_of_pos c (show (0 : Int) < 8 by decide)
    have hsl : lettT.length ≤ sizeLine := by decide +kernel
    have hs22 : lettT.cps.toList.length = 22 := by decide +kernel
    have hfl : figT.length ≤ sizeLine := by decide +kernel
    have hf10 : figT.cps.toList.length = 10 := by decide +kernel
    refine ⟨_, rfl, _, _, rfl, rfl, (show (0 : Int) < 8 by decide), _, _, rfl, rfl, _, rfl, by lia, by lia, ?_⟩
    refine for_range (lo := 0) (n := (1 + c % 8).toNat) (fun j σ H3 => H3 = H2 ∧ ∃ (nm : Str) (z8 z9 : Option V), σ = [some (.int c), some (.int (n : Int)), some (.str lettT), some (.int at0), some (.ref l1), some (.int (0 + (i : Int))), some (.str nm), z8, z9] ∧ Nm j nm) ⟨rfl, _, _, _, rfl, ⟨Nat.le_refl _, show (PyData.str ("" : Str)).canLay0 = true by decide +kernel⟩⟩ ?_ ?_
    · rintro j σ H3 hj ⟨rfl, nm, z8, z9, rfl, hnm⟩
      have hlen := hnm.len
      have hj8 : j < 8 := by lia
      refine ⟨_, rfl, _, rfl, _, _, rfl, rfl, (show CDiv _ 64 from ⟨by decide, by decide⟩), _, _, rfl, rfl, (show (0 : Int) < 5 by decide), _, _, rfl, rfl, .inl ⟨by lia, by lia⟩, ?_⟩
      refine ⟨_, rfl, _, rfl, _, rfl, rfl, _, rfl, _, _, rfl, rfl, .inl ⟨by lia, by lia⟩, _, _, rfl, rfl, ?_⟩
      generalize (if decide (V.int (0 + (j : Int)) = V.int at0) = true then (1 : Int) else 0) = d
      obtain ⟨c1, hc1, hm1⟩ := at_mod (xs := lettT.cps.toList) (m := 22) (i := c / 320 + ((0 + (j : Int)) * (c / 64 % 5) + (0 + (i : Int)) * d)) (by rw [hs22]; rfl) (by decide)
      obtain ⟨c2, hc2, hm2⟩ := at_mod (xs := figT.cps.toList) (m := 10) (i := c / 320 + ((0 + (j : Int)) * (c / 64 % 5) + (0 + (i : Int)) * d)) (by rw [hf10]; rfl) (by decide)
      have go1 : H3 = H3 ∧ ∃ (nm' : Str) (z8 z9 : Option V), [some (.int c), some (.int (n : Int)), some (.str lettT), some (.int at0), some (.ref l1), some (.int (0 + (i : Int))), some (.str (nm ++ ⟨#[c1]⟩)), some (.int (0 + (j : Int))), some (.int ((0 + (j : Int)) * (c / 64 % 5) + (0 + (i : Int)) * d))] = [some (.int c), some (.int (n : Int)), some (.str lettT), some (.int at0), some (.ref l1), some (.int (0 + (i : Int))), some (.str nm'), z8, z9] ∧ Nm (j + 1) nm' := ⟨rfl, _, _, _, rfl, hnm.app (nm_one ok_lett hm1)⟩
      have go2 : H3 = H3 ∧ ∃ (nm' : Str) (z8 z9 : Option V), [some (.int c), some (.int (n : Int)), some (.str lettT), some (.int at0), some (.ref l1), some (.int (0 + (i : Int))), some (.str (nm ++ ⟨#[c2]⟩)), some (.int (0 + (j : Int))), some (.int ((0 + (j : Int)) * (c / 64 % 5) + (0 + (i : Int)) * d))] = [some (.int c), some (.int (n : Int)), some (.str lettT), some (.int at0), some (.ref l1), some (.int (0 + (i : Int))), some (.str nm'), z8, z9] ∧ Nm (j + 1) nm' := ⟨rfl, _, _, _, rfl, hnm.app (nm_one ok_fig hm2)⟩
      refine ⟨_, rfl, _, _, rfl, rfl, _, rfl, iteB (fun _ => ?_) (fun _ => ?_)⟩
      · refine ⟨_, rfl, _, _, rfl, rfl, (show CDiv _ 7040 from ⟨by decide, by decide⟩), _, rfl, _, _, rfl, rfl, _, _, rfl, rfl, (show (0 : Int) < 3 by decide), rfl, _, rfl, iteB (fun _ => ?_) (fun _ => ?_)⟩
        · exact ⟨_, rfl, _, rfl, _, _, rfl, rfl, (show CDiv _ 320 from ⟨by decide, by decide⟩), _, rfl, _, _, rfl, rfl, _, _, rfl, rfl, (show (0 : Int) < 10 by decide), figT, _, c2, rfl, rfl, hfl, hc2, nm, _, rfl, rfl, le_line (by show nm.length + 1 ≤ 1000; lia), go2⟩
        · exact ⟨_, rfl, _, rfl, _, rfl, _, _, rfl, rfl, (show CDiv _ 320 from ⟨by decide, by decide⟩), _, rfl, _, _, rfl, rfl, _, _, rfl, rfl, (show (0 : Int) < 22 by decide), lettT, _, c1, rfl, rfl, hsl, hc1, nm, _, rfl, rfl, le_line (by show nm.length + 1 ≤ 1000; lia), go1⟩
      · exact ⟨_, rfl, _, rfl, _, rfl, _, _, rfl, rfl, (show CDiv _ 320 from ⟨by decide, by decide⟩), _, rfl, _, _, rfl, rfl, _, _, rfl, rfl, (show (0 : Int) < 22 by decide), lettT, _, c1, rfl, rfl, hsl, hc1, nm, _, rfl, rfl, le_line (by show nm.length + 1 ≤ 1000; lia), go1⟩
    rintro σ H3 ⟨rfl, nm, z8, z9, rfl, hnm⟩
    refine ⟨_, rfl, (.inl ⟨rfl, _, SqL.of hL2⟩), _, rfl, l1, ns.map V.str, _, rfl, rfl, hL2, lt_line (by rw [List.length_map]; lia), ?_⟩
    refine ⟨c, at0, ns ++ [nm], _, _, _, _, rfl, ?_, ?_, ?_, ?_⟩
    · exact fun b o hb => by rw [upd_ne (ne_of_none hb hl1)]; exact e2 b o hb
    · rw [upd_same, List.map_append]; rfl
    · rw [List.length_append, List.length_singleton]; lia
    · intro x hx
      rcases List.mem_append.mp hx with hx | hx
      · exact hn2 x hx
      · rw [List.mem_singleton.mp hx]; exact hnm.mono (by lia)
  rintro σ H2 ⟨c, at0, ns, z6, z7, z8, z9, rfl, e2, hL2, hl2, hn2⟩
  exact ⟨_, rfl, q l1 ns _ e2 hL2 (by lia) hn2⟩
end
end K22
namespace L2
open PySem PySem.Spec PyProof.Rows PySem.Builtin
section
variable {prog : Program} {w : World} {d : Addr} {es : Array DictEntry} {ep : Nat} {od : Obj}
theorem kdl_ent (lo : (d == sysModules) = false) (hc : od.ExactDict) (h2 : od.data = .dict es ep) : PySem.W.KdlSrc prog w "dict" d d es.size (fun i v => (es.toList.map (·.key))[i]? = some v) (fun h => h.get? d = some od) where
  type := fun _ hm => ⟨od, hm, hc.1⟩
  there := fun _ hm => ⟨Heap.lt_size hm, Heap.lt_size hm⟩
  keep := fun _ _ hm hk => hk d (.inl rfl) _ hm
  notList := by decide
  notTuple := by decide
  hint := fun _ _ _ _ hm hq => PySem.W.kdl_hint_dict ⟨od, hm, hc.1⟩ hq
  iter := fun A s hh hm => ⟨_, fun i h => h.IsKeyIter s.heap.objs.size d i es.size ep ∧ h.get? d = some od, (fun E Q hq => ent_iter lo hm hc h2 hq), {
    sub := fun b hb => by simp at hb; subst hb; simp
    frame := fun i h h' st k => by
      obtain ⟨⟨o, h1, h3⟩, h4⟩ := st
      exact ⟨⟨o, k _ (by simp) o h1, h3⟩, k d (by simp) _ h4⟩
    item := fun i s' Q E hi st hQ => by
      have hne : d ≠ s.heap.objs.size := Nat.ne_of_lt (Heap.lt_size hm)
      refine ent_look st.1 st.2 h2 hh (fun hn h' st' sb => ?_) (fun hn => absurd hi (by lia))
      refine hQ _ h' s'.toks ?_ ⟨st', (sb.2 d hne).trans st.2⟩ fun b o hb e => (sb.2 b (by simpa using hb)).trans e
      rw [List.getElem?_map, Array.getElem?_toList, Array.getElem?_eq_getElem hn]; rfl
    done := fun s' Q E st hQ => ent_look st.1 st.2 h2 hh (fun hn => absurd hn (Nat.lt_irrefl _)) (fun _ h' eb => hQ h' s'.toks fun b o hb e => eb b o (by simpa using hb) e)
    self := fun i s' Q E st h => wpAny_pyIter_keyiter st.1 h }, ⟨⟨_, Heap.get?_push_size _ rfl, rfl, rfl⟩, Heap.get?_push_of_some _ hm⟩⟩
end
section
variable {X : Cx}
theorem call_list_dictT (hc : X.calm = true) : CallR X (.type "list") (fun xs H Q => ∃ a kvs, xs = [V.ref a] ∧ H a = some (.dT kvs) ∧ ∀ p bs, H p = none → Paired (fun (q : List Key × V) b => H b = some (.tup (q.1.map kV))) kvs bs → Q (.ref p) (upd H p (.lst (bs.map V.ref)))) := by
  intro pins s σ H xs us Q I r h
  obtain ⟨a, kvs, rfl, ha, q⟩ := h
  obtain ⟨u, rfl, ru⟩ := vals1 r
  cases ru
  obtain ⟨z, hd, ys, rel, od, es, ep, h1, hx, h2, h3, h4⟩ := (show ObjOk X.prog X.w H s.heap a (.dT kvs) from I.hok a _ ha)
  have hl : kvs.length = ys.length := rel.length
  have hes : es.size = ys.length := by rw [← Array.length_toList, h3, List.length_map]
  refine PySem.W.kdl_call (kdl_ent hd hx h2) (I.ok.hd hc) h1 (by rw [hes, ← hl]; exact z) fun h' tk acc c hk hD hacc => ?_
  have hbs := paired_bs rel
  have hkey : es.toList.map (·.key) = (ys.map (·.2.1)).map Value.ref := by rw [h3, List.map_map, List.map_map]; rfl
  refine ⟨.ref s.heap.objs.size, _, I.laid (t' := tk) hk (Nat.le_refl _) (show ObjOk X.prog X.w _ h' _ (.lst ((ys.map (·.2.1)).map V.ref)) from ⟨by rw [List.length_map, List.length_map, ← hl]; exact z, acc.toList, c, ?_, by simpa using hD⟩), rfl, q _ _ (I.hok.fresh (Nat.le_refl _)) hbs⟩
  refine vals_nth (by rw [Array.length_toList, List.length_map, List.length_map, ← hes]; exact hacc.1) fun j v hv => ?_
  have e := hacc.2 j v (by rw [← Array.getElem?_toList]; exact hv)
  rw [hkey, List.getElem?_map] at e
  rw [List.getElem?_map]
  cases hj : (ys.map (·.2.1))[j]? with
  | none => rw [hj] at e; cases e
  | some b =>
    rw [hj] at e
    have e' : Value.ref b = v := Option.some.inj e
    exact ⟨.ref b, rfl, e'.symm⟩
end
section
variable {prog : Program} {w : World} {A : Around} {E : Value → Shared → Prop} {s : Shared} {d : Addr} {es : Array DictEntry} {ep : Nat} {od : Obj}
theorem meets_ent_len (hd : (d == sysModules) = false) (h2 : od.data = .dict es ep) :
    MeetsIn prog w (Builtin.«dict.__len__» ⟨[.ref d], []⟩) (fun _ R s => s.heap.get? d = some od ∧ R (.ok (.ret (.int es.size s.toks))) { s with toks := s.toks + 1 }) :=
  .of_wp fun A R s ⟨ho, h⟩ => by
    show wpAny _ _ (dictSize d >>= _) _ _ s
    unfold dictSize
    refine wpAny_bind (wpAny_bind (wpAny_dictEntries ho h2 (wpAny_pure ?_)))
    show wpAny _ _ (Builtin.Dict.pendingCount d >>= _) _ _ s
    refine wpAny_bind (wpAny_pendingCount_other hd ?_)
    refine wpAny_ret_mkInt ?_
    rw [Nat.add_zero]; exact h
theorem len_ent {Q : Value → Shared → Prop} (hd : (d == sysModules) = false) (h1 : s.heap.get? d = some od) (hc : od.ExactDict) (h2 : od.data = .dict es ep) (hfit : (es.size : Int) < 2 ^ 63)
    (h : Q (.int es.size (s.toks + 1)) { s with toks := s.toks + 1 + 1 }) : wpAny (model prog w) A (call (.builtin "len") [.ref d]) Q E s := by
  have ty : s.TypeIs (.ref d) "dict" := ⟨od, h1, hc.1⟩
  refine Calls.call_function_entry kind_len plain_len entry_len (args_len1 _) ?_
  unfold Builtin.«len»
  refine wpAny_bind (m := oneArg "len" _) (wpAny_pure ?_)
  refine wpAny_bind (m := callSpecial? (.ref d) (Str.ofString "__len__")) (wpAny_callSpecial?_slot (name := Str.ofString "__len__") ty PySem.F.slot_dict_len
    (call_meetsIn PySem.F.slot_dict_len ty PySem.F.entry_dict_len (PySem.F.args_dict_len_1 _) (meets_ent_len hd h2) ⟨h1, ?_⟩))
  show wpAny _ _ _ _ _ { s with toks := s.toks + 1 }
  refine wpAny_bind (wpAny_holding (wpAny_pure ?_))
  refine wpAny_bind (wpAny_letGo ?_)
  show wpAny _ _ (if ((es.size : Nat) : Int) < 0 then _ else _) _ _ _
  rw [if_neg (by lia)]
  show wpAny _ _ (if ((es.size : Nat) : Int) ≥ 2 ^ 63 then _ else _) _ _ _
  rw [if_neg (by lia)]
  exact wpAny_bind (wpAny_mkInt (wpAny_pure ⟨_, rfl, h⟩))
end
theorem call_lenT {X : Cx} : CallR X (.builtin "len") (fun xs H Q => ∃ a kvs, xs = [V.ref a] ∧ H a = some (.dT kvs) ∧ Q (.int kvs.length) H) := by
  intro pins s σ H xs us Q I r h
  obtain ⟨a, kvs, rfl, ha, q⟩ := h
  obtain ⟨u, rfl, ru⟩ := vals1 r
  cases ru
  obtain ⟨z, hd, ys, rel, od, es, ep, h1, hx, h2, h3, h4⟩ := (show ObjOk X.prog X.w H s.heap a (.dT kvs) from I.hok a _ ha)
  have hl : kvs.length = ys.length := rel.length
  have hes : es.size = kvs.length := by rw [← Array.length_toList, h3, List.length_map, hl]
  refine len_ent hd h1 hx h2 (by rw [hes]; rw [sizeLine_eq] at z; lia) ?_
  rw [hes]
  exact ⟨.int kvs.length, H, I.tok _, ⟨_, rfl⟩, q⟩
end L2
namespace K22
open PySem PySem.Spec L2 Mir Kn
noncomputable abbrev sDrawn : Stmt := top 11
noncomputable def PoolRow (xs : List Str) (r : List Str) : Prop := ∃ k u v : Str, r = [k, u, v] ∧ (k = "is" ∨ k = "not") ∧ u ∈ xs ∧ v ∈ xs
noncomputable def PoolPart (xs : List Str) (r : List Str) : Prop := (∃ a f s, r = [("cell" : Str), a, f, s] ∧ a ∈ xs ∧ (f ∈ xs ∨ f = "any") ∧ (s ∈ xs ∨ s = "any")) ∨ (∃ a b, r = [("stretch" : Str), a, b] ∧ a ∈ xs ∧ b ∈ xs) ∨ ∃ a, r = [("tree" : Str), a] ∧ a ∈ xs
theorem word_at (xs : List Str) {n : Nat} {i : Int} (hl : xs.length = n) (h0 : 0 < n) : ∃ v : Str, atI (xs.map V.str) (i % (n : Int)) = some (.str v) ∧ v ∈ xs := by
  obtain ⟨v, h1, h2⟩ := at_mod (xs := xs.map V.str) (m := (n : Int)) (i := i) (by rw [List.length_map, hl]) (by lia)
  obtain ⟨x, hx, rfl⟩ := List.mem_map.mp h2
  exact ⟨x, h1, hx⟩
structure LW (K : PySem.W.Frag) (H0 Hc : Hp) (W : List Str → Prop) (fl : Addr) (n : Nat) : Prop where
  no : H0 fl = none
  at_ : ∃ as : List Addr, Hc fl = some (.lst (as.map V.ref)) ∧ as.length ≤ n ∧ ∀ c ∈ as, ∃ r, RowAt K Hc c r ∧ W r
theorem LW.grow {K : PySem.W.Frag} {H0 Hc H2 : Hp} {W : List Str → Prop} {fl : Addr} {n : Nat} (h : LW K H0 Hc W fl n) (e : Same Hc H2) : LW K H0 H2 W fl n := by
  obtain ⟨as, h1, h2, h3⟩ := h.at_
  exact ⟨h.no, as, e _ _ h1, h2, fun c hc => by obtain ⟨r, z1, z2⟩ := h3 c hc; exact ⟨r, e.seqT z1, z2⟩⟩
theorem LW.app {K : PySem.W.Frag} {H0 Hc : Hp} {W : List Str → Prop} {fl : Addr} {n m : Nat} {as : List Addr} {t : Addr} {r : List Str} (h : LW K H0 Hc W fl n) (ha : Hc fl = some (.lst (as.map V.ref))) (hm : as.length + 1 ≤ m) (ht : RowAt K Hc t r) (hr : W r) : LW K H0 (upd Hc fl (.lst (as.map V.ref ++ [.ref t]))) W fl m := by
  obtain ⟨as', h1, h2, h3⟩ := h.at_
  have e : as = as' := by
    have := HO.lst.inj (Option.some.inj (ha.symm.trans h1))
    exact (List.map_inj_right (fun _ _ z => V.ref.inj z)).mp this
  subst e
  refine ⟨h.no, as ++ [t], by rw [upd_same, List.map_append]; rfl, by rw [List.length_append, List.length_singleton]; lia, fun c hc => ?_⟩
  rcases List.mem_append.mp hc with z | z
  · obtain ⟨r, z1, z2⟩ := h3 c z
    exact ⟨r, sq_put ha z1, z2⟩
  · rw [List.mem_singleton.mp z]; exact ⟨r, sq_put ha ht, hr⟩
theorem LW.other {K : PySem.W.Frag} {H0 Hc : Hp} {W : List Str → Prop} {fl gl : Addr} {n : Nat} {us vs : List V} (h : LW K H0 Hc W fl n) (hg : Hc gl = some (.lst us)) (hne : fl ≠ gl) : LW K H0 (upd Hc gl (.lst vs)) W fl n := by
  obtain ⟨as, h1, h2, h3⟩ := h.at_
  exact ⟨h.no, as, by rw [upd_ne hne]; exact h1, h2, fun c hc => by obtain ⟨r, z1, z2⟩ := h3 c hc; exact ⟨r, sq_put hg z1, z2⟩⟩
theorem rows_of {K : PySem.W.Frag} {H : Hp} {W : List Str → Prop} : ∀ {as : List Addr}, (∀ c ∈ as, ∃ r, RowAt K H c r ∧ W r) → ∃ rs, Paired (fun b r => RowAt K H b r) as rs ∧ ∀ r ∈ rs, W r
  | [], _ => ⟨[], .nil, fun r hr => by simp at hr⟩
  | c :: as, h => by
    obtain ⟨r, h1, h2⟩ := h c (List.mem_cons_self ..)
    obtain ⟨rs, h3, h4⟩ := rows_of (as := as) fun c' hc => h c' (List.mem_cons_of_mem _ hc)
    exact ⟨r :: rs, .cons h1 h3, fun r' hr' => by
      rcases List.mem_cons.mp hr' with rfl | z
      · exact h2
      · exact h4 r' z⟩
theorem LW.rows {K : PySem.W.Frag} {H0 Hc : Hp} {W : List Str → Prop} {fl : Addr} {n : Nat} (h : LW K H0 Hc W fl n) : ∃ rs, RowsAt K Hc fl rs ∧ rs.length ≤ n ∧ ∀ r ∈ rs, W r := by
  obtain ⟨as, h1, h2, h3⟩ := h.at_
  obtain ⟨rs, h4, h5⟩ := rows_of h3
  exact ⟨rs, ⟨as, h1, h4⟩, by rw [← Paired.length h4]; exact h2, h5⟩
noncomputable def Tps (K : PySem.W.Frag) (Hc : Hp) (W : List Str → Prop) (ts : List Addr) : Prop := ∀ t ∈ ts, ∃ r, RowAt K Hc t r ∧ W r
theorem Tps.new {K : PySem.W.Frag} {Hc : Hp} {W : List Str → Prop} {ts : List Addr} (h : Tps K Hc W ts) {t : Addr} (ht : Hc t = none) (r : List Str) (hr : W r) : Tps K (upd Hc t (.tup (r.map V.str))) W (ts ++ [t]) := fun c hc => by
  rcases List.mem_append.mp hc with z | z
  · obtain ⟨r, z1, z2⟩ := h c z
    exact ⟨r, (same_new ht _).seqT z1, z2⟩
  · rw [List.mem_singleton.mp z]; exact ⟨r, SqT.of upd_same, hr⟩
theorem Tps.grow {K : PySem.W.Frag} {Hc H2 : Hp} {W : List Str → Prop} {ts : List Addr} (h : Tps K Hc W ts) (e : Same Hc H2) : Tps K H2 W ts := fun c hc => by
  obtain ⟨r, z1, z2⟩ := h c hc
  exact ⟨r, e.seqT z1, z2⟩
noncomputable def spDrawn (K : PySem.W.Frag) : Sp := fun vs H Q _ => ∃ (a pl : Addr) (ns : List Int) (xs : List Str), vs = [.ref a, .ref pl] ∧ SqL K H a (ns.map V.int) ∧ ns.length ≤ 14 ∧ H pl = some (.lst (xs.map V.str)) ∧ xs.length = 6 ∧ ("nil" : Str) ∈ xs ∧
  ∀ t fl ql F P H', Same H H' → SqT K H' t [.ref fl, .ref ql] → H' t = some (.tup [.ref fl, .ref ql]) → RowsAt K H' fl F → RowsAt K H' ql P → F.length ≤ 8 → P.length ≤ 6 → (∀ r ∈ F, PoolRow xs r) → (∀ r ∈ P, PoolPart xs r) → Q (.ref t) H'
noncomputable def tElif (K : PySem.W.Frag) : TS := fun D σ H => ∃ (H0 : Hp) (a pl fl ql : Addr) (ns : List Int) (xs : List Str) (i : Nat) (m : Int) (u v : Str) (c : Int) (z8 z9 z10 z11 : Option V), σ = [some (V.ref a), some (.ref pl), some (.ref fl), some (.ref ql), some (.int (i : Int)), some (.int m), some (.str u), some (.str v), z8, z9, z10, z11] ∧ Same H0 H ∧ SqL K H0 a (ns.map V.int) ∧ atI (ns.map V.int) (i : Int) = some (.int c) ∧ i ≤ 14 ∧ H0 pl = some (.lst (xs.map V.str)) ∧ xs.length = 6 ∧ ("nil" : Str) ∈ xs ∧ u ∈ xs ∧ v ∈ xs ∧ LW K H0 H (PoolRow xs) fl 8 ∧ LW K H0 H (PoolPart xs) ql 6 ∧ fl ≠ ql ∧
  ∀ H' (z8 z9 z10 z11 : Option V), Same H0 H' → LW K H0 H' (PoolRow xs) fl 8 → LW K H0 H' (PoolPart xs) ql 6 → D.nx [some (V.ref a), some (.ref pl), some (.ref fl), some (.ref ql), some (.int (i : Int)), some (.int m), some (.str u), some (.str v), z8, z9, z10, z11] H'
section
variable {P : Program} {w : World} {K : PySem.W.Frag} {mg : Str → Option Value} {base : Heap} {f gM : Addr} {fd dM : FuncData}
theorem scDrawn : FnScope ["_law_cells", "_law_pool", "_law_facts", "_law_parts", "_law_k", "_law_m", "_law_a", "_law_b", "_law_some", "_law_f", "_law_s", "_law_row"] ["_law_cells", "_law_pool"] (defScope sDrawn) := ⟨rfl, rfl, rfl, by decide +kernel, rfl, by decide +kernel, by decide +kernel⟩
theorem ok_drawn (C : Con K mg w) (F : Fun K "_law_drawn" "_law_drawn" sDrawn f fd) (GM : FnOk P w K mg base CX0 1 gM dM ["_law_cell", "_law_k"] spMixed) (cM : Cal K mg "_law_mixed" gM dM ["_law_cell", "_law_k"]) : FnOk P w K mg base CX0 2 f fd ["_law_cells", "_law_pool"] (spDrawn K) := by
  refine F.okQ scDrawn (fun vs H Q E h => ?_) (fun cdv A outer s0 H vs Q E hr h => ?_)
  · obtain ⟨c, k, ns, xs, rfl, _⟩ := h; rfl
  obtain ⟨a, pl, ns, xs, rfl, hA, hns, hX, hx6, hnil, q⟩ := h
  have nd := scDrawn.nd
  refine ⟨_, qb_cons (qs_set (i := 2) nd rfl (Or.inl rfl) (qe_lst qa_nil))
    (qb_cons (qs_set (i := 3) nd rfl (Or.inl rfl) (qe_lst qa_nil))
    (qb_cons (qs_for PassesOwn.never rfl (qi_range1 rfl C.range (qa_call (qe_callB call_len_seq rfl C.len PySem.boot_len (qa_nm (qv 0) qa_nil)) qa_nil)) (qg_name (i := 4) nd rfl (Or.inl rfl)) (qb_cons (qs_set (i := 5) nd rfl (Or.inl rfl) (qe_call GM hr rfl cM.name cM.keep cM.bind .nil pass0 (qa_sub (qe_ix ix_list (qv 0) (qv 4) (fun _ _ => rfl)) (qa_nm (qv 4) qa_nil))))
    (qb_cons (qs_set (i := 6) nd rfl (Or.inl rfl) (qe_ix ix_list (qv 1) (qe_op op_mod (qe_op op_fdiv (qv 5) qe_int) (qe_callB call_len_seq rfl C.len PySem.boot_len (qa_nm (qv 1) qa_nil))) (fun _ _ => rfl)))
    (qb_cons (qs_set (i := 7) nd rfl (Or.inl rfl) (qe_ix ix_list (qv 1) (qe_op op_mod (qe_call GM hr rfl cM.name cM.keep cM.bind .nil pass0 (qa_sub (qe_ix ix_list (qv 0) (qv 4) (fun _ _ => rfl)) (qa_bop (qe_op op_add (qv 4) qe_int) qa_nil))) (qe_callB call_len_seq rfl C.len PySem.boot_len (qa_nm (qv 1) qa_nil))) (fun _ _ => rfl)))
    (qb_one (qs_if (QW.qt (qw_and (qt_cmpR op_lt (qe_op op_mod (qv 5) qe_int) qe_int (nomark _)) (qw_and1 (qt_cmpR op_lt (qe_callB call_len_seq rfl C.len PySem.boot_len (qa_nm (qv 2) qa_nil)) qe_int (nomark _))))) (qb_one (qs_expr (qe_bmK (K := K) rfl PySem.F.plainAttrs_list PySem.F.slot_list_append PySem.F.type_list_append mt_append (qv 2) (qa_tp (qa_sub (qe_ix ix_list (qe_lst (qa_str (qa_str (qa_str (qa_str (qa_str qa_nil)))))) (qe_op op_mod (qv 5) qe_int) (fun _ _ => rfl)) (qa_nm (qv 6) (qa_nm (qv 7) qa_nil))) qa_nil)))) (qb_one (qs_weak (t' := tElif K) (qs_if (QW.qt (qw_and (qt_cmpR op_gt (qe_op op_mod (qv 5) qe_int) qe_int (nomark _)) (qw_and1 (qt_cmpR op_lt (qe_callB call_len_seq rfl C.len PySem.boot_len (qa_nm (qv 3) qa_nil)) qe_int (nomark _))))) (qb_cons (qs_set (i := 8) nd rfl (Or.inl rfl) (qe_op op_cat (qv 1) (qe_lst (qa_str (qa_str qa_nil)))))
    (qb_cons (qs_set (i := 9) nd rfl (Or.inl rfl) (qe_ix ix_list (qv 8) (qe_op op_mod (qe_call GM hr rfl cM.name cM.keep cM.bind .nil pass0 (qa_sub (qe_ix ix_list (qv 0) (qv 4) (fun _ _ => rfl)) (qa_bop (qe_op op_add (qv 4) qe_int) qa_nil))) (qe_callB call_len_seq rfl C.len PySem.boot_len (qa_nm (qv 8) qa_nil))) (fun _ _ => rfl)))
    (qb_cons (qs_set (i := 10) nd rfl (Or.inl rfl) (qe_ix ix_list (qv 8) (qe_op op_mod (qe_call GM hr rfl cM.name cM.keep cM.bind .nil pass0 (qa_sub (qe_ix ix_list (qv 0) (qv 4) (fun _ _ => rfl)) (qa_bop (qe_op op_add (qv 4) qe_int) qa_nil))) (qe_callB call_len_seq rfl C.len PySem.boot_len (qa_nm (qv 8) qa_nil))) (fun _ _ => rfl)))
    (qb_cons (qs_set (i := 11) nd rfl (Or.inl rfl) (qe_lst (qa_tp (qa_str (qa_nm (qv 6) (qa_nm (qv 9) (qa_nm (qv 10) qa_nil)))) (qa_tp (qa_str (qa_nm (qv 6) (qa_nm (qv 7) qa_nil))) (qa_tp (qa_str (qa_nm (qv 6) qa_nil)) (qa_tp (qa_str (qa_nm (qv 6) (qa_nm (qv 9) (qa_nm (qv 10) qa_nil)))) (qa_tp (qa_str (qa_nm (qv 6) (qa_nm (qv 7) qa_nil))) qa_nil)))))))
    (qb_one (qs_expr (qe_bmK (K := K) rfl PySem.F.plainAttrs_list PySem.F.slot_list_append PySem.F.type_list_append mt_append (qv 3) (qa_sub (qe_ix ix_list (qe_op op_cat (qv 11) (qe_lst (qa_tp (qa_str (qa_nm (qv 6) (qa_nm (qv 7) qa_nil))) (qa_tp (qa_str (qa_nm (qv 6) (qa_str qa_nil))) qa_nil)))) (qe_op op_sub (qe_op op_mod (qv 5) qe_int) qe_int) (fun _ _ => rfl)) qa_nil)))))))) qb_nil) (fun D σ H hh => by
      obtain ⟨H0, a, pl, fl, ql, ns, xs, i, m, u, v, c, z8, z9, z10, z11, rfl, e, hA, hcell, hi, hX, hx6, hnil, hum, hvm, LF, LP, hfq, go⟩ := hh
      have b1 := Int.emod_nonneg m (show (12 : Int) ≠ 0 by decide)
      have b2 := Int.emod_lt_of_pos m (show (0 : Int) < 12 by decide)
      obtain ⟨pas, hpa, hpal, _⟩ := LP.at_
      have hpml : (pas.map V.ref).length = pas.length := List.length_map ..
      refine ⟨_, rfl, _, _, rfl, rfl, (show (0 : Int) < 12 by decide), _, _, rfl, rfl, _, rfl, iteB (fun c1 => ?_) (fun _ => go H _ _ _ _ e LF LP)⟩
      have c1' : 4 < m % 12 := of_decide_eq_true c1
      refine ⟨_, rfl, ql, _, rfl, .inl (SqL.of hpa), _, _, rfl, rfl, _, rfl, iteB (fun c2 => ?_) (fun _ => go H _ _ _ _ e LF LP)⟩
      have c2' : pas.length < 6 := by have := of_decide_eq_true c2; rw [hpml] at this; lia
      have hX' := e _ _ hX
      refine ⟨_, rfl, (show 2 ≤ sizeLine by decide), fun l1 hl1 => ?_⟩
      have s1 := same_new hl1 (.lst ([("any" : Str), "any"].map V.str))
      refine ⟨pl, l1, _, _, rfl, rfl, s1 _ _ hX', upd_same, (by rw [List.length_map, hx6]; decide), fun so hso => ?_⟩
      have s2 := s1.trans (same_new hso (.lst (xs.map V.str ++ [.str "any", .str "any"])))
      have hS : (upd (upd H l1 (.lst ([("any" : Str), "any"].map V.str))) so (.lst (xs.map V.str ++ [.str "any", .str "any"]))) so = some (.lst ((xs ++ [("any" : Str), "any"]).map V.str)) := by rw [upd_same, List.map_append]; rfl
      replace s2 : Same H (upd (upd H l1 (.lst ([("any" : Str), "any"].map V.str))) so (.lst (xs.map V.str ++ [.str "any", .str "any"]))) := s2
      have e2 := e.trans s2
      have LF2 := LF.grow s2
      have LP2 := LP.grow s2
      have hpa2 := s2 _ _ hpa
      clear s1 s2 hX'
      show gName _ _ _ (upd (upd H l1 (.lst ([("any" : Str), "any"].map V.str))) so (.lst (xs.map V.str ++ [.str "any", .str "any"]))) _
      generalize upd (upd H l1 (.lst ([("any" : Str), "any"].map V.str))) so (.lst (xs.map V.str ++ [.str "any", .str "any"])) = H2 at hS e2 LF2 LP2 hpa2 ⊢
      have hs8 : (xs ++ [("any" : Str), "any"]).length = 8 := by rw [List.length_append, hx6]; rfl
      have hs8' : (((xs ++ [("any" : Str), "any"]).map V.str).length : Int) = 8 := by rw [List.length_map, hs8]; rfl
      have hsm : ∀ {y : Str}, y ∈ xs ++ [("any" : Str), "any"] → y ∈ xs ∨ y = "any" := fun {y} hy => by
        rcases List.mem_append.mp hy with z | z
        · exact .inl z
        · simp only [List.mem_cons, List.not_mem_nil, or_false] at z
          exact .inr (z.elim id id)
      refine ⟨_, rfl, _, rfl, _, rfl, a, _, _, .int c, rfl, rfl, e2.seq hA, hcell, _, rfl, _, _, rfl, rfl, c, i + 140, rfl, by lia, fun m3 hm3 => ?_⟩
      refine ⟨_, rfl, so, _, rfl, .inl (SqL.of hS), ?_⟩
      rw [hs8']
      obtain ⟨fw, hfw, hfm⟩ := word_at _ (n := 8) (i := m3) hs8 (by decide)
      refine ⟨_, _, rfl, rfl, (show (0 : Int) < 8 by decide), so, _, _, .str fw, rfl, rfl, SqL.of hS, hfw, ?_⟩
      refine ⟨_, rfl, _, rfl, _, rfl, a, _, _, .int c, rfl, rfl, e2.seq hA, hcell, _, rfl, _, _, rfl, rfl, c, i + 210, rfl, by lia, fun m4 hm4 => ?_⟩
      refine ⟨_, rfl, so, _, rfl, .inl (SqL.of hS), ?_⟩
      rw [hs8']
      obtain ⟨sw, hsw, hsm'⟩ := word_at _ (n := 8) (i := m4) hs8 (by decide)
      refine ⟨_, _, rfl, rfl, (show (0 : Int) < 8 by decide), so, _, _, .str sw, rfl, rfl, SqL.of hS, hsw, ?_⟩
      have wc : PoolPart xs [("cell" : Str), u, fw, sw] := .inl ⟨u, fw, sw, rfl, hum, hsm hfm, hsm hsm'⟩
      have ws : PoolPart xs [("stretch" : Str), u, v] := .inr (.inl ⟨u, v, rfl, hum, hvm⟩)
      have wt : PoolPart xs [("tree" : Str), u] := .inr (.inr ⟨u, rfl, hum⟩)
      have wn : PoolPart xs [("stretch" : Str), u, "nil"] := .inr (.inl ⟨u, "nil", rfl, hum, hnil⟩)
      have T0 : Tps K H2 (PoolPart xs) [] := fun c hc => by simp at hc
      clear hS hfw hsw
      refine ⟨_, rfl, _, rfl, _, rfl, (show 4 ≤ sizeLine by decide), fun t1 ht1 => ?_⟩
      have x1 : Same H2 (upd H2 t1 (.tup [.str "cell", .str u, .str fw, .str sw])) := same_new ht1 _
      have T1 : Tps K (upd H2 t1 (.tup [.str "cell", .str u, .str fw, .str sw])) (PoolPart xs) ([t1]) := Tps.new T0 ht1 _ wc
      have E1 := e2.trans x1
      have A1 := LF2.grow x1
      have B1 := LP2.grow x1
      have P1 := x1 _ _ hpa2
      generalize upd H2 t1 (.tup [.str "cell", .str u, .str fw, .str sw]) = G1 at T1 E1 A1 B1 P1 ⊢
      clear x1
      refine ⟨_, rfl, _, rfl, (show 3 ≤ sizeLine by decide), fun t2 ht2 => ?_⟩
      have x2 : Same G1 (upd G1 t2 (.tup [.str "stretch", .str u, .str v])) := same_new ht2 _
      have T2 : Tps K (upd G1 t2 (.tup [.str "stretch", .str u, .str v])) (PoolPart xs) ([t1, t2]) := Tps.new T1 ht2 _ ws
      have E2 := E1.trans x2
      have A2 := A1.grow x2
      have B2 := B1.grow x2
      have P2 := x2 _ _ P1
      generalize upd G1 t2 (.tup [.str "stretch", .str u, .str v]) = G2 at T2 E2 A2 B2 P2 ⊢
      clear x2
      refine ⟨_, rfl, (show 2 ≤ sizeLine by decide), fun t3 ht3 => ?_⟩
      have x3 : Same G2 (upd G2 t3 (.tup [.str "tree", .str u])) := same_new ht3 _
      have T3 : Tps K (upd G2 t3 (.tup [.str "tree", .str u])) (PoolPart xs) ([t1, t2, t3]) := Tps.new T2 ht3 _ wt
      have E3 := E2.trans x3
      have A3 := A2.grow x3
      have B3 := B2.grow x3
      have P3 := x3 _ _ P2
      generalize upd G2 t3 (.tup [.str "tree", .str u]) = G3 at T3 E3 A3 B3 P3 ⊢
      clear x3
      refine ⟨_, rfl, _, rfl, _, rfl, (show 4 ≤ sizeLine by decide), fun t4 ht4 => ?_⟩
      have x4 : Same G3 (upd G3 t4 (.tup [.str "cell", .str u, .str fw, .str sw])) := same_new ht4 _
      have T4 : Tps K (upd G3 t4 (.tup [.str "cell", .str u, .str fw, .str sw])) (PoolPart xs) ([t1, t2, t3, t4]) := Tps.new T3 ht4 _ wc
      have E4 := E3.trans x4
      have A4 := A3.grow x4
      have B4 := B3.grow x4
      have P4 := x4 _ _ P3
      generalize upd G3 t4 (.tup [.str "cell", .str u, .str fw, .str sw]) = G4 at T4 E4 A4 B4 P4 ⊢
      clear x4
      refine ⟨_, rfl, _, rfl, (show 3 ≤ sizeLine by decide), fun t5 ht5 => ?_⟩
      have x5 : Same G4 (upd G4 t5 (.tup [.str "stretch", .str u, .str v])) := same_new ht5 _
      have T5 : Tps K (upd G4 t5 (.tup [.str "stretch", .str u, .str v])) (PoolPart xs) ([t1, t2, t3, t4, t5]) := Tps.new T4 ht5 _ ws
      have E5 := E4.trans x5
      have A5 := A4.grow x5
      have B5 := B4.grow x5
      have P5 := x5 _ _ P4
      generalize upd G4 t5 (.tup [.str "stretch", .str u, .str v]) = G5 at T5 E5 A5 B5 P5 ⊢
      clear x5
      refine ⟨(show 5 ≤ sizeLine by decide), fun l5 hl5 => ?_⟩
      have x0 : Same G5 (upd G5 l5 (.lst [.ref t1, .ref t2, .ref t3, .ref t4, .ref t5])) := same_new hl5 _
      have T5' := T5.grow x0
      have E5' := E5.trans x0
      have A5' := A5.grow x0
      have B5' := B5.grow x0
      have P5' := x0 _ _ P5
      have R5 : (upd G5 l5 (.lst [.ref t1, .ref t2, .ref t3, .ref t4, .ref t5])) l5 = some (.lst [.ref t1, .ref t2, .ref t3, .ref t4, .ref t5]) := upd_same
      generalize upd G5 l5 (.lst [.ref t1, .ref t2, .ref t3, .ref t4, .ref t5]) = G6 at T5' E5' A5' B5' P5' R5 ⊢
      clear x0
      refine ⟨_, rfl, .inl ⟨rfl, _, SqL.of P5'⟩, _, rfl, ?_⟩
      refine ⟨_, rfl, _, rfl, (show 3 ≤ sizeLine by decide), fun t6 ht6 => ?_⟩
      have x6 : Same G6 (upd G6 t6 (.tup [.str "stretch", .str u, .str v])) := same_new ht6 _
      have T6 : Tps K (upd G6 t6 (.tup [.str "stretch", .str u, .str v])) (PoolPart xs) ([t1, t2, t3, t4, t5, t6]) := Tps.new T5' ht6 _ ws
      have E6 := E5'.trans x6
      have A6 := A5'.grow x6
      have B6 := B5'.grow x6
      have P6 := x6 _ _ P5'
      have R6 := x6 _ _ R5
      generalize upd G6 t6 (.tup [.str "stretch", .str u, .str v]) = G7 at T6 E6 A6 B6 P6 R6 ⊢
      clear x6
      refine ⟨_, rfl, (show 3 ≤ sizeLine by decide), fun t7 ht7 => ?_⟩
      have x7 : Same G7 (upd G7 t7 (.tup [.str "stretch", .str u, .str "nil"])) := same_new ht7 _
      have T7 : Tps K (upd G7 t7 (.tup [.str "stretch", .str u, .str "nil"])) (PoolPart xs) ([t1, t2, t3, t4, t5, t6, t7]) := Tps.new T6 ht7 _ wn
      have E7 := E6.trans x7
      have A7 := A6.grow x7
      have B7 := B6.grow x7
      have P7 := x7 _ _ P6
      have R7 := x7 _ _ R6
      generalize upd G7 t7 (.tup [.str "stretch", .str u, .str "nil"]) = G8 at T7 E7 A7 B7 P7 R7 ⊢
      clear x7
      refine ⟨(show 2 ≤ sizeLine by decide), fun l6 hl6 => ?_⟩
      have x0 : Same G8 (upd G8 l6 (.lst [.ref t6, .ref t7])) := same_new hl6 _
      refine ⟨l5, l6, _, _, rfl, rfl, x0 _ _ R7, upd_same, (show 7 ≤ sizeLine by decide), fun l7 hl7 => ?_⟩
      have x1 := x0.trans (same_new hl7 (.lst ([t1, t2, t3, t4, t5, t6, t7].map V.ref)))
      obtain ⟨tv, htv, htm⟩ := at_in (xs := [t1, t2, t3, t4, t5, t6, t7].map V.ref) (i := m % 12 - 5) (by lia) (by show m % 12 - 5 < 7; lia)
      obtain ⟨t, ht, rfl⟩ := List.mem_map.mp htm
      obtain ⟨r, hr1, hr2⟩ := T7 t ht
      have P8 := x1 _ _ P7
      refine ⟨_, rfl, _, _, rfl, rfl, (show (0 : Int) < 12 by decide), _, _, rfl, rfl, l7, _, _, .ref t, rfl, rfl, SqL.of upd_same, htv, ql, _, .ref t, rfl, rfl, P8, by rw [hpml]; exact lt_line (by lia), ?_⟩
      exact go _ _ _ _ _ (same_put LP.no (E7.trans x1) _) ((A7.grow x1).other P8 hfq) ((B7.grow x1).app P8 (by lia) (x1.seqT hr1) hr2))))))))))
    (qb_one (qs_ret (qe_tup (qa_nm (qv 2) (qa_nm (qv 3) qa_nil))))))), ?_⟩
  refine ⟨Nat.zero_le _, fun fl hfl => ?_⟩
  have s1 := same_new hfl (.lst [])
  have hf1 : (upd H fl (.lst [])) fl = some (.lst []) := upd_same
  generalize upd H fl (.lst []) = H1 at s1 hf1 ⊢
  refine ⟨Nat.zero_le _, fun ql hql => ?_⟩
  have s2 := s1.trans (same_new hql (.lst []))
  have hfq : fl ≠ ql := ne_of_none hf1 hql
  have hql0 : H ql = none := by
    cases hz : H ql with
    | none => rfl
    | some o => rw [s1 _ _ hz] at hql; cases hql
  have LF0 : LW K H (upd H1 ql (.lst [])) (PoolRow xs) fl 8 := ⟨hfl, [], by rw [upd_ne hfq]; exact hf1, Nat.zero_le _, fun c hc => by simp at hc⟩
  have LP0 : LW K H (upd H1 ql (.lst [])) (PoolPart xs) ql 6 := ⟨hql0, [], upd_same, Nat.zero_le _, fun c hc => by simp at hc⟩
  generalize upd H1 ql (.lst []) = H2 at s2 LF0 LP0 ⊢
  have hml : (ns.map V.int).length = ns.length := List.length_map ..
  refine ⟨_, rfl, a, _, rfl, .inl (s2.seq hA), _, rfl, (by rw [hml]; lia), (by rw [hml]; lia), ?_⟩
  rw [hml]
  refine for_range (lo := 0) (n := (ns.length : Int).toNat) (fun i σ H' => Same H H' ∧ LW K H H' (PoolRow xs) fl 8 ∧ LW K H H' (PoolPart xs) ql 6 ∧ ∃ (z4 z5 z6 z7 z8 z9 z10 z11 : Option V), σ = [some (.ref a), some (.ref pl), some (.ref fl), some (.ref ql), z4, z5, z6, z7, z8, z9, z10, z11])
    ⟨s2, LF0, LP0, none, none, none, none, none, none, none, none, rfl⟩ ?_ ?_
  · rintro i σ H' hi ⟨e, LF, LP, z4, z5, z6, z7, z8, z9, z10, z11, rfl⟩
    rw [Int.zero_add]
    have hi' : i < ns.length := by lia
    have hcell : atI (ns.map V.int) (i : Int) = some (.int ns[i]) := atI_nat (by rw [List.getElem?_map, List.getElem?_eq_getElem hi']; rfl)
    refine ⟨_, rfl, _, rfl, a, _, _, .int ns[i], rfl, rfl, e.seq hA, hcell, _, rfl, ns[i], i, rfl, by lia, fun m hm => ?_⟩
    have hX' := e _ _ hX
    have hl6 : ((xs.map V.str).length : Int) = 6 := by rw [List.length_map, hx6]; rfl
    obtain ⟨u, hu, hum⟩ := word_at xs (n := 6) (i := m / 12) hx6 (by decide)
    refine ⟨_, rfl, _, rfl, _, _, rfl, rfl, (show CDiv _ 12 from ⟨by decide, by decide⟩), _, rfl, pl, _, rfl, .inl (SqL.of hX'), ?_⟩
    rw [hl6]
    refine ⟨_, _, rfl, rfl, (show (0 : Int) < 6 by decide), pl, _, _, .str u, rfl, rfl, SqL.of hX', hu, ?_⟩
    refine ⟨_, rfl, _, rfl, _, rfl, a, _, _, .int ns[i], rfl, rfl, e.seq hA, hcell, _, rfl, _, _, rfl, rfl, ns[i], i + 70, rfl, by lia, fun m2 hm2 => ?_⟩
    obtain ⟨v, hv, hvm⟩ := word_at xs (n := 6) (i := m2) hx6 (by decide)
    refine ⟨_, rfl, pl, _, rfl, .inl (SqL.of hX'), ?_⟩
    rw [hl6]
    refine ⟨_, _, rfl, rfl, (show (0 : Int) < 6 by decide), pl, _, _, .str v, rfl, rfl, SqL.of hX', hv, ?_⟩
    have b1 := Int.emod_nonneg m (show (12 : Int) ≠ 0 by decide)
    have b2 := Int.emod_lt_of_pos m (show (0 : Int) < 12 by decide)
    obtain ⟨fas, hfa, hfal, _⟩ := LF.at_
    obtain ⟨pas, hpa, hpal, _⟩ := LP.at_
    have hfml : (fas.map V.ref).length = fas.length := List.length_map ..
    have hpml : (pas.map V.ref).length = pas.length := List.length_map ..
    have go : ∀ H' (z8 z9 z10 z11 : Option V), Same H H' → LW K H H' (PoolRow xs) fl 8 → LW K H H' (PoolPart xs) ql 6 → (Same H H' ∧ LW K H H' (PoolRow xs) fl 8 ∧ LW K H H' (PoolPart xs) ql 6 ∧ ∃ (y4 y5 y6 y7 y8 y9 y10 y11 : Option V), [some (V.ref a), some (.ref pl), some (.ref fl), some (.ref ql), some (.int (i : Int)), some (.int m), some (.str u), some (.str v), z8, z9, z10, z11] = [some (.ref a), some (.ref pl), some (.ref fl), some (.ref ql), y4, y5, y6, y7, y8, y9, y10, y11]) := fun H' z8 z9 z10 z11 h1 h2 h3 => ⟨h1, h2, h3, _, _, _, _, _, _, _, _, rfl⟩
    have el : ∀ D : Ends, (∀ H' (z8 z9 z10 z11 : Option V), Same H H' → LW K H H' (PoolRow xs) fl 8 → LW K H H' (PoolPart xs) ql 6 → D.nx [some (V.ref a), some (.ref pl), some (.ref fl), some (.ref ql), some (.int (i : Int)), some (.int m), some (.str u), some (.str v), z8, z9, z10, z11] H') → tElif K D [some (V.ref a), some (.ref pl), some (.ref fl), some (.ref ql), some (.int (i : Int)), some (.int m), some (.str u), some (.str v), z8, z9, z10, z11] H' := fun D h => ⟨H, a, pl, fl, ql, ns, xs, i, m, u, v, ns[i], z8, z9, z10, z11, rfl, e, hA, hcell, by lia, hX, hx6, hnil, hum, hvm, LF, LP, hfq, h⟩
    refine ⟨_, rfl, _, _, rfl, rfl, (show (0 : Int) < 12 by decide), _, _, rfl, rfl, _, rfl, iteB (fun c1 => ?_) (fun _ => el _ fun H' z8 z9 z10 z11 => go H' z8 z9 z10 z11)⟩
    have c1' : m % 12 < 5 := of_decide_eq_true c1
    refine ⟨_, rfl, fl, _, rfl, .inl (SqL.of hfa), _, _, rfl, rfl, _, rfl, iteB (fun c2 => ?_) (fun _ => el _ fun H' z8 z9 z10 z11 => go H' z8 z9 z10 z11)⟩
    have c2' : fas.length < 8 := by have := of_decide_eq_true c2; rw [hfml] at this; lia
    refine ⟨_, rfl, .inl ⟨rfl, _, SqL.of hfa⟩, (show 5 ≤ sizeLine by decide), fun l2 hl2 => ?_⟩
    have s3 := same_new hl2 (.lst ([("is" : Str), "not", "not", "is", "not"].map V.str))
    obtain ⟨wv, hw, hwm⟩ := at_in (xs := [("is" : Str), "not", "not", "is", "not"].map V.str) (i := m % 12) b1 (by show m % 12 < 5; exact c1')
    obtain ⟨wd, rfl, hwd⟩ : ∃ wd : Str, wv = .str wd ∧ (wd = "is" ∨ wd = "not") := by
      obtain ⟨y, hy, rfl⟩ := List.mem_map.mp hwm
      refine ⟨y, rfl, ?_⟩
      simp only [List.mem_cons, List.not_mem_nil, or_false] at hy
      rcases hy with z | z | z | z | z
      · exact .inl z
      · exact .inr z
      · exact .inr z
      · exact .inl z
      · exact .inr z
    refine ⟨_, rfl, _, _, rfl, rfl, (show (0 : Int) < 12 by decide), l2, _, _, .str wd, rfl, rfl, SqL.of upd_same, hw, _, rfl, _, rfl, (show 3 ≤ sizeLine by decide), fun t ht => ?_⟩
    have s4 := s3.trans (same_new ht (.tup [.str wd, .str u, .str v]))
    have hfa4 := s4 _ _ hfa
    have hpa4 := s4 _ _ hpa
    refine ⟨fl, _, .ref t, rfl, rfl, hfa4, by rw [hfml]; exact lt_line (by lia), ?_⟩
    exact go _ _ _ _ _ (same_put hfl (e.trans s4) _) ((LF.grow s4).app hfa4 (by lia) (r := [wd, u, v]) (SqT.of upd_same) ⟨wd, u, v, rfl, hwd, hum, hvm⟩) ((LP.grow s4).other hfa4 (Ne.symm hfq))
  · rintro σ H' ⟨e, LF, LP, z4, z5, z6, z7, z8, z9, z10, z11, rfl⟩
    obtain ⟨F, hF, hF8, hFW⟩ := LF.rows
    obtain ⟨Pt, hP, hP6, hPW⟩ := LP.rows
    refine ⟨_, rfl, _, rfl, (show 2 ≤ sizeLine by decide), fun t ht => ?_⟩
    have s3 := same_new ht (.tup [.ref fl, .ref ql])
    exact q t fl ql F Pt _ (e.trans s3) (SqT.of upd_same) upd_same (hF.same s3) (hP.same s3) hF8 hP6 hFW hPW
end
end K22
namespace K22
open PySem PySem.Spec L2 Mir Kn
noncomputable abbrev sLEnds : Stmt := top 12
noncomputable abbrev sPut : Stmt := top 13
noncomputable abbrev sIsFull : Stmt := top 14
noncomputable abbrev sApart : Stmt := top 15
noncomputable def InT (kv : List (List Key × V)) (a b : Str) : Prop := (valV kv [Sum.inr a, Sum.inr b]).isSome = true
theorem nd_lenG {α : Type} [DecidableEq α] : ∀ {l m : List α}, l.Nodup → (∀ x ∈ l, x ∈ m) → l.length ≤ m.length
  | [], _, _, _ => Nat.zero_le _
  | x :: l, m, hn, hm => by
    have hx := hm x (List.mem_cons_self ..)
    obtain ⟨h1, h2⟩ := List.nodup_cons.mp hn
    have := nd_lenG (l := l) (m := m.erase x) h2 fun y hy => (List.mem_erase_of_ne (a := y) (b := x) (fun e => h1 (by rw [← e]; exact hy))).mpr (hm y (List.mem_cons_of_mem _ hy))
    rw [List.length_erase_of_mem hx] at this
    have hp : 0 < m.length := List.length_pos_of_mem hx
    rw [List.length_cons]
    lia
structure Tab (xs : List Str) (kv : List (List Key × V)) : Prop where
  pr : ∀ q ∈ kv, ∃ a b : Str, q.1 = [Sum.inr a, Sum.inr b] ∧ a ∈ xs ∧ b ∈ xs
  nd : (kv.map (·.1)).Nodup
  sym : ∀ a b, InT kv a b → InT kv b a
noncomputable def pairsOf (xs : List Str) : List (List Key) := xs.flatMap fun a => xs.map fun b => [Sum.inr a, Sum.inr b]
theorem pairsOf_len (xs : List Str) : (pairsOf xs).length = xs.length * xs.length := by
  unfold pairsOf
  have : ∀ ys : List Str, (ys.flatMap fun a => xs.map fun b => ([Sum.inr a, Sum.inr b] : List Key)).length = ys.length * xs.length := fun ys => by
    induction ys with
    | nil => simp
    | cons y ys ih => rw [List.flatMap_cons, List.length_append, ih, List.length_map, List.length_cons, Nat.succ_mul]; lia
  exact this xs
theorem Tab.len {xs : List Str} {kv : List (List Key × V)} (T : Tab xs kv) : kv.length ≤ xs.length * xs.length := by
  have := nd_lenG (m := pairsOf xs) T.nd fun k hk => by
    obtain ⟨q, hq, rfl⟩ := List.mem_map.mp hk
    obtain ⟨a, b, e, ha, hb⟩ := T.pr q hq
    rw [e]
    exact List.mem_flatMap.mpr ⟨a, ha, List.mem_map.mpr ⟨b, hb, rfl⟩⟩
  rw [List.length_map, pairsOf_len] at this
  exact this
theorem inT_key {kv : List (List Key × V)} {a b : Str} : InT kv a b ↔ ([Sum.inr a, Sum.inr b] : List Key) ∈ kv.map (·.1) := by
  unfold InT
  constructor
  · intro h
    obtain ⟨v, hv⟩ := Option.isSome_iff_exists.mp h
    exact valV_in hv
  · intro h
    cases e : valV kv ([Sum.inr a, Sum.inr b] : List Key) with
    | some v => rfl
    | none => exact absurd h (valV_not e)
theorem Tab.words {xs : List Str} {kv : List (List Key × V)} (T : Tab xs kv) {a b : Str} (h : InT kv a b) : a ∈ xs ∧ b ∈ xs := by
  obtain ⟨q, hq, e⟩ := List.mem_map.mp (inT_key.mp h)
  obtain ⟨a', b', e', ha, hb⟩ := T.pr q hq
  rw [e'] at e
  simp only [List.cons.injEq, Sum.inr.injEq, and_true] at e
  exact ⟨e.1 ▸ ha, e.2 ▸ hb⟩
theorem Tab.stay {xs : List Str} {kv kv' : List (List Key × V)} (T : Tab xs kv) (T' : Tab xs kv') (hs : ∀ a b, InT kv a b → InT kv' a b) (hl : kv'.length ≤ kv.length) {a b : Str} (h : InT kv' a b) : InT kv a b := by
  refine Classical.byContradiction fun hn => ?_
  have hk : ¬ ([Sum.inr a, Sum.inr b] : List Key) ∈ kv.map (·.1) := fun z => hn (inT_key.mpr z)
  have := nd_lenG (l := ([Sum.inr a, Sum.inr b] : List Key) :: kv.map (·.1)) (m := kv'.map (·.1)) (List.nodup_cons.mpr ⟨hk, T.nd⟩) fun x hx => by
    rcases List.mem_cons.mp hx with rfl | z
    · exact inT_key.mp h
    · obtain ⟨q, hq, rfl⟩ := List.mem_map.mp z
      obtain ⟨a', b', e', _, _⟩ := T.pr q hq
      rw [e']
      exact inT_key.mp (hs a' b' (inT_key.mpr (by rw [← e']; exact List.mem_map.mpr ⟨q, hq, rfl⟩)))
  rw [List.length_cons, List.length_map, List.length_map] at this
  lia
theorem putK_keys {kv : List (List Key × V)} {k : List Key} {v : V} (hn : (kv.map (·.1)).Nodup) : ((putK kv k v).map (·.1)).Nodup ∧ ∀ q ∈ putK kv k v, q.1 = k ∨ ∃ p ∈ kv, q.1 = p.1 := by
  unfold putK
  split
  · rename_i hc
    constructor
    · have e : (kv.map fun kv => if kv.1 = k then (kv.1, v) else kv).map (·.1) = kv.map (·.1) := by
        rw [List.map_map]
        refine List.map_congr_left fun p _ => ?_
        show (if p.1 = k then (p.1, v) else p).1 = p.1
        split <;> rfl
      rw [e]; exact hn
    · intro q hq
      obtain ⟨p, hp, rfl⟩ := List.mem_map.mp hq
      split
      · exact .inl (by assumption)
      · exact .inr ⟨p, hp, rfl⟩
  · rename_i hc
    constructor
    · rw [List.map_append]
      refine List.nodup_append.mpr ⟨hn, List.nodup_cons.mpr ⟨List.not_mem_nil, .nil⟩, fun a ha b hb e => ?_⟩
      have hb' : b = k := by simpa using hb
      rw [hb'] at e
      obtain ⟨p, hp, e2⟩ := List.mem_map.mp ha
      exact hc (List.any_eq_true.mpr ⟨p, hp, by simpa using e2.trans e⟩)
    · intro q hq
      rcases List.mem_append.mp hq with z | z
      · exact .inr ⟨q, z, rfl⟩
      · rw [List.mem_singleton.mp z]; exact .inl rfl
theorem inT_put2 {kv : List (List Key × V)} {a b c d : Str} : InT (put2 kv a b) c d ↔ InT kv c d ∨ (c = a ∧ d = b) ∨ (c = b ∧ d = a) := by
  unfold InT put2
  rw [valV_put, valV_put]
  have e1 : ∀ x y z w' : Str, ([Sum.inr x, Sum.inr y] : List Key) = [Sum.inr z, Sum.inr w'] ↔ x = z ∧ y = w' := fun x y z w' => by simp
  by_cases c1 : c = b ∧ d = a
  · rw [if_pos ((e1 _ _ _ _).mpr c1)]
    exact ⟨fun _ => .inr (.inr c1), fun _ => rfl⟩
  · rw [if_neg (fun z => c1 ((e1 _ _ _ _).mp z))]
    by_cases c2 : c = a ∧ d = b
    · rw [if_pos ((e1 _ _ _ _).mpr c2)]
      exact ⟨fun _ => .inr (.inl c2), fun _ => rfl⟩
    · rw [if_neg (fun z => c2 ((e1 _ _ _ _).mp z))]
      exact ⟨fun z => .inl z, fun z => z.elim id (fun y => y.elim (fun x => absurd x c2) (fun x => absurd x c1))⟩
theorem Tab.put {xs : List Str} {kv : List (List Key × V)} (T : Tab xs kv) {a b : Str} (ha : a ∈ xs) (hb : b ∈ xs) : Tab xs (put2 kv a b) := by
  obtain ⟨n1, p1⟩ := putK_keys (k := [Sum.inr a, Sum.inr b]) (v := V.bl true) T.nd
  obtain ⟨n2, p2⟩ := putK_keys (k := [Sum.inr b, Sum.inr a]) (v := V.bl true) n1
  refine ⟨fun q hq => ?_, n2, fun c d h => ?_⟩
  · rcases p2 q hq with z | ⟨p, hp, z⟩
    · exact ⟨b, a, z, hb, ha⟩
    · rcases p1 p hp with y | ⟨r, hr, y⟩
      · exact ⟨a, b, z.trans y, ha, hb⟩
      · obtain ⟨c, d, e, hc, hd⟩ := T.pr r hr
        exact ⟨c, d, (z.trans y).trans e, hc, hd⟩
  · rcases inT_put2.mp h with z | z | z
    · exact inT_put2.mpr (.inl (T.sym _ _ z))
    · exact inT_put2.mpr (.inr (.inr ⟨z.2, z.1⟩))
    · exact inT_put2.mpr (.inr (.inl ⟨z.2, z.1⟩))
theorem PoolPart.row {xs : List Str} {r : List Str} (h : PoolPart xs r) : PartRow r := by
  rcases h with ⟨a, f, s, h, _⟩ | ⟨a, b, h, _⟩ | ⟨a, h, _⟩
  · exact .inl ⟨a, f, s, h⟩
  · exact .inr (.inl ⟨a, b, h⟩)
  · exact .inr (.inr ⟨a, h⟩)
theorem PoolPart.place {xs : List Str} {r : List Str} (h : PoolPart xs r) : place r ∈ xs := by
  rcases h with ⟨a, f, s, rfl, h, _⟩ | ⟨a, b, rfl, h, _⟩ | ⟨a, rfl, h⟩ <;> exact h
noncomputable def lend (r : List Str) : Str := if r.getD 0 "" = "tree" then "nil" else r.getD 2 ""
theorem lend_end {r : List Str} (h : PartRow r) (hc : ¬ r.getD 0 "" = "cell") : lend r = end2 r := by
  rcases h with ⟨a, f, s, rfl⟩ | ⟨a, b, rfl⟩ | ⟨a, rfl⟩
  · exact absurd rfl hc
  · have e1 : lend [("stretch" : Str), a, b] = b := if_neg (show ¬ ("stretch" : Str) = "tree" by decide +kernel)
    have e2 : end2 [("stretch" : Str), a, b] = b := if_pos (show ("stretch" : Str) = "stretch" from rfl)
    rw [e1, e2]
  · have e1 : lend [("tree" : Str), a] = "nil" := if_pos (show ("tree" : Str) = "tree" from rfl)
    have e2 : end2 [("tree" : Str), a] = "nil" := if_neg (show ¬ ("tree" : Str) = "stretch" by decide +kernel)
    rw [e1, e2]
noncomputable def spLEnds (K : PySem.W.Frag) : Sp := fun vs H Q _ => ∃ (b : Addr) (r : List Str), vs = [.ref b] ∧ RowAt K H b r ∧ PartRow r ∧ ∀ t H', Same H H' → H' t = some (.tup [.str (place r), .str (lend r)]) → Q (.ref t) H'
noncomputable def spPut : Sp := fun vs H Q _ => ∃ (t : Addr) (kv : List (List Key × V)) (a b : Str), vs = [.ref t, .str a, .str b] ∧ H t = some (.dT kv) ∧ kv.length ≤ 900 ∧ ∀ H', Kp (· = t) H H' → H' t = some (.dT (put2 kv a b)) → Q .non H'
noncomputable def spIsFull (K : PySem.W.Frag) : Sp := fun vs H Q _ => ∃ (b t : Addr) (r : List Str) (kv : List (List Key × V)), vs = [.ref b, .ref t] ∧ RowAt K H b r ∧ PartRow r ∧ H t = some (.dT kv) ∧ ∀ (c : Bool) H', Same H H' → (c = true ↔ FullR (InT kv) r) → Q (.bl c) H'
section
variable {P : Program} {w : World} {K : PySem.W.Frag} {mg : Str → Option Value} {base : Heap} {f gE gF gP : Addr} {fd dE dF dP : FuncData}
theorem scLEnds : FnScope ["_law_part"] ["_law_part"] (defScope sLEnds) := ⟨rfl, rfl, rfl, by decide +kernel, rfl, by decide +kernel, by decide +kernel⟩
theorem ok_lends (F : Fun K "_law_ends" "_law_ends" sLEnds f fd) : FnOk P w K mg base CX0 1 f fd ["_law_part"] (spLEnds K) := by
  refine F.okQ scLEnds (fun vs H Q E h => ?_) (fun cdv A outer s0 H vs Q E hr h => ?_)
  · obtain ⟨b, r, rfl, _⟩ := h; rfl
  obtain ⟨b, r, rfl, hR, hp, q⟩ := h
  refine ⟨_, qb_cons (qs_if (qt_cmpR op_eq (qe_ix ix_tup (qv 0) qe_int (fun _ _ => rfl)) qe_str (nomark _)) (qb_one (qs_ret (qe_tup (qa_sub (qe_ix ix_tup (qv 0) qe_int (fun _ _ => rfl)) (qa_str qa_nil))))) qb_nil)
    (qb_one (qs_ret (qe_tup (qa_sub (qe_ix ix_tup (qv 0) qe_int (fun _ _ => rfl)) (qa_sub (qe_ix ix_tup (qv 0) qe_int (fun _ _ => rfl)) qa_nil))))), ?_⟩
  refine ⟨_, rfl, b, _, 0, _, rfl, rfl, hR, hp.at0, rfl, _, rfl, iteB (fun c => ?_) (fun c => ?_)⟩
  · have c' : r.getD 0 "" = "tree" := by simpa using c
    refine ⟨_, rfl, b, _, 1, _, rfl, rfl, hR, hp.at1, (show 2 ≤ sizeLine by decide), fun t ht => ?_⟩
    have e : lend r = "nil" := by unfold lend; rw [if_pos c']
    refine q t _ (same_new ht _) ?_
    rw [e]
    exact upd_same
  · have c' : ¬ r.getD 0 "" = "tree" := by simpa using c
    have h2 : atI (r.map V.str) (2 : Int) = some (.str (r.getD 2 "")) := by
      rcases hp with ⟨a, f, s, rfl⟩ | ⟨a, b, rfl⟩ | ⟨a, rfl⟩
      · rfl
      · rfl
      · exact absurd rfl c'
    refine ⟨_, rfl, b, _, 1, _, rfl, rfl, hR, hp.at1, _, rfl, b, _, 2, _, rfl, rfl, hR, h2, (show 2 ≤ sizeLine by decide), fun t ht => ?_⟩
    have e : lend r = r.getD 2 "" := by unfold lend; rw [if_neg c']
    refine q t _ (same_new ht _) ?_
    rw [e]
    exact upd_same
theorem scPut : FnScope ["_law_table", "_law_one", "_law_other"] ["_law_table", "_law_one", "_law_other"] (defScope sPut) := ⟨rfl, rfl, rfl, by decide +kernel, rfl, by decide +kernel, by decide +kernel⟩
theorem ok_put (F : Fun K "_law_put" "_law_put" sPut f fd) : FnOk P w K mg base CX0 1 f fd ["_law_table", "_law_one", "_law_other"] spPut := by
  refine F.okQ scPut (fun vs H Q E h => ?_) (fun cdv A outer s0 H vs Q E hr h => ?_)
  · obtain ⟨t, kv, a, b, rfl, _⟩ := h; rfl
  obtain ⟨t, kv, a, b, rfl, hT, hl, q⟩ := h
  have hu1 := hu_of hr
  refine ⟨_, qb_cons (qs_dput hu1 (qv 0) (qe_tup (qa_nm (qv 1) (qa_nm (qv 2) qa_nil))) qe_bl)
    (qb_one (qs_dput hu1 (qv 0) (qe_tup (qa_nm (qv 2) (qa_nm (qv 1) qa_nil))) qe_bl)), ?_⟩
  refine ⟨_, rfl, _, rfl, _, rfl, (show 2 ≤ sizeLine by decide), fun t1 ht1 => ?_⟩
  have s1 := same_new ht1 (.tup [.str a, .str b])
  refine ⟨t, _, rfl, DPut.t (k := [Sum.inr a, Sum.inr b]) (s1 _ _ hT) upd_same (lt_line (by lia)), ?_⟩
  have hl1 : (putK kv [Sum.inr a, Sum.inr b] (V.bl true)).length ≤ kv.length + 1 := length_putK _ _ _
  have k1 : Kp (· = t) H (upd (upd H t1 (.tup [.str a, .str b])) t (.dT (putK kv [Sum.inr a, Sum.inr b] (.bl true)))) := fun b o hb n => by rw [upd_ne n]; exact s1 _ _ hb
  have hT1 : (upd (upd H t1 (.tup [.str a, .str b])) t (.dT (putK kv [Sum.inr a, Sum.inr b] (.bl true)))) t = some (.dT (putK kv [Sum.inr a, Sum.inr b] (.bl true))) := upd_same
  generalize upd (upd H t1 (.tup [.str a, .str b])) t (.dT (putK kv [Sum.inr a, Sum.inr b] (.bl true))) = H1 at k1 hT1 ⊢
  refine ⟨_, rfl, _, rfl, _, rfl, (show 2 ≤ sizeLine by decide), fun t2 ht2 => ?_⟩
  have s2 := same_new ht2 (.tup [.str b, .str a])
  refine ⟨t, _, rfl, DPut.t (k := [Sum.inr b, Sum.inr a]) (s2 _ _ hT1) upd_same (lt_line (by lia)), ?_⟩
  exact q _ (fun b o hb n => by rw [upd_ne n]; exact s2 _ _ (k1 b o hb n)) upd_same
theorem scIsFull : FnScope ["_law_part", "_law_unlike"] ["_law_part", "_law_unlike"] (defScope sIsFull) := ⟨rfl, rfl, rfl, by decide +kernel, rfl, by decide +kernel, by decide +kernel⟩
theorem ok_isFull (F : Fun K "_law_is_full" "_law_is_full" sIsFull f fd) (GE : FnOk P w K mg base CX0 1 gE dE ["_law_part"] (spLEnds K)) (cE : Cal K mg "_law_ends" gE dE ["_law_part"]) : FnOk P w K mg base CX0 2 f fd ["_law_part", "_law_unlike"] (spIsFull K) := by
  refine F.okQ scIsFull (fun vs H Q E h => ?_) (fun cdv A outer s0 H vs Q E hr h => ?_)
  · obtain ⟨b, t, r, kv, rfl, _⟩ := h; rfl
  obtain ⟨b, t, r, kv, rfl, hR, hp, hT, q⟩ := h
  have hu1 := hu_of hr
  refine ⟨_, (qb_one (qs_ret (qe_or (qe_cmpR op_eq (qe_ix ix_tup (qv 0) qe_int (fun _ _ => rfl)) qe_str (nomark _)) (qe_one (qe_din hu1 (qe_call GE hr rfl cE.name cE.keep cE.bind .nil pass0 (qa_nm (qv 0) qa_nil)) (qv 1)))))), ?_⟩
  refine ⟨_, rfl, b, _, 0, _, rfl, rfl, hR, hp.at0, rfl, _, rfl, iteB (fun c => ?_) (fun c => ?_)⟩
  · have c' : r.getD 0 "" = "cell" := by simpa using c
    exact q true H (Same.refl _) ⟨fun _ => .inl c', fun _ => rfl⟩
  · have c' : ¬ r.getD 0 "" = "cell" := by simpa using c
    refine ⟨_, rfl, b, r, rfl, hR, hp, fun t1 H1 e1 hT1 => ?_⟩
    rw [lend_end hp c'] at hT1
    refine ⟨_, rfl, t, _, rfl, DGet.t (k := [Sum.inr (place r), Sum.inr (end2 r)]) (e1 _ _ hT) hT1, ?_⟩
    exact q _ H1 e1 ⟨fun z => .inr z, fun z => z.resolve_left c'⟩
end
end K22
namespace K22
open PySem PySem.Spec L2 Mir Kn
theorem ixK {X : Cx} {K : PySem.W.Frag} (h : X.K = K) : IxR X (rIxL K) := by subst h; exact ix_list
open Classical in
noncomputable def fullB (P : List (List Str)) (kv : List (List Key × V)) (n : Nat) : Bool := decide (∃ r, P[n]? = some r ∧ FullR (InT kv) r)
open Classical in
theorem fullB_iff {P : List (List Str)} {kv : List (List Key × V)} {n : Nat} : fullB P kv n = true ↔ ∃ r, P[n]? = some r ∧ FullR (InT kv) r := by
  unfold fullB
  exact ⟨fun z => of_decide_eq_true z, fun z => decide_eq_true z⟩
theorem fullB_eq {P : List (List Str)} {kv : List (List Key × V)} {n : Nat} {r : List Str} {b : Bool} (hn : P[n]? = some r) (hb : b = true ↔ FullR (InT kv) r) : fullB P kv n = b := by
  rw [Bool.eq_iff_iff, fullB_iff, hb]
  constructor
  · rintro ⟨r', h1, h2⟩
    rw [hn] at h1
    cases h1
    exact h2
  · exact fun z => ⟨r, hn, z⟩
structure More (F P : List (List Str)) (xs : List Str) (kv kv' : List (List Key × V)) : Prop where
  tab : Tab xs kv'
  sub : ∀ a b, InT kv a b → InT kv' a b
  sound : (∀ a b, InT kv a b → Un F P a b) → ∀ a b, InT kv' a b → Un F P a b
theorem More.refl {F P : List (List Str)} {xs : List Str} {kv : List (List Key × V)} (T : Tab xs kv) : More F P xs kv kv := ⟨T, fun _ _ z => z, fun h => h⟩
theorem More.put {F P : List (List Str)} {xs : List Str} {kv kv' : List (List Key × V)} (M : More F P xs kv kv') {a b : Str} (ha : a ∈ xs) (hb : b ∈ xs) (hu : (∀ a b, InT kv a b → Un F P a b) → Un F P a b) : More F P xs kv (put2 kv' a b) := by
  refine ⟨M.tab.put ha hb, fun c d h => inT_put2.mpr (.inl (M.sub c d h)), fun h c d hc => ?_⟩
  rcases inT_put2.mp hc with z | ⟨rfl, rfl⟩ | ⟨rfl, rfl⟩
  · exact M.sound h c d z
  · exact hu h
  · exact (un_clo F P).symm _ _ (hu h)
noncomputable def spApart (K : PySem.W.Frag) : Sp := fun vs H Q _ => ∃ (ql ut : Addr) (F P : List (List Str)) (xs : List Str) (kv : List (List Key × V)), vs = [.ref ql, .ref ut] ∧ RowsAt K H ql P ∧ P.length ≤ 6 ∧ (∀ r ∈ P, PoolPart xs r) ∧ xs.length = 6 ∧ ("nil" : Str) ∈ xs ∧ H ut = some (.dT kv) ∧ Tab xs kv ∧
  ∀ kv' H', Kp (· = ut) H H' → H' ut = some (.dT kv') → More F P xs kv kv' → (∀ p ∈ P, FullR (InT kv) p → InT kv' (place p) "nil") → (∀ (i j : Nat) p q, P[i]? = some p → P[j]? = some q → i ≠ j → FullR (InT kv) p → FullR (InT kv) q → InT kv' (place p) (place q)) → Q .non H'
section
variable {P : Program} {w : World} {K : PySem.W.Frag} {mg : Str → Option Value} {base : Heap} {f gE gF gP : Addr} {fd dE dF dP : FuncData}
theorem scApart : FnScope ["_law_parts", "_law_unlike", "_law_full", "_law_k", "_law_j"] ["_law_parts", "_law_unlike"] (defScope sApart) := ⟨rfl, rfl, rfl, by decide +kernel, rfl, by decide +kernel, by decide +kernel⟩
theorem ok_apart (C : Con K mg w) (F : Fun K "_law_places_apart" "_law_places_apart" sApart f fd) (GF : FnOk P w K mg base CX0 2 gF dF ["_law_part", "_law_unlike"] (spIsFull K)) (cF : Cal K mg "_law_is_full" gF dF ["_law_part", "_law_unlike"])
    (GP : FnOk P w K mg base CX0 1 gP dP ["_law_table", "_law_one", "_law_other"] spPut) (cP : Cal K mg "_law_put" gP dP ["_law_table", "_law_one", "_law_other"]) : FnOk P w K mg base CX0 3 f fd ["_law_parts", "_law_unlike"] (spApart K) := by
  refine F.okQ scApart (fun vs H Q E h => ?_) (fun cdv A outer s0 H vs Q E hr h => ?_)
  · obtain ⟨ql, ut, F, P, xs, kv, rfl, _⟩ := h; rfl
  obtain ⟨ql, ut, Fs, Ps, xs, kv, rfl, hQ, hP6, hPW, hx6, hnil, hU, hT, q⟩ := h
  have nd := scApart.nd
  have hr1 := hr.mono (j := 1) (by lia)
  refine ⟨_, qb_cons (qs_setCG ["_law_k", "_law_unlike", "_law_parts"] [1, 0] (i := 2) nd rfl (Or.inl rfl) (qi_range1 rfl C.range (qa_call (qe_callB call_len_seq rfl C.len PySem.boot_len (qa_nm (qv 0) qa_nil)) qa_nil)) (fun _ _ _ _ => (qts_one (qt_val (qe_call GF hr rfl cF.name cF.keep cF.bind .nil pass0 (qa_sub (qe_ix (ixK (K := K) rfl) (qv 2) (qv 0) (fun _ _ => rfl)) (qa_nm (qv 1) qa_nil)))))) (fun _ _ _ _ => (qv 0)))
    (qb_one (qs_for PassesOwn.never rfl (qi_list (qv 2)) (qg_name (i := 3) nd rfl (Or.inl rfl)) (qb_cons (qs_expr (qe_call GP hr1 rfl cP.name cP.keep cP.bind .nil pass0 (qa_nm (qv 1) (qa_sub (qe_ix ix_tup (qe_ix ix_list (qv 0) (qv 3) (fun _ _ => rfl)) qe_int (fun _ _ => rfl)) (qa_str qa_nil)))))
    (qb_one (qs_for PassesOwn.never rfl (qi_list (qv 2)) (qg_name (i := 4) nd rfl (Or.inl rfl)) (qb_one (qs_if (qt_cmpR op_ne (qv 4) (qv 3) (nomark _)) (qb_one (qs_expr (qe_call GP hr1 rfl cP.name cP.keep cP.bind .nil pass0 (qa_nm (qv 1) (qa_sub (qe_ix ix_tup (qe_ix ix_list (qv 0) (qv 3) (fun _ _ => rfl)) qe_int (fun _ _ => rfl)) (qa_sub (qe_ix ix_tup (qe_ix ix_list (qv 0) (qv 4) (fun _ _ => rfl)) qe_int (fun _ _ => rfl)) qa_nil)))))) qb_nil))))))), ?_⟩
  obtain ⟨pas, hpl, hpp⟩ := id hQ
  have hpal := Paired.length hpp
  have hml : (pas.map V.ref).length = Ps.length := by rw [List.length_map]; exact hpal
  refine ⟨_, rfl, ql, _, rfl, .inl (SqL.of hpl), _, rfl, (by rw [hml]; lia), (by rw [hml]; lia), ?_⟩
  rw [hml, Int.toNat_natCast]
  refine comp_keep (List.range Ps.length) (fullB Ps kv) (by rw [← nums_nat]; exact jseq_rng) trivial (by rw [List.length_range]; lia) (fun n hn H2 e2 Q' q' => ?_) (fun n H2 Q' q' => ⟨_, rfl, q'⟩) fun D H1 hD e1 hd1 => ?_
  · have hn' : n < Ps.length := List.mem_range.mp hn
    have hs : Ps[n]? = some Ps[n] := List.getElem?_eq_getElem hn'
    obtain ⟨as, b, hpl2, hat, hR⟩ := part_at (hQ.same e2) hs
    refine ⟨_, rfl, _, rfl, ql, _, _, .ref b, rfl, rfl, SqL.of hpl2, hat, _, rfl, b, ut, _, kv, rfl, hR, (hPW _ (List.getElem_mem hn')).row, e2 _ _ hU, fun c H3 e3 hc => ⟨c, rfl, ?_⟩⟩
    have := q' H3 e3
    rw [fullB_eq hs hc] at this
    exact this
  obtain ⟨fo, hfo⟩ : ∃ fo, (List.range Ps.length).filter (fullB Ps kv) = fo := ⟨_, rfl⟩
  rw [hfo] at hd1
  have hfm : ∀ k, k ∈ fo ↔ ∃ r, Ps[k]? = some r ∧ FullR (InT kv) r := fun k => by
    rw [← hfo, List.mem_filter, fullB_iff]
    exact ⟨fun z => z.2, fun ⟨r, h1, h2⟩ => ⟨List.mem_range.mpr (List.getElem?_eq_some_iff.mp h1).1, r, h1, h2⟩⟩
  have hU1 := e1 _ _ hU
  have hDu : D ≠ ut := ne_of hd1 hU1 (fun z => nomatch z)
  have hQ1 := hQ.same e1
  have kq : ∀ {H3 : Hp}, Kp (· = ut) H1 H3 → RowsAt K H3 ql Ps := fun k => rowsAt_kp hQ1 k fun b hb => ⟨.dT kv, by rw [show b = ut from hb]; exact hU1, .inr (.inl ⟨_, rfl⟩)⟩
  have un_nil : ∀ {r : List Str}, r ∈ Ps → FullR (InT kv) r → (∀ a b, InT kv a b → Un Fs Ps a b) → Un Fs Ps (place r) "nil" := fun hr hf h => (un_clo Fs Ps).nil _ hr (hf.mono h)
  refine ⟨_, rfl, D, rfl, ⟨_, SqL.of hd1⟩, ?_⟩
  refine for_list (xs := fo.map natV) (fun i σ H3 => Kp (· = ut) H1 H3 ∧ ∃ (kv3 : List (List Key × V)) (z3 z4 : Option V), H3 ut = some (.dT kv3) ∧ More Fs Ps xs kv kv3 ∧ (∀ k ∈ fo.take i, ∀ r, Ps[k]? = some r → InT kv3 (place r) "nil" ∧ ∀ j ∈ fo, j ≠ k → ∀ s, Ps[j]? = some s → InT kv3 (place r) (place s)) ∧ σ = [some (.ref ql), some (.ref ut), some (.ref D), z3, z4])
    ⟨fun _ _ z _ => z, kv, none, none, hU1, .refl hT, fun k hk => by simp at hk, rfl⟩ (fun i σ H3 _ pv => SqL.of (pv.1 _ _ hd1 hDu)) ?_ ?_
  · rintro i x σ H3 hx ⟨k3, kv3, z3, z4, hU3, M3, hc3, rfl⟩
    have hil : i < fo.length := by have := (List.getElem?_eq_some_iff.mp hx).1; rw [List.length_map] at this; exact this
    obtain rfl : x = .int ((fo[i] : Nat) : Int) := by
      rw [List.getElem?_map, List.getElem?_eq_getElem hil] at hx
      exact (Option.some.inj hx).symm
    obtain ⟨r, hr1', hrf⟩ := (hfm _).mp (List.getElem_mem hil)
    have hrP := List.mem_of_getElem? hr1'
    have hrW := hPW r hrP
    obtain ⟨as3, b3, hpl3, hat3, hR3⟩ := part_at (kq k3) hr1'
    have hl3 := M3.tab.len
    rw [hx6] at hl3
    refine ⟨_, rfl, _, rfl, _, rfl, ql, _, _, .ref b3, rfl, rfl, SqL.of hpl3, hat3, b3, _, 1, _, rfl, rfl, hR3, hrW.row.at1, ut, kv3, place r, "nil", rfl, hU3, by lia, fun H4 k4 hU4 => ?_⟩
    have M4 : More Fs Ps xs kv (put2 kv3 (place r) "nil") := M3.put hrW.place hnil (un_nil hrP hrf)
    have k14 : Kp (· = ut) H1 H4 := fun b o hb hn => k4 b o (k3 b o hb hn) hn
    have hc4 : ∀ k ∈ fo.take i, ∀ r', Ps[k]? = some r' → InT (put2 kv3 (place r) "nil") (place r') "nil" ∧ ∀ j ∈ fo, j ≠ k → ∀ s, Ps[j]? = some s → InT (put2 kv3 (place r) "nil") (place r') (place s) := fun k hk r' hr' => by
      obtain ⟨g1, g2⟩ := hc3 k hk r' hr'
      exact ⟨inT_put2.mpr (.inl g1), fun j hj hjk s hs => inT_put2.mpr (.inl (g2 j hj hjk s hs))⟩
    have hn4 : InT (put2 kv3 (place r) "nil") (place r) "nil" := inT_put2.mpr (.inr (.inl ⟨rfl, rfl⟩))
    generalize put2 kv3 (place r) "nil" = kv4 at hU4 M4 hc4 hn4
    clear hc3 M3 hl3 hU3
    refine ⟨_, rfl, D, rfl, ⟨_, SqL.of (k14 _ _ hd1 hDu)⟩, ?_⟩
    refine for_list (xs := fo.map natV) (fun j σ H5 => Kp (· = ut) H1 H5 ∧ ∃ (kv5 : List (List Key × V)) (z4 : Option V), H5 ut = some (.dT kv5) ∧ More Fs Ps xs kv kv5 ∧ (∀ a b, InT kv4 a b → InT kv5 a b) ∧ (∀ j' ∈ fo.take j, j' ≠ fo[i] → ∀ s, Ps[j']? = some s → InT kv5 (place r) (place s)) ∧ σ = [some (.ref ql), some (.ref ut), some (.ref D), some (.int ((fo[i] : Nat) : Int)), z4])
      ⟨k14, kv4, _, hU4, M4, fun _ _ z => z, fun j' hj' => by simp at hj', rfl⟩ (fun j σ H5 _ pv => SqL.of (pv.1 _ _ hd1 hDu)) ?_ ?_
    · rintro j x σ H5 hx ⟨k5, kv5, z4, hU5, M5, hs5, hc5, rfl⟩
      have hjl : j < fo.length := by have := (List.getElem?_eq_some_iff.mp hx).1; rw [List.length_map] at this; exact this
      obtain rfl : x = .int ((fo[j] : Nat) : Int) := by
        rw [List.getElem?_map, List.getElem?_eq_getElem hjl] at hx
        exact (Option.some.inj hx).symm
      have et : fo.take (j + 1) = fo.take j ++ [fo[j]] := by rw [List.take_add_one, List.getElem?_eq_getElem hjl]; rfl
      refine ⟨_, rfl, _, rfl, rfl, _, rfl, iteB (fun c => ?_) (fun c => ?_)⟩
      · have c' : fo[j] ≠ fo[i] := fun z => by rw [z] at c; simp at c
        obtain ⟨s, hs1, hsf⟩ := (hfm _).mp (List.getElem_mem hjl)
        have hsP := List.mem_of_getElem? hs1
        have hsW := hPW s hsP
        obtain ⟨as5, b5, hpl5, hat5, hR5⟩ := part_at (kq k5) hr1'
        obtain ⟨as6, b6, hpl6, hat6, hR6⟩ := part_at (kq k5) hs1
        have hl5 := M5.tab.len
        rw [hx6] at hl5
        refine ⟨_, rfl, _, rfl, _, rfl, ql, _, _, .ref b5, rfl, rfl, SqL.of hpl5, hat5, b5, _, 1, _, rfl, rfl, hR5, hrW.row.at1, _, rfl, _, rfl, ql, _, _, .ref b6, rfl, rfl, SqL.of hpl6, hat6, b6, _, 1, _, rfl, rfl, hR6, hsW.row.at1, ut, kv5, place r, place s, rfl, hU5, by lia, fun H6 k6 hU6 => ?_⟩
        refine ⟨fun b o hb hn => k6 b o (k5 b o hb hn) hn, _, _, hU6, M5.put hrW.place hsW.place (fun h => (un_clo Fs Ps).two _ _ r s hr1' hs1 (Ne.symm c') (hrf.mono h) (hsf.mono h)), fun a b z => inT_put2.mpr (.inl (hs5 a b z)), fun j' hj' hne s' hs' => ?_, rfl⟩
        rw [et] at hj'
        rcases List.mem_append.mp hj' with z | z
        · exact inT_put2.mpr (.inl (hc5 j' z hne s' hs'))
        · rw [List.mem_singleton.mp z, hs1] at hs'
          cases hs'
          exact inT_put2.mpr (.inr (.inl ⟨rfl, rfl⟩))
      · have c' : fo[j] = fo[i] := by
          have : ((fo[j] : Nat) : Int) = ((fo[i] : Nat) : Int) := by simpa using c
          lia
        refine ⟨k5, kv5, _, hU5, M5, hs5, fun j' hj' hne s' hs' => ?_, rfl⟩
        rw [et] at hj'
        rcases List.mem_append.mp hj' with z | z
        · exact hc5 j' z hne s' hs'
        · exact absurd ((List.mem_singleton.mp z).trans c') hne
    · rintro σ H5 ⟨k5, kv5, z4, hU5, M5, hs5, hc5, rfl⟩
      rw [List.length_map, List.take_length] at hc5
      refine ⟨k5, kv5, _, _, hU5, M5, fun k hk r' hr' => ?_, rfl⟩
      rw [List.take_add_one, List.getElem?_eq_getElem hil] at hk
      rcases List.mem_append.mp hk with z | z
      · obtain ⟨g1, g2⟩ := hc4 k z r' hr'
        exact ⟨hs5 _ _ g1, fun j hj hjk s hs => hs5 _ _ (g2 j hj hjk s hs)⟩
      · have ek : k = fo[i] := by simpa using z
        subst ek
        rw [hr1'] at hr'
        cases hr'
        exact ⟨hs5 _ _ hn4, hc5⟩
  · rintro σ H3 ⟨k3, kv3, z3, z4, hU3, M3, hc3, rfl⟩
    rw [List.length_map, List.take_length] at hc3
    refine q kv3 H3 (fun b o hb hn => k3 b o (e1 b o hb) hn) hU3 M3 (fun p hp hf => ?_) (fun i j p s hi hj hne hfp hfs => ?_)
    · obtain ⟨k, hk⟩ := List.getElem?_of_mem hp
      exact (hc3 k ((hfm k).mpr ⟨p, hk, hf⟩) p hk).1
    · exact (hc3 i ((hfm i).mpr ⟨p, hi, hfp⟩) p hi).2 j ((hfm j).mpr ⟨s, hj, hfs⟩) (Ne.symm hne) s hj
end
end K22
namespace K22
open PySem PySem.Spec L2 Mir Kn
noncomputable abbrev sKnownL : Stmt := top 16
theorem inT_put1 {kv : List (List Key × V)} {a b c d : Str} : InT (putK kv [Sum.inr a, Sum.inr b] (.bl true)) c d ↔ InT kv c d ∨ (c = a ∧ d = b) := by
  unfold InT
  rw [valV_put]
  have e1 : ∀ x y z w' : Str, ([Sum.inr x, Sum.inr y] : List Key) = [Sum.inr z, Sum.inr w'] ↔ x = z ∧ y = w' := fun x y z w' => by simp
  by_cases c2 : c = a ∧ d = b
  · rw [if_pos ((e1 _ _ _ _).mpr c2)]
    exact ⟨fun _ => .inr c2, fun _ => rfl⟩
  · rw [if_neg (fun z => c2 ((e1 _ _ _ _).mp z))]
    exact ⟨fun z => .inl z, fun z => z.elim id (fun x => absurd x c2)⟩
theorem Tab.put1 {xs : List Str} {kv : List (List Key × V)} (T : Tab xs kv) {a : Str} (ha : a ∈ xs) : Tab xs (putK kv [Sum.inr a, Sum.inr a] (.bl true)) := by
  obtain ⟨n1, p1⟩ := putK_keys (k := [Sum.inr a, Sum.inr a]) (v := V.bl true) T.nd
  refine ⟨fun q hq => ?_, n1, fun c d h => ?_⟩
  · rcases p1 q hq with z | ⟨p, hp, z⟩
    · exact ⟨a, a, z, ha, ha⟩
    · obtain ⟨c, d, e, hc, hd⟩ := T.pr p hp
      exact ⟨c, d, z.trans e, hc, hd⟩
  · rcases inT_put1.mp h with z | z
    · exact inT_put1.mpr (.inl (T.sym _ _ z))
    · exact inT_put1.mpr (.inr ⟨z.2, z.1⟩)
theorem Tab.mono_len {xs : List Str} {kv kv' : List (List Key × V)} (T : Tab xs kv) (hs : ∀ a b, InT kv a b → InT kv' a b) : kv.length ≤ kv'.length := by
  have := nd_lenG (l := kv.map (·.1)) (m := kv'.map (·.1)) T.nd fun x hx => by
    obtain ⟨q, hq, rfl⟩ := List.mem_map.mp hx
    obtain ⟨a', b', e', _, _⟩ := T.pr q hq
    rw [e']
    exact inT_key.mp (hs a' b' (inT_key.mpr (by rw [← e']; exact List.mem_map.mpr ⟨q, hq, rfl⟩)))
  rw [List.length_map, List.length_map] at this
  exact this
theorem inT_nil {a b : Str} : ¬ InT [] a b := fun h => by unfold InT at h; cases h
theorem tab_nil (xs : List Str) : Tab xs [] := ⟨fun q hq => by simp at hq, .nil, fun a b h => by unfold InT at h; cases h⟩
structure Two (F P : List (List Str)) (xs : List Str) (ka ku : List (List Key × V)) : Prop where
  ta : Tab xs ka
  tu : Tab xs ku
  sa : ∀ a b, InT ka a b → Conn F a b
  su : ∀ a b, InT ku a b → Un F P a b
  self : ∀ a ∈ xs, InT ka a a
  is_ : ∀ u v, [("is" : Str), u, v] ∈ F → InT ka u v
  not_ : ∀ u v, [("not" : Str), u, v] ∈ F → InT ku u v
structure Closed (P : List (List Str)) (ka ku : List (List Key × V)) : Prop where
  tr : ∀ a b c, InT ka a b → InT ka b c → InT ka a c
  un : ∀ a b c, InT ka a b → InT ku b c → InT ku a c
  nil : ∀ p ∈ P, FullR (InT ku) p → InT ku (place p) "nil"
  two : ∀ (i j : Nat) p q, P[i]? = some p → P[j]? = some q → i ≠ j → FullR (InT ku) p → FullR (InT ku) q → InT ku (place p) (place q)
structure Grow (F P : List (List Str)) (xs : List Str) (ka ku1 ka' ku' : List (List Key × V)) : Prop where
  ta : Tab xs ka'
  tu : Tab xs ku'
  sa : ∀ a b, InT ka' a b → Conn F a b
  su : ∀ a b, InT ku' a b → Un F P a b
  suba : ∀ a b, InT ka a b → InT ka' a b
  subu : ∀ a b, InT ku1 a b → InT ku' a b
theorem Grow.puta {F P : List (List Str)} {xs : List Str} {ka ku1 ka' ku' : List (List Key × V)} (G : Grow F P xs ka ku1 ka' ku') {x z : Str} (hx : x ∈ xs) (hz : z ∈ xs) (c : Conn F x z) : Grow F P xs ka ku1 (put2 ka' x z) ku' := by
  refine ⟨G.ta.put hx hz, G.tu, fun a b h => ?_, G.su, fun a b h => inT_put2.mpr (.inl (G.suba a b h)), G.subu⟩
  rcases inT_put2.mp h with w | ⟨rfl, rfl⟩ | ⟨rfl, rfl⟩
  · exact G.sa a b w
  · exact c
  · exact c.symm
theorem Grow.putu {F P : List (List Str)} {xs : List Str} {ka ku1 ka' ku' : List (List Key × V)} (G : Grow F P xs ka ku1 ka' ku') {x z : Str} (hx : x ∈ xs) (hz : z ∈ xs) (c : Un F P x z) : Grow F P xs ka ku1 ka' (put2 ku' x z) := by
  refine ⟨G.ta, G.tu.put hx hz, G.sa, fun a b h => ?_, G.suba, fun a b h => inT_put2.mpr (.inl (G.subu a b h))⟩
  rcases inT_put2.mp h with w | ⟨rfl, rfl⟩ | ⟨rfl, rfl⟩
  · exact G.su a b w
  · exact c
  · exact (un_clo F P).symm _ _ c
noncomputable def Proc (xs : List Str) (ka ku : List (List Key × V)) (i : Nat) (ka' ku' : List (List Key × V)) : Prop := ∀ q ∈ ka.take i, ∀ a b : Str, q.1 = [Sum.inr a, Sum.inr b] → ∀ c ∈ xs, (InT ka b c → InT ka' a c) ∧ (InT ku b c → InT ku' a c)
theorem Proc.mono {xs : List Str} {ka ku : List (List Key × V)} {i : Nat} {ka' ku' ka2 ku2 : List (List Key × V)} (h : Proc xs ka ku i ka' ku') (h1 : ∀ a b, InT ka' a b → InT ka2 a b) (h2 : ∀ a b, InT ku' a b → InT ku2 a b) : Proc xs ka ku i ka2 ku2 := fun q hq a b e c hc => ⟨fun z => h1 _ _ ((h q hq a b e c hc).1 z), fun z => h2 _ _ ((h q hq a b e c hc).2 z)⟩
theorem conn_in {F P : List (List Str)} {xs : List Str} {ka ku : List (List Key × V)} (T : Two F P xs ka ku) (C : Closed P ka ku) {a b : Str} (c : Conn F a b) : a = b ∨ InT ka a b := by
  induction c with
  | refl x => exact .inl rfl
  | fact h => exact .inr (T.is_ _ _ h)
  | symm _ ih => exact ih.imp Eq.symm (T.ta.sym _ _)
  | trans _ _ i1 i2 =>
    rcases i1 with rfl | i1
    · exact i2
    · rcases i2 with rfl | i2
      · exact .inr i1
      · exact .inr (C.tr _ _ _ i1 i2)
theorem un_in {F P : List (List Str)} {xs : List Str} {ka ku : List (List Key × V)} (T : Two F P xs ka ku) (C : Closed P ka ku) {a b : Str} (u : Un F P a b) : InT ku a b := by
  refine u _ ⟨T.not_, T.tu.sym, fun a b c hc h => ?_, C.nil, C.two⟩
  rcases conn_in T C hc with rfl | z
  · exact h
  · exact C.un _ _ _ z h
noncomputable def spKnownL (K : PySem.W.Frag) : Sp := fun vs H Q _ => ∃ (fl ql pl : Addr) (F P : List (List Str)) (xs : List Str), vs = [.ref fl, .ref ql, .ref pl] ∧ RowsAt K H fl F ∧ F.length ≤ 8 ∧ (∀ r ∈ F, PoolRow xs r) ∧ RowsAt K H ql P ∧ P.length ≤ 6 ∧ (∀ r ∈ P, PoolPart xs r) ∧ H pl = some (.lst (xs.map V.str)) ∧ xs.length = 6 ∧ ("nil" : Str) ∈ xs ∧
  ∀ t at_ ut ka ku H', Same H H' → H' t = some (.tup [.ref at_, .ref ut]) → H' at_ = some (.dT ka) → H' ut = some (.dT ku) → (∀ a ∈ xs, ∀ b, InT ka a b ↔ Conn F a b) → (∀ a b, InT ku a b ↔ Un F P a b) → Tab xs ku → Q (.ref t) H'
noncomputable def tIfT (t : Nat) : TS := fun D σ H => ∃ (tt : Addr) (kv : List (List Key × V)) (a b c : Str), σ[t]? = some (some (.ref tt)) ∧ σ[5]? = some (some (.str a)) ∧ σ[7]? = some (some (.str b)) ∧ σ[9]? = some (some (.str c)) ∧ H tt = some (.dT kv) ∧ kv.length ≤ 900 ∧
  (¬ InT kv b c → ∀ H', Same H H' → D.nx σ H') ∧ (InT kv b c → ∀ H', Kp (· = tt) H H' → H' tt = some (.dT (put2 kv a c)) → D.nx σ H')
section
variable {P : Program} {w : World} {K : PySem.W.Frag} {mg : Str → Option Value} {base : Heap} {f gA gP : Addr} {fd dA dP : FuncData}
theorem scKnownL : FnScope ["_law_facts", "_law_parts", "_law_pool", "_law_alike", "_law_unlike", "_law_a", "_law_word", "_law_b", "_law_many", "_law_c"] ["_law_facts", "_law_parts", "_law_pool"] (defScope sKnownL) := ⟨rfl, rfl, rfl, by decide +kernel, rfl, by decide +kernel, by decide +kernel⟩
theorem ok_knownL (C : Con K mg w) (F : Fun K "_law_known" "_law_known" sKnownL f fd) (GA : FnOk P w K mg base CX0 3 gA dA ["_law_parts", "_law_unlike"] (spApart K)) (cA : Cal K mg "_law_places_apart" gA dA ["_law_parts", "_law_unlike"])
    (GP : FnOk P w K mg base CX0 1 gP dP ["_law_table", "_law_one", "_law_other"] spPut) (cP : Cal K mg "_law_put" gP dP ["_law_table", "_law_one", "_law_other"]) : FnOk P w K mg base CX0 4 f fd ["_law_facts", "_law_parts", "_law_pool"] (spKnownL K) := by
  refine F.okQ scKnownL (fun vs H Q E h => ?_) (fun cdv A outer s0 H vs Q E hr h => ?_)
  · obtain ⟨fl, ql, pl, F, P, xs, rfl, _⟩ := h; rfl
  obtain ⟨fl, ql, pl, Fs, Ps, xs, rfl, hF, hF8, hFr, hQ, hP6, hPW, hX, hx6, hnil, q⟩ := h
  have nd := scKnownL.nd
  have hu1 := hu_of hr
  have hr1 := hr.mono (j := 1) (by lia)
  refine ⟨_, qb_cons (qs_set (i := 3) nd rfl (Or.inl rfl) qe_dnewT)
    (qb_cons (qs_set (i := 4) nd rfl (Or.inl rfl) qe_dnewT)
    (qb_cons (qs_for PassesOwn.never rfl (qi_list (qv 2)) (qg_name (i := 5) nd rfl (Or.inl rfl)) (qb_one (qs_dput hu1 (qv 3) (qe_tup (qa_nm (qv 5) (qa_nm (qv 5) qa_nil))) qe_bl)))
    (qb_cons (qs_for PassesOwn.never rfl (qi_list (qv 0)) (qg_tup3 (qg_name (i := 6) nd rfl (Or.inl rfl)) (qg_name (i := 5) nd rfl (Or.inl rfl)) (qg_name (i := 7) nd rfl (Or.inl rfl))) (qb_one (qs_expr (qe_call GP hr1 rfl cP.name cP.keep cP.bind .nil pass0 (qa_sub (qe_ix ix_list (qe_lst (qa_nm (qv 4) (qa_nm (qv 3) qa_nil))) (qe_callTy call_int_bl rfl C.int PyProof.Rows.boot_int (qa_cons (qe_cmpR op_eq (qv 6) qe_str (nomark _)) qa_nil)) (fun _ _ => rfl)) (qa_nm (qv 5) (qa_nm (qv 7) qa_nil)))))))
    (qb_cons (qs_set (i := 8) nd rfl (Or.inl rfl) qe_int)
    (qb_cons (qs_while PassesOwn.never (qt_cmpR op_lt (qv 8) (qe_op op_add (qe_callB call_lenT rfl C.len PySem.boot_len (qa_nm (qv 3) qa_nil)) (qe_callB call_lenT rfl C.len PySem.boot_len (qa_nm (qv 4) qa_nil))) (nomark _)) (qb_cons (qs_set (i := 8) nd rfl (Or.inl rfl) (qe_op op_add (qe_callB call_lenT rfl C.len PySem.boot_len (qa_nm (qv 3) qa_nil)) (qe_callB call_lenT rfl C.len PySem.boot_len (qa_nm (qv 4) qa_nil))))
    (qb_cons (qs_expr (qe_call GA hr rfl cA.name cA.keep cA.bind .nil pass0 (qa_nm (qv 1) (qa_nm (qv 4) qa_nil))))
    (qb_one (qs_for PassesOwn.never rfl (qi_list (qe_callTy (call_list_dictT rfl) rfl C.list PyProof.Rows.boot_list (qa_nm (qv 3) qa_nil))) (qg_tup2 (qg_name (i := 5) nd rfl (Or.inl rfl)) (qg_name (i := 7) nd rfl (Or.inl rfl))) (qb_one (qs_for PassesOwn.never rfl (qi_list (qv 2)) (qg_name (i := 9) nd rfl (Or.inl rfl)) (qb_cons (qs_weak (t' := tIfT 3) (qs_if (qt_din hu1 (qe_tup (qa_nm (qv 7) (qa_nm (qv 9) qa_nil))) (qv 3)) (qb_one (qs_expr (qe_call GP hr1 rfl cP.name cP.keep cP.bind .nil pass0 (qa_nm (qv 3) (qa_nm (qv 5) (qa_nm (qv 9) qa_nil)))))) qb_nil) (fun D σ H hh => by
      obtain ⟨tt, kv, a, b, c, g3, g5, g7, g9, hT, hl, no, yes⟩ := hh
      refine ⟨_, g7, _, g9, (show 2 ≤ sizeLine by decide), fun t ht => ?_⟩
      have s1 := same_new ht (.tup [.str b, .str c])
      refine ⟨_, g3, tt, _, rfl, DGet.t (k := [Sum.inr b, Sum.inr c]) (s1 _ _ hT) upd_same, _, rfl, iteB (fun cc => ?_) (fun cc => no (fun z => by rw [show (valV kv [Sum.inr b, Sum.inr c]).isSome = true from z] at cc; cases cc) _ s1)⟩
      exact ⟨_, g3, _, g5, _, g9, tt, kv, a, c, rfl, s1 _ _ hT, hl, fun H' k' e' => yes cc H' (fun b o hb hn => k' b o (s1 b o hb) hn) e'⟩))
    (qb_one (qs_weak (t' := tIfT 4) (qs_if (qt_din hu1 (qe_tup (qa_nm (qv 7) (qa_nm (qv 9) qa_nil))) (qv 4)) (qb_one (qs_expr (qe_call GP hr1 rfl cP.name cP.keep cP.bind .nil pass0 (qa_nm (qv 4) (qa_nm (qv 5) (qa_nm (qv 9) qa_nil)))))) qb_nil) (fun D σ H hh => by
      obtain ⟨tt, kv, a, b, c, g3, g5, g7, g9, hT, hl, no, yes⟩ := hh
      refine ⟨_, g7, _, g9, (show 2 ≤ sizeLine by decide), fun t ht => ?_⟩
      have s1 := same_new ht (.tup [.str b, .str c])
      refine ⟨_, g3, tt, _, rfl, DGet.t (k := [Sum.inr b, Sum.inr c]) (s1 _ _ hT) upd_same, _, rfl, iteB (fun cc => ?_) (fun cc => no (fun z => by rw [show (valV kv [Sum.inr b, Sum.inr c]).isSome = true from z] at cc; cases cc) _ s1)⟩
      exact ⟨_, g3, _, g5, _, g9, tt, kv, a, c, rfl, s1 _ _ hT, hl, fun H' k' e' => yes cc H' (fun b o hb hn => k' b o (s1 b o hb) hn) e'⟩)))))))))))
    (qb_one (qs_ret (qe_tup (qa_nm (qv 3) (qa_nm (qv 4) qa_nil)))))))))), ?_⟩
  intro at_ hat0
  have s1 := same_new hat0 (.dT [])
  have hat1 : (upd H at_ (.dT [])) at_ = some (.dT []) := upd_same
  generalize upd H at_ (.dT []) = H1 at s1 hat1 ⊢
  intro ut hut1
  have s2 := s1.trans (same_new hut1 (.dT []))
  have hut0 : H ut = none := by
    cases hz : H ut with
    | none => rfl
    | some o => rw [s1 _ _ hz] at hut1; cases hut1
  have hau : at_ ≠ ut := ne_of_none hat1 hut1
  have ha2 : (upd H1 ut (.dT [])) at_ = some (.dT []) := by rw [upd_ne hau]; exact hat1
  have hu2 : (upd H1 ut (.dT [])) ut = some (.dT []) := upd_same
  generalize upd H1 ut (.dT []) = H2 at s2 ha2 hu2 ⊢
  have ka_ : ∀ {Hx Hy : Hp}, Same H Hx → Kp (· = at_) Hx Hy → Same H Hy := fun e k b o hb => k b o (e b o hb) (fun z => by have z' : b = at_ := z; rw [z', hat0] at hb; cases hb)
  have ku_ : ∀ {Hx Hy : Hp}, Same H Hx → Kp (· = ut) Hx Hy → Same H Hy := fun e k b o hb => k b o (e b o hb) (fun z => by have z' : b = ut := z; rw [z', hut0] at hb; cases hb)
  refine ⟨_, rfl, pl, rfl, ⟨_, SqL.of (s2 _ _ hX)⟩, ?_⟩
  refine for_list (xs := xs.map V.str) (fun i σ H3 => Same H H3 ∧ ∃ (ka : List (List Key × V)) (z5 : Option V), H3 at_ = some (.dT ka) ∧ H3 ut = some (.dT []) ∧ Tab xs ka ∧ (∀ a b, InT ka a b → a = b) ∧ (∀ a ∈ xs.take i, InT ka a a) ∧ σ = [some (.ref fl), some (.ref ql), some (.ref pl), some (.ref at_), some (.ref ut), z5, none, none, none, none])
    ⟨s2, [], none, ha2, hu2, tab_nil xs, fun a b h => absurd h inT_nil, (fun a ha => by simp at ha), rfl⟩ (fun i σ H3 _ pv => SqL.of (pv.1 _ _ hX)) ?_ ?_
  · rintro i x σ H3 hi ⟨e3, ka, z5, ha3, hu3, T3, se3, sl3, rfl⟩
    obtain ⟨y, hy, rfl⟩ : ∃ y, xs[i]? = some y ∧ x = .str y := by
      rw [List.getElem?_map] at hi
      cases hz : xs[i]? with
      | none => rw [hz] at hi; cases hi
      | some nm => rw [hz] at hi; exact ⟨nm, rfl, (Option.some.inj hi).symm⟩
    have hyx := List.mem_of_getElem? hy
    have hl3 := T3.len
    rw [hx6] at hl3
    refine ⟨_, rfl, _, rfl, _, rfl, (show 2 ≤ sizeLine by decide), fun t1 ht1 => ?_⟩
    have s4 := same_new ht1 (.tup [.str y, .str y])
    refine ⟨at_, _, rfl, DPut.t (k := [Sum.inr y, Sum.inr y]) (s4 _ _ ha3) upd_same (lt_line (by lia)), ?_⟩
    refine ⟨ka_ (e3.trans s4) (fun b o hb hn => by rw [upd_ne hn]; exact hb), _, _, upd_same, by rw [upd_ne (Ne.symm hau)]; exact s4 _ _ hu3, T3.put1 hyx, fun a b h => ?_, fun a ha => ?_, rfl⟩
    · rcases inT_put1.mp h with z | z
      · exact se3 a b z
      · rw [z.1, z.2]
    · rw [List.take_add_one, hy] at ha
      rcases List.mem_append.mp ha with z | z
      · exact inT_put1.mpr (.inl (sl3 a z))
      · have : a = y := by simpa using z
        exact inT_put1.mpr (.inr ⟨this, this⟩)
  rintro σ H3 ⟨e3, ka0, z5, ha3, hu3, T3, se3, sl3, rfl⟩
  rw [List.length_map, List.take_length] at sl3
  obtain ⟨fas, hfl, hfp⟩ := id hF
  have hfal := Paired.length hfp
  refine ⟨_, rfl, fl, rfl, ⟨_, SqL.of (e3 _ _ hfl)⟩, ?_⟩
  refine for_list (xs := fas.map V.ref) (fun i σ H4 => Same H H4 ∧ ∃ (ka ku : List (List Key × V)) (z5 z6 z7 : Option V), H4 at_ = some (.dT ka) ∧ H4 ut = some (.dT ku) ∧ Tab xs ka ∧ Tab xs ku ∧ (∀ a b, InT ka a b → Conn Fs a b) ∧ (∀ a b, InT ku a b → Un Fs Ps a b) ∧ (∀ a ∈ xs, InT ka a a) ∧ (∀ u v, [("is" : Str), u, v] ∈ Fs.take i → InT ka u v) ∧ (∀ u v, [("not" : Str), u, v] ∈ Fs.take i → InT ku u v) ∧ σ = [some (.ref fl), some (.ref ql), some (.ref pl), some (.ref at_), some (.ref ut), z5, z6, z7, none, none])
    ⟨e3, ka0, [], z5, none, none, ha3, hu3, T3, tab_nil xs, (fun a b h => by rw [se3 a b h]; exact .refl b), (fun a b h => absurd h inT_nil), sl3, (fun u v h => by simp at h), (fun u v h => by simp at h), rfl⟩ (fun i σ H4 _ pv => SqL.of (pv.1 _ _ hfl)) ?_ ?_
  · rintro i x σ H4 hi ⟨e4, ka, ku, z5, z6, z7, ha4, hu4, Ta, Tu, sa, su, sl, his, hnot, rfl⟩
    obtain ⟨b', hb, rfl⟩ := ref_at hi
    obtain ⟨r, hr1', hr2'⟩ := Paired.nth hfp hb
    have hrm := List.mem_of_getElem? hr1'
    obtain ⟨k, u, v, rfl, hk, hum, hvm⟩ := hFr r hrm
    have htk : Fs.take (i + 1) = Fs.take i ++ [[k, u, v]] := by rw [List.take_add_one, hr1']; rfl
    have hla := Ta.len
    have hlu := Tu.len
    rw [hx6] at hla hlu
    refine ⟨b', _, rfl, hr2'.same e4, rfl, _, _, rfl, _, _, rfl, _, _, rfl, rfl, ?_⟩
    refine ⟨_, rfl, _, rfl, (show 2 ≤ sizeLine by decide), fun l5 hl5 => ?_⟩
    have s5 := same_new hl5 (.lst [.ref ut, .ref at_])
    refine ⟨_, rfl, rfl, _, rfl, ?_⟩
    by_cases hc : k = "is"
    · subst hc
      have ec : decide (V.str "is" = V.str "is") = true := by simp
      refine ⟨l5, _, _, .ref at_, rfl, rfl, SqL.of upd_same, by rw [ec]; rfl, _, rfl, _, rfl, at_, ka, u, v, rfl, s5 _ _ ha4, by lia, fun H6 k6 ha6 => ?_⟩
      refine ⟨ka_ (e4.trans s5) k6, _, ku, _, _, _, ha6, k6 _ _ (s5 _ _ hu4) (Ne.symm hau), Ta.put hum hvm, Tu, fun a b h => ?_, su, fun a ha => inT_put2.mpr (.inl (sl a ha)), fun u' v' h => ?_, fun u' v' h => ?_, rfl⟩
      · rcases inT_put2.mp h with z | ⟨rfl, rfl⟩ | ⟨rfl, rfl⟩
        · exact sa a b z
        · exact .fact hrm
        · exact (Conn.fact hrm).symm
      · rw [htk] at h
        rcases List.mem_append.mp h with z | z
        · exact inT_put2.mpr (.inl (his u' v' z))
        · have z' := List.mem_singleton.mp z
          simp only [List.cons.injEq, and_true, true_and] at z'
          exact inT_put2.mpr (.inr (.inl z'))
      · rw [htk] at h
        rcases List.mem_append.mp h with z | z
        · exact hnot u' v' z
        · have z' := List.mem_singleton.mp z
          simp only [List.cons.injEq, and_true] at z'
          exact absurd z'.1 (by decide +kernel)
    · have hk' : k = "not" := hk.resolve_left hc
      subst hk'
      have ec : decide (V.str "not" = V.str "is") = false := by
        rw [decide_eq_false_iff_not]
        intro z
        exact hc (V.str.inj z)
      refine ⟨l5, _, _, .ref ut, rfl, rfl, SqL.of upd_same, by rw [ec]; rfl, _, rfl, _, rfl, ut, ku, u, v, rfl, s5 _ _ hu4, by lia, fun H6 k6 hu6 => ?_⟩
      refine ⟨ku_ (e4.trans s5) k6, ka, _, _, _, _, k6 _ _ (s5 _ _ ha4) hau, hu6, Ta, Tu.put hum hvm, sa, fun a b h => ?_, sl, fun u' v' h => ?_, fun u' v' h => ?_, rfl⟩
      · rcases inT_put2.mp h with z | ⟨rfl, rfl⟩ | ⟨rfl, rfl⟩
        · exact su a b z
        · exact (un_clo Fs Ps).fact _ _ hrm
        · exact (un_clo Fs Ps).symm _ _ ((un_clo Fs Ps).fact _ _ hrm)
      · rw [htk] at h
        rcases List.mem_append.mp h with z | z
        · exact his u' v' z
        · have z' := List.mem_singleton.mp z
          simp only [List.cons.injEq, and_true] at z'
          exact absurd z'.1 (by decide +kernel)
      · rw [htk] at h
        rcases List.mem_append.mp h with z | z
        · exact inT_put2.mpr (.inl (hnot u' v' z))
        · have z' := List.mem_singleton.mp z
          simp only [List.cons.injEq, and_true, true_and] at z'
          exact inT_put2.mpr (.inr (.inl z'))
  rintro σ H4 ⟨e4, ka, ku, z5, z6, z7, ha4, hu4, Ta, Tu, sa, su, sl, his, hnot, rfl⟩
  rw [List.length_map, hfal, List.take_length] at his hnot
  have W0 : Two Fs Ps xs ka ku := ⟨Ta, Tu, sa, su, sl, his, hnot⟩
  clear Ta Tu sa su sl his hnot T3 se3 sl3 ha3 hu3 e3 ha2 hu2 s2
  refine while_n (fun m σ H5 => Same H H5 ∧ ∃ (ka ku : List (List Key × V)) (n : Nat) (z5 z6 z7 z9 : Option V), H5 at_ = some (.dT ka) ∧ H5 ut = some (.dT ku) ∧ Two Fs Ps xs ka ku ∧ n ≤ ka.length + ku.length ∧ (n = ka.length + ku.length → Closed Ps ka ku) ∧ m = 100 - n ∧ σ = [some (.ref fl), some (.ref ql), some (.ref pl), some (.ref at_), some (.ref ut), z5, z6, z7, some (.int (n : Int)), z9])
    (m0 := 100) ⟨e4, ka, ku, 0, z5, z6, z7, none, ha4, hu4, W0, Nat.zero_le _, fun hz => ?_, rfl, rfl⟩ ?_ ?_
  · have := W0.self _ hnil
    have hk0 : ka = [] := List.eq_nil_of_length_eq_zero (by lia)
    rw [hk0] at this
    unfold InT at this
    cases this
  · rintro m σ H5 ⟨e5, ka, ku, n, z5, z6, z7, z9, ha5, hu5, W, hn, hcl, rfl, rfl⟩
    refine ⟨_, rfl, _, rfl, at_, ka, rfl, ha5, _, rfl, ut, ku, rfl, hu5, _, _, rfl, rfl, _, _, rfl, rfl, _, rfl, iteB (fun c => ?_) (fun c => ?_)⟩
    · have c' : n < ka.length + ku.length := by have := of_decide_eq_true c; lia
      have hla := W.ta.len
      have hlu := W.tu.len
      rw [hx6] at hla hlu
      refine ⟨_, rfl, at_, ka, rfl, ha5, _, rfl, ut, ku, rfl, hu5, _, _, rfl, rfl, ?_⟩
      refine ⟨_, rfl, _, rfl, ql, ut, Fs, Ps, xs, ku, rfl, hQ.same e5, hP6, hPW, hx6, hnil, hu5, W.tu, fun ku1 H6 k6 hu6 M6 n6 t6 => ?_⟩
      have e6 := ku_ e5 k6
      have ha6 := k6 _ _ ha5 hau
      refine ⟨_, rfl, at_, ka, rfl, ha6, fun D bs hD hbs => ⟨D, rfl, ⟨_, SqL.of upd_same⟩, ?_⟩⟩
      have s7 := same_new hD (.lst (bs.map V.ref))
      have hbl := Paired.length hbs
      have stp : ∀ {Hx Hy : Hp} {tt : Addr} {kv : List (List Key × V)}, Hx tt = some (.dT kv) → Kp (· = tt) Hx Hy → Hx D = some (.lst (bs.map V.ref)) → Paired (fun (q : List Key × V) b => Hx b = some (.tup (q.1.map kV))) ka bs → Hy D = some (.lst (bs.map V.ref)) ∧ Paired (fun (q : List Key × V) b => Hy b = some (.tup (q.1.map kV))) ka bs := fun {Hx Hy tt kv} ht k h1 h2 =>
        ⟨k _ _ h1 (fun z => by have z' : D = tt := z; rw [z', ht] at h1; cases h1), Paired.mapP h2 fun q b hb => k _ _ hb (fun z => by have z' : b = tt := z; rw [z', ht] at hb; cases hb)⟩
      have sts : ∀ {Hx Hy : Hp}, Same Hx Hy → Hx D = some (.lst (bs.map V.ref)) → Paired (fun (q : List Key × V) b => Hx b = some (.tup (q.1.map kV))) ka bs → Hy D = some (.lst (bs.map V.ref)) ∧ Paired (fun (q : List Key × V) b => Hy b = some (.tup (q.1.map kV))) ka bs := fun {Hx Hy} k h1 h2 => ⟨k _ _ h1, Paired.mapP h2 fun q b hb => k _ _ hb⟩
      refine for_list (xs := bs.map V.ref) (fun i σ H8 => Same H H8 ∧ H8 D = some (.lst (bs.map V.ref)) ∧ Paired (fun (q : List Key × V) b => H8 b = some (.tup (q.1.map kV))) ka bs ∧ ∃ (ka' ku' : List (List Key × V)) (z5 z6 z7 z9 : Option V), H8 at_ = some (.dT ka') ∧ H8 ut = some (.dT ku') ∧ Grow Fs Ps xs ka ku1 ka' ku' ∧ Proc xs ka ku i ka' ku' ∧ σ = [some (.ref fl), some (.ref ql), some (.ref pl), some (.ref at_), some (.ref ut), z5, z6, z7, some (.int ((ka.length : Int) + (ku.length : Int))), z9])
        ⟨e6.trans s7, upd_same, Paired.mapP hbs fun q b hb => s7 _ _ hb, ka, ku1, _, _, _, _, s7 _ _ ha6, s7 _ _ hu6, ⟨W.ta, M6.tab, W.sa, M6.sound W.su, fun _ _ z => z, fun _ _ z => z⟩, (fun q hq => by simp at hq), rfl⟩ (fun i σ H8 _ pv => SqL.of pv.2.1) ?_ ?_
      · rintro i xv σ H8 hi ⟨e8, hD8, hb8, ka', ku', z5, z6, z7, z9, ha8, hu8, G8, p8, rfl⟩
        obtain ⟨b, hb, rfl⟩ := ref_at hi
        have hil : i < ka.length := by rw [hbl]; exact (List.getElem?_eq_some_iff.mp hb).1
        have hqi : ka[i]? = some ka[i] := List.getElem?_eq_getElem hil
        obtain ⟨x, y, hxy, hx, hy⟩ := W.ta.pr _ (List.getElem_mem hil)
        have hbt := Paired.at2 hb8 hqi hb
        rw [hxy] at hbt
        have hin : InT ka x y := inT_key.mpr (by rw [← hxy]; exact List.mem_map.mpr ⟨_, List.getElem_mem hil, rfl⟩)
        refine ⟨b, [.str x, .str y], rfl, SqT.of hbt, rfl, _, _, rfl, _, _, rfl, rfl, ?_⟩
        refine ⟨_, rfl, pl, rfl, ⟨_, SqL.of (e8 _ _ hX)⟩, ?_⟩
        refine for_list (xs := xs.map V.str) (fun j σ H9 => Same H H9 ∧ H9 D = some (.lst (bs.map V.ref)) ∧ Paired (fun (q : List Key × V) b => H9 b = some (.tup (q.1.map kV))) ka bs ∧ ∃ (ka' ku' : List (List Key × V)) (z6 z9 : Option V), H9 at_ = some (.dT ka') ∧ H9 ut = some (.dT ku') ∧ Grow Fs Ps xs ka ku1 ka' ku' ∧ Proc xs ka ku i ka' ku' ∧ (∀ c ∈ xs.take j, (InT ka y c → InT ka' x c) ∧ (InT ku y c → InT ku' x c)) ∧ σ = [some (.ref fl), some (.ref ql), some (.ref pl), some (.ref at_), some (.ref ut), some (.str x), z6, some (.str y), some (.int ((ka.length : Int) + (ku.length : Int))), z9])
          ⟨e8, hD8, hb8, ka', ku', _, _, ha8, hu8, G8, p8, (fun c hc => by simp at hc), rfl⟩ (fun j σ H9 _ pv => SqL.of (pv.1 _ _ hX)) ?_ ?_
        · clear p8 G8 ha8 hu8 hD8 hb8 e8 ka' ku'
          rintro j zv σ H9 hj ⟨e9, hD9, hb9, ka', ku', z6, z9, ha9, hu9, G9, p9, pj, rfl⟩
          obtain ⟨z, hz, rfl⟩ : ∃ y, xs[j]? = some y ∧ zv = .str y := by
            rw [List.getElem?_map] at hj
            cases hz : xs[j]? with
            | none => rw [hz] at hj; cases hj
            | some nm => rw [hz] at hj; exact ⟨nm, rfl, (Option.some.inj hj).symm⟩
          have hzx := List.mem_of_getElem? hz
          have htk : ∀ c, c ∈ xs.take (j + 1) → c ∈ xs.take j ∨ c = z := fun c hc => by
            rw [List.take_add_one, hz] at hc
            rcases List.mem_append.mp hc with w | w
            · exact .inl w
            · exact .inr (by simpa using w)
          have hl1 := G9.ta.len
          have hl2 := G9.tu.len
          rw [hx6] at hl1 hl2
          have snd : ∀ (ka2 : List (List Key × V)) (H10 : Hp), Same H H10 → H10 D = some (.lst (bs.map V.ref)) → Paired (fun (q : List Key × V) b => H10 b = some (.tup (q.1.map kV))) ka bs → H10 at_ = some (.dT ka2) → H10 ut = some (.dT ku') → Grow Fs Ps xs ka ku1 ka2 ku' → Proc xs ka ku i ka2 ku' → (∀ c ∈ xs.take j, (InT ka y c → InT ka2 x c) ∧ (InT ku y c → InT ku' x c)) → (InT ka y z → InT ka2 x z) → ∀ D' : Ends, (∀ σ H11, (Same H H11 ∧ H11 D = some (.lst (bs.map V.ref)) ∧ Paired (fun (q : List Key × V) b => H11 b = some (.tup (q.1.map kV))) ka bs ∧ ∃ (ka' ku' : List (List Key × V)) (z6 z9 : Option V), H11 at_ = some (.dT ka') ∧ H11 ut = some (.dT ku') ∧ Grow Fs Ps xs ka ku1 ka' ku' ∧ Proc xs ka ku i ka' ku' ∧ (∀ c ∈ xs.take (j + 1), (InT ka y c → InT ka' x c) ∧ (InT ku y c → InT ku' x c)) ∧ σ = [some (.ref fl), some (.ref ql), some (.ref pl), some (.ref at_), some (.ref ut), some (.str x), z6, some (.str y), some (.int ((ka.length : Int) + (ku.length : Int))), z9]) → D'.nx σ H11) →
              tIfT 4 D' [some (.ref fl), some (.ref ql), some (.ref pl), some (.ref at_), some (.ref ut), some (.str x), z6, some (.str y), some (.int ((ka.length : Int) + (ku.length : Int))), some (.str z)] H10 := fun ka2 H10 e10 hD10 hb10 ha10 hu10 G10 p10 pj10 hz10 D' hD' => by
            refine ⟨ut, ku', x, y, z, rfl, rfl, rfl, rfl, hu10, by lia, fun no H11 s11 => ?_, fun yes H11 k11 hu11 => ?_⟩
            · obtain ⟨d1, d2⟩ := sts s11 hD10 hb10
              refine hD' _ _ ⟨e10.trans s11, d1, d2, ka2, ku', _, _, s11 _ _ ha10, s11 _ _ hu10, G10, p10, fun c hc => ?_, rfl⟩
              rcases htk c hc with w | rfl
              · exact pj10 c w
              · exact ⟨hz10, fun w => absurd (G10.subu _ _ (M6.sub _ _ w)) no⟩
            · obtain ⟨d1, d2⟩ := stp hu10 k11 hD10 hb10
              refine hD' _ _ ⟨ku_ e10 k11, d1, d2, ka2, _, _, _, k11 _ _ ha10 hau, hu11, G10.putu hx hzx ((un_clo Fs Ps).conn _ _ _ (W.sa _ _ hin) (G10.su _ _ yes)), p10.mono (fun _ _ w => w) (fun _ _ w => inT_put2.mpr (.inl w)), fun c hc => ?_, rfl⟩
              rcases htk c hc with w | rfl
              · exact ⟨(pj10 c w).1, fun v => inT_put2.mpr (.inl ((pj10 c w).2 v))⟩
              · exact ⟨hz10, fun _ => inT_put2.mpr (.inr (.inl ⟨rfl, rfl⟩))⟩
          refine ⟨at_, ka', x, y, z, rfl, rfl, rfl, rfl, ha9, by lia, fun no H10 s10 => ?_, fun yes H10 k10 ha10 => ?_⟩
          · obtain ⟨d1, d2⟩ := sts s10 hD9 hb9
            exact snd ka' H10 (e9.trans s10) d1 d2 (s10 _ _ ha9) (s10 _ _ hu9) G9 p9 pj (fun w => absurd (G9.suba _ _ w) no) _ (fun _ _ w => w)
          · obtain ⟨d1, d2⟩ := stp ha9 k10 hD9 hb9
            exact snd (put2 ka' x z) H10 (ka_ e9 k10) d1 d2 ha10 (k10 _ _ hu9 (Ne.symm hau)) (G9.puta hx hzx ((W.sa _ _ hin).trans (G9.sa _ _ yes))) (p9.mono (fun _ _ w => inT_put2.mpr (.inl w)) (fun _ _ w => w)) (fun c hc => ⟨fun v => inT_put2.mpr (.inl ((pj c hc).1 v)), (pj c hc).2⟩) (fun _ => inT_put2.mpr (.inr (.inl ⟨rfl, rfl⟩))) _ (fun _ _ w => w)
        · rintro σ H9 ⟨e9, hD9, hb9, ka', ku', z6, z9, ha9, hu9, G9, p9, pj, rfl⟩
          rw [List.length_map, List.take_length] at pj
          refine ⟨e9, hD9, hb9, ka', ku', _, _, _, _, ha9, hu9, G9, fun q hq a b e c hc => ?_, rfl⟩
          rw [List.take_add_one, hqi] at hq
          rcases List.mem_append.mp hq with w | w
          · exact p9 q w a b e c hc
          · have hqe : q = ka[i] := by simpa using w
            rw [hqe, hxy] at e
            simp only [List.cons.injEq, Sum.inr.injEq, and_true] at e
            rw [← e.1, ← e.2]
            exact pj c hc
      · rintro σ H8 ⟨e8, hD8, hb8, ka', ku', z5, z6, z7, z9, ha8, hu8, G8, p8, rfl⟩
        rw [List.length_map, ← hbl, Proc, List.take_length] at p8
        have hsubu : ∀ a b, InT ku a b → InT ku' a b := fun a b h => G8.subu a b (M6.sub a b h)
        have l1 := W.ta.mono_len G8.suba
        have l2 := W.tu.mono_len hsubu
        have proc : ∀ a b c, InT ka a b → c ∈ xs → (InT ka b c → InT ka' a c) ∧ (InT ku b c → InT ku' a c) := fun a b c h hc => by
          obtain ⟨q, hq, e⟩ := List.mem_map.mp (inT_key.mp h)
          exact p8 q hq a b e c hc
        refine ⟨100 - (ka.length + ku.length), by lia, e8, ka', ku', ka.length + ku.length, _, _, _, _, ha8, hu8, ⟨G8.ta, G8.tu, G8.sa, G8.su, fun a ha => G8.suba _ _ (W.self a ha), fun u v h => G8.suba _ _ (W.is_ u v h), fun u v h => hsubu _ _ (W.not_ u v h)⟩, by lia, fun heq => ?_, rfl, rfl⟩
        have ba : ∀ a b, InT ka' a b → InT ka a b := fun a b h => W.ta.stay G8.ta G8.suba (by lia) h
        have bu : ∀ a b, InT ku' a b → InT ku a b := fun a b h => W.tu.stay G8.tu hsubu (by lia) h
        refine ⟨fun a b c h1 h2 => (proc a b c (ba _ _ h1) (G8.ta.words h2).2).1 (ba _ _ h2), fun a b c h1 h2 => (proc a b c (ba _ _ h1) (G8.tu.words h2).2).2 (bu _ _ h2), fun p hp hf => G8.subu _ _ (n6 p hp (hf.mono bu)), fun i j p q hi hj hne h1 h2 => G8.subu _ _ (t6 i j p q hi hj hne (h1.mono bu) (h2.mono bu))⟩
    · have c' : ¬ n < ka.length + ku.length := by have := of_decide_eq_false c; lia
      have Cl := hcl (by lia)
      refine ⟨_, rfl, _, rfl, (show 2 ≤ sizeLine by decide), fun t ht => ?_⟩
      have s6 := same_new ht (.tup [.ref at_, .ref ut])
      refine q t at_ ut ka ku _ (e5.trans s6) upd_same (s6 _ _ ha5) (s6 _ _ hu5) (fun a ha b => ⟨W.sa a b, fun h => ?_⟩) (fun a b => ⟨W.su a b, un_in W Cl⟩) W.tu
      rcases conn_in W Cl h with rfl | z
      · exact W.self a ha
      · exact z
  · rintro σ H1 Q Q' hQ hh
    obtain ⟨v, h1, w1, h2, a1, k1, h3, h4, w2, h5, a2, k2, h6, h7, i1, j1, h8, h9, i2, j2, h10, h11, b, h12, h13⟩ := hh
    exact ⟨v, h1, w1, h2, a1, k1, h3, h4, w2, h5, a2, k2, h6, h7, i1, j1, h8, h9, i2, j2, h10, h11, b, h12, hQ _ _ h13⟩
end
end K22
namespace K22
open PySem PySem.Spec L2 Mir Kn
noncomputable abbrev sShares : Stmt := inClass (top 4) 10
noncomputable abbrev sOpenE : Stmt := inClass (top 4) 11
structure NeAt (C : Addr) (H : Hp) (p pl hd un fu D : Addr) (ns : List Nat) : Prop where
  at_ : ∃ dx fs, H p = some (.ins C dx fs) ∧ KFs fs pl hd un fu ∧ fs.lookup ("not_empty" : Str) = some (.ref D)
  lst : H D = some (.lst (ns.map natV))
theorem NeAt.same {C : Addr} {H H' : Hp} {p pl hd un fu D : Addr} {ns : List Nat} (h : NeAt C H p pl hd un fu D ns) (e : Same H H') : NeAt C H' p pl hd un fu D ns := by
  obtain ⟨⟨dx, fs, h1, h2⟩, h3⟩ := h
  exact ⟨⟨dx, fs, e _ _ h1, h2⟩, e _ _ h3⟩
noncomputable def SharesR (F P : List (List Str)) (ns : List Nat) (n : Nat) (r : List Str) : Prop := (∃ j ∈ ns, j ≠ n ∧ ∃ s, P[j]? = some s ∧ headF F (place r) = headF F (place s)) ∨ headF F (place r) = headF F "nil"
noncomputable def spShares (K : PySem.W.Frag) (C : Addr) : Sp := fun vs H Q _ => ∃ (p pl hd un fu D : Addr) (F P : List (List Str)) (L : List (Str × Str)) (ns : List Nat) (n : Nat) (r : List Str), vs = [.ref p, .int (n : Int)] ∧ KnS K C H p pl hd un fu F P L ∧ NeAt C H p pl hd un fu D ns ∧ ns.length ≤ 15 ∧ (∀ j ∈ ns, j < P.length) ∧ (∀ r ∈ P, PartRow r) ∧ P[n]? = some r ∧
  ∀ (b : Bool) H', Same H H' → (b = true ↔ SharesR F P ns n r) → Q (.bl b) H'
section
variable {P : Program} {w : World} {K : PySem.W.Frag} {mg : Str → Option Value} {base : Heap} {f C fI gA : Addr} {fd dA : FuncData}
theorem scShares : FnScope ["self", "number", "place", "others"] ["self", "number"] (defScope sShares) := ⟨rfl, rfl, rfl, by decide +kernel, rfl, by decide +kernel, by decide +kernel⟩
theorem ok_shares (Cn : Con K mg w) (T : Txt K mg C fI) (F : Fun K "shares_place" "Knowledge.shares_place" sShares f fd) (GA : FnOk P w K mg base CX0 2 gA dA ["self", "one", "other"] (spAlike C)) (cA : MCal K C "alike" gA dA ["self", "one", "other"]) : FnOk P w K mg base CX0 3 f fd ["self", "number"] (spShares K C) := by
  refine F.okQ scShares (fun vs H Q E h => ?_) (fun cdv A outer s0 H vs Q E hr h => ?_)
  · obtain ⟨p, pl, hd, un, fu, D, F, P, L, ns, n, r, rfl, _⟩ := h; rfl
  obtain ⟨p, pl, hd, un, fu, D, Fs, Ps, L, ns, n, r, rfl, hK, hN, hn15, hnl, hpr, hn, q⟩ := h
  have nd := scShares.nd
  have hu1 := hu_of hr
  refine ⟨_, qb_cons (qs_set (i := 2) nd rfl (Or.inr rfl) (qe_ix ix_tup (qe_ix ix_list (qe_fldK (K := K) rfl (qv 0)) (qv 1) (fun _ _ => rfl)) qe_int (fun _ _ => rfl)))
    (qb_cons (qs_setCG ["other", "self", "number"] [0, 1] (i := 3) nd rfl (Or.inl rfl) (qi_list (qe_fldK (K := K) rfl (qv 0))) (fun _ _ _ _ => (qts_one (qt_cmpR op_ne (qv 0) (qv 2) (nomark _)))) (fun _ _ _ _ => (qe_ix (ixTK (K := K) rfl) (qe_ix (ixK (K := K) rfl) (qe_fldK (K := K) rfl (qv 1)) (qv 0) (fun _ _ => rfl)) qe_int (fun _ _ => rfl))))
    (qb_one (qs_ret (qe_callB (call_any rfl) rfl Cn.any PyProof.Rows.boot_any (qa_cons (qe_compG ["word", "self", "place"] [0, 2] (qi_list (qe_op op_cat (qv 3) (qe_lst (qa_str qa_nil)))) (fun _ _ _ _ => qts_nil) (fun _ _ _ _ => (qe_meth (qv 1) T.cl cA.meth GA hr cA.bind .nil pass0 (qa_nm (qv 2) (qa_nm (qv 0) qa_nil))))) qa_nil))))), ?_⟩
  have hp := hpr r (List.mem_of_getElem? hn)
  obtain ⟨⟨hm, uk, hk, hok, hU⟩, hrows, hne⟩ := id hK
  obtain ⟨⟨dx, fs, h1, h2, hnf⟩, hnl'⟩ := id hN
  obtain ⟨as, b, hpl, hat, hR⟩ := part_at hrows hn
  refine ⟨_, rfl, p, C, dx, fs, .ref pl, rfl, h1, T.cl, T.nP, h2.parts, _, rfl, pl, _, _, .ref b, rfl, rfl, SqL.of hpl, hat, b, _, 1, _, rfl, rfl, hR, hp.at1, ?_⟩
  refine ⟨_, rfl, p, C, dx, fs, .ref D, rfl, h1, T.cl, T.nE, hnf, D, rfl, ⟨_, SqL.of hnl'⟩, ?_⟩
  obtain ⟨p', hp'⟩ : ∃ p' : V → Bool, p' = fun v => match v with | .int i => !decide (V.int i = V.int (n : Int)) | _ => false := ⟨_, rfl⟩
  obtain ⟨f', hf'⟩ : ∃ f' : V → V, f' = fun v => match v with | .int i => .str (place (Ps.getD i.toNat [])) | _ => .non := ⟨_, rfl⟩
  have pv : ∀ j : Nat, p' (natV j) = !decide (j = n) := fun j => by
    rw [hp']
    show (!decide (V.int (j : Int) = V.int (n : Int))) = _
    congr 1
    refine decide_eq_decide.mpr ⟨fun z => ?_, fun z => by rw [z]⟩
    have := V.int.inj z
    lia
  have fv : ∀ j : Nat, f' (natV j) = .str (place (Ps.getD j [])) := fun j => by
    rw [hf']
    show V.str (place (Ps.getD ((j : Int)).toNat [])) = _
    rw [Int.toNat_natCast]
  refine comp_map (ns.map natV) p' f' jseq_list (SqL.of hnl') (by rw [List.length_map]; exact le_line (by lia)) (fun x hx H2 e2 Q' q' => ?_) (fun x hx _ H2 e2 Q' q' => ?_) fun Do H1 hDo e1 hd1 => ?_
  · obtain ⟨j, hj, rfl⟩ := List.mem_map.mp hx
    have := q' H2 (Same.refl _)
    have e : p' (natV j) = !decide (V.int (j : Int) = V.int (n : Int)) := by rw [hp']; rfl
    rw [e] at this
    exact ⟨_, rfl, _, rfl, rfl, _, rfl, this⟩
  · obtain ⟨j, hj, rfl⟩ := List.mem_map.mp hx
    have hjl := hnl j hj
    have hs : Ps[j]? = some Ps[j] := List.getElem?_eq_getElem hjl
    obtain ⟨as2, b2, hpl2, hat2, hR2⟩ := part_at (hrows.same e2) hs
    have := q' H2 (Same.refl _)
    have e : f' (natV j) = .str (place Ps[j]) := by rw [fv, List.getD_eq_getElem?_getD, hs]; rfl
    rw [e] at this
    exact ⟨_, rfl, p, C, dx, fs, .ref pl, rfl, e2 _ _ h1, T.cl, T.nP, h2.parts, _, rfl, pl, _, _, .ref b2, rfl, rfl, SqL.of hpl2, hat2, b2, _, 1, _, rfl, rfl, hR2, (hpr _ (List.getElem_mem hjl)).at1, this⟩
  obtain ⟨ws, hws⟩ : ∃ ws : List Str, ws = (ns.filter fun j => !decide (j = n)).map fun j => place (Ps.getD j []) := ⟨_, rfl⟩
  have hd1' : H1 Do = some (.lst (ws.map V.str)) := by
    rw [hd1, hws, List.filter_map, List.map_map, List.map_map]
    rw [show (List.filter (p' ∘ natV) ns) = ns.filter fun j => !decide (j = n) from List.filter_congr fun j _ => pv j]
    congr 2
    exact List.map_congr_left fun j _ => fv j
  have hwl : ws.length ≤ 15 := by
    rw [hws, List.length_map]
    exact Nat.le_trans (List.length_filter_le _ _) hn15
  refine ⟨_, rfl, (show 1 ≤ sizeLine by decide), fun l1 hl1 => ?_⟩
  have s2 := same_new hl1 (.lst [.str "nil"])
  refine ⟨Do, l1, _, _, rfl, rfl, s2 _ _ hd1', upd_same, ?_, fun l2 hl2 => ⟨l2, rfl, ⟨_, SqL.of upd_same⟩, ?_⟩⟩
  · rw [List.length_map]; exact le_line (show ws.length + 1 ≤ 1000 by lia)
  have s3 := e1.trans (s2.trans (same_new hl2 (.lst (ws.map V.str ++ [.str "nil"]))))
  have hl2' : (upd (upd H1 l1 (.lst [.str "nil"])) l2 (.lst (ws.map V.str ++ [.str "nil"]))) l2 = some (.lst ((ws ++ [("nil" : Str)]).map V.str)) := by rw [upd_same, List.map_append]; rfl
  generalize upd (upd H1 l1 (.lst [.str "nil"])) l2 (.lst (ws.map V.str ++ [.str "nil"])) = H3 at s3 hl2' ⊢
  refine comp_all ((ws ++ [("nil" : Str)]).map V.str) (ws ++ [("nil" : Str)]) (fun x => decide (headF Fs (place r) = headF Fs x)) jseq_list (SqL.of hl2') (by rw [List.length_map, List.length_append, List.length_singleton]; lia) (by rw [List.length_map]) (fun i x y hx hy H4 e4 Q' q' => ?_) fun D4 H4 hD4 e4 hd4 => ?_
  · obtain rfl : x = .str y := by
      rw [List.getElem?_map, hy] at hx
      exact (Option.some.inj hx).symm
    have e34 := s3.trans e4
    refine ⟨_, rfl, p, dx, fs, rfl, e34 _ _ h1, h2.meth "alike" (by decide +kernel), _, rfl, _, rfl, p, pl, hd, un, fu, hm, uk, place r, y, rfl, hk.same e34, ?_⟩
    rw [hok.hd, hok.hd]
    exact q' H4 (Same.refl _)
  refine ⟨D4, (ws ++ [("nil" : Str)]).map (fun x => decide (headF Fs (place r) = headF Fs x)), rfl, SqL.of hd4, ?_⟩
  refine q _ H4 (s3.trans e4) ?_
  rw [List.any_map, List.any_eq_true]
  constructor
  · rintro ⟨x, hx, hc⟩
    have hc' := of_decide_eq_true hc
    rcases List.mem_append.mp hx with z | z
    · rw [hws] at z
      obtain ⟨j, hj, rfl⟩ := List.mem_map.mp z
      obtain ⟨hj1, hj2⟩ := List.mem_filter.mp hj
      have hjl := hnl j hj1
      have hs : Ps[j]? = some Ps[j] := List.getElem?_eq_getElem hjl
      refine .inl ⟨j, hj1, by simpa using hj2, _, hs, ?_⟩
      rw [hc', List.getD_eq_getElem?_getD, hs]; rfl
    · rw [List.mem_singleton.mp z] at hc'
      exact .inr hc'
  · rintro (⟨j, hj1, hj2, s, hs, hc⟩ | hc)
    · refine ⟨place s, List.mem_append.mpr (.inl ?_), decide_eq_true hc⟩
      rw [hws]
      exact List.mem_map.mpr ⟨j, List.mem_filter.mpr ⟨hj1, by simpa using hj2⟩, by rw [List.getD_eq_getElem?_getD, hs]; rfl⟩
    · exact ⟨"nil", List.mem_append.mpr (.inr (List.mem_singleton.mpr rfl)), decide_eq_true hc⟩
end
end K22
namespace K22
open PySem PySem.Spec L2 Mir Kn
noncomputable abbrev sOpenP : Stmt := top 5
noncomputable def spEndsT (K : PySem.W.Frag) : Sp := fun vs H Q _ => ∃ (b : Addr) (r : List Str), vs = [.ref b] ∧ RowAt K H b r ∧ PartRow r ∧ ∀ t H', Same H H' → H' t = some (.tup [.str (place r), .str (end2 r)]) → Q (.ref t) H'
noncomputable def spOpenE (K : PySem.W.Frag) (C : Addr) : Sp := fun vs H Q _ => ∃ (p pl hd un fu D : Addr) (F P : List (List Str)) (L : List (Str × Str)) (Fl ns : List Nat), vs = [.ref p] ∧ KnS K C H p pl hd un fu F P L ∧ NeAt C H p pl hd un fu D ns ∧ H fu = some (.dK (fk Fl)) ∧ ns.length ≤ 15 ∧ (∀ j ∈ ns, j < P.length) ∧ (∀ r ∈ P, PartRow r) ∧
  (∀ H', Same H H' → (∀ j ∈ ns, ∀ r, P[j]? = some r → ¬ j ∈ Fl → ¬ SharesR F P ns j r) → Q .non H') ∧
  ∀ j r t H', Same H H' → j ∈ ns → P[j]? = some r → (¬ j ∈ Fl) → SharesR F P ns j r → H' t = some (.tup [.str (place r), .str (end2 r)]) → Q (.ref t) H'
section
variable {P : Program} {w : World} {K : PySem.W.Frag} {mg : Str → Option Value} {base : Heap} {f C fI gE gS : Addr} {fd dE dS : FuncData}
theorem ok_endsT (F : Fun K "ends_of" "ends_of" sEndsOf f fd) : FnOk P w K mg base CX0 1 f fd ["part"] (spEndsT K) := by
  refine F.okQ scEnds (fun vs H Q E h => ?_) (fun cdv A outer s0 H vs Q E hr h => ?_)
  · obtain ⟨b, r, rfl, _⟩ := h; rfl
  obtain ⟨b, r, rfl, hR, hp, q⟩ := h
  refine ⟨_, (qb_one (qs_ret (qe_ifExp (qt_cmpR op_eq (qe_ix ix_tup (qv 0) qe_int (fun _ _ => rfl)) qe_str (nomark _)) (qe_tup (qa_sub (qe_ix ix_tup (qv 0) qe_int (fun _ _ => rfl)) (qa_sub (qe_ix ix_tup (qv 0) qe_int (fun _ _ => rfl)) qa_nil))) (qe_tup (qa_sub (qe_ix ix_tup (qv 0) qe_int (fun _ _ => rfl)) (qa_str qa_nil)))))), ?_⟩
  refine ⟨_, rfl, b, _, 0, _, rfl, rfl, hR, hp.at0, rfl, _, rfl, iteB (fun c => ?_) (fun c => ?_)⟩
  · have c' : r.getD 0 "" = "stretch" := by simpa using c
    obtain ⟨x, y, rfl⟩ : ∃ x y, r = [("stretch" : Str), x, y] := by
      rcases hp with ⟨a, f, s, rfl⟩ | z | ⟨a, rfl⟩
      · exact absurd c' (by show ¬ ("cell" : Str) = "stretch"; decide +kernel)
      · exact z
      · exact absurd c' (by show ¬ ("tree" : Str) = "stretch"; decide +kernel)
    refine ⟨_, rfl, b, _, 1, .str x, rfl, rfl, hR, rfl, _, rfl, b, _, 2, .str y, rfl, rfl, hR, rfl, (show 2 ≤ sizeLine by decide), fun t ht => ?_⟩
    exact q t _ (same_new ht _) upd_same
  · have c' : ¬ r.getD 0 "" = "stretch" := by simpa using c
    refine ⟨_, rfl, b, _, 1, _, rfl, rfl, hR, hp.at1, (show 2 ≤ sizeLine by decide), fun t ht => ?_⟩
    have e : end2 r = "nil" := by unfold end2; rw [if_neg c']
    refine q t _ (same_new ht _) ?_
    rw [e]
    exact upd_same
theorem scOpenE : FnScope ["self", "number"] ["self"] (defScope sOpenE) := ⟨rfl, rfl, rfl, by decide +kernel, rfl, by decide +kernel, by decide +kernel⟩
theorem ok_openE (T : Txt K mg C fI) (F : Fun K "open_ends" "Knowledge.open_ends" sOpenE f fd) (GE : FnOk P w K mg base CX0 1 gE dE ["part"] (spEndsT K)) (cE : Cal K mg "ends_of" gE dE ["part"])
    (GS : FnOk P w K mg base CX0 3 gS dS ["self", "number"] (spShares K C)) (cS : MCal K C "shares_place" gS dS ["self", "number"]) : FnOk P w K mg base CX0 4 f fd ["self"] (spOpenE K C) := by
  refine F.okQ scOpenE (fun vs H Q E h => ?_) (fun cdv A outer s0 H vs Q E hr h => ?_)
  · obtain ⟨p, pl, hd, un, fu, D, F, P, L, Fl, ns, rfl, _⟩ := h; rfl
  obtain ⟨p, pl, hd, un, fu, D, Fs, Ps, L, Fl, ns, rfl, hK, hN, hfu, hn15, hnl, hpr, qn, qt⟩ := h
  have nd := scOpenE.nd
  have hu1 := hu_of hr
  have hr1 := hr.mono (j := 1) (by lia)
  refine ⟨_, qb_cons (qs_for PassesOwn.never rfl (qi_list (qe_fldK (K := K) rfl (qv 0))) (qg_name (i := 1) nd rfl (Or.inl rfl)) (qb_one (qs_if (QW.qt (qw_and (qt_dnotin hu1 (qv 1) (qe_fldK (K := K) rfl (qv 0))) (qw_and1 (qt_val (qe_meth (qv 0) T.cl cS.meth GS hr cS.bind .nil pass0 (qa_nm (qv 1) qa_nil)))))) (qb_one (qs_ret (qe_call GE hr1 rfl cE.name cE.keep cE.bind .nil pass0 (qa_sub (qe_ix ix_list (qe_fldK (K := K) rfl (qv 0)) (qv 1) (fun _ _ => rfl)) qa_nil)))) qb_nil)))
    (qb_one (qs_ret qe_non)), ?_⟩
  obtain ⟨⟨dx, fs, h1, h2, hnf⟩, hD⟩ := id hN
  refine ⟨_, rfl, p, C, dx, fs, .ref D, rfl, h1, T.cl, T.nE, hnf, D, rfl, ⟨_, SqL.of hD⟩, ?_⟩
  refine for_list (xs := ns.map natV) (fun i σ H2 => Same H H2 ∧ (∀ j ∈ ns.take i, ∀ r, Ps[j]? = some r → ¬ j ∈ Fl → ¬ SharesR Fs Ps ns j r) ∧ ∃ z1 : Option V, σ = [some (.ref p), z1])
    ⟨Same.refl _, (fun j hj => by simp at hj), none, rfl⟩ (fun i σ H2 _ pv => SqL.of (pv.1 _ _ hD)) ?_ ?_
  · rintro i x σ H2 hx ⟨e2, hno, z1, rfl⟩
    have hil : i < ns.length := by have := (List.getElem?_eq_some_iff.mp hx).1; rw [List.length_map] at this; exact this
    obtain rfl : x = .int ((ns[i] : Nat) : Int) := by
      rw [List.getElem?_map, List.getElem?_eq_getElem hil] at hx
      exact (Option.some.inj hx).symm
    have hin := List.getElem_mem hil
    have hjl := hnl _ hin
    have hs : Ps[ns[i]]? = some Ps[ns[i]] := List.getElem?_eq_getElem hjl
    have et : ns.take (i + 1) = ns.take i ++ [ns[i]] := by rw [List.take_add_one, List.getElem?_eq_getElem hil]; rfl
    have nxt : ∀ H3, Same H H3 → (¬ ns[i] ∈ Fl → ¬ SharesR Fs Ps ns ns[i] Ps[ns[i]]) → (Same H H3 ∧ (∀ j ∈ ns.take (i + 1), ∀ r, Ps[j]? = some r → ¬ j ∈ Fl → ¬ SharesR Fs Ps ns j r) ∧ ∃ z1 : Option V, [some (V.ref p), some (.int ((ns[i] : Nat) : Int))] = [some (.ref p), z1]) := fun H3 e3 h => by
      refine ⟨e3, fun j hj r hr hf => ?_, _, rfl⟩
      rw [et] at hj
      rcases List.mem_append.mp hj with z | z
      · exact hno j z r hr hf
      · have ej := List.mem_singleton.mp z
        subst ej
        rw [hs] at hr
        cases hr
        exact h hf
    have g := DGet.k (k := Sum.inl ((ns[i] : Nat) : Int)) (e2 _ _ hfu)
    refine ⟨_, rfl, _, rfl, p, C, dx, fs, .ref fu, rfl, e2 _ _ h1, T.cl, T.nF, h2.fulls, fu, _, rfl, g, _, rfl, ?_⟩
    rw [fk_val]
    refine iteB (fun c => ?_) (fun c => ?_)
    · have c' : ¬ ns[i] ∈ Fl := by simpa using c
      refine ⟨_, rfl, p, dx, fs, rfl, e2 _ _ h1, h2.meth "shares_place" (by decide +kernel), _, rfl, p, pl, hd, un, fu, D, Fs, Ps, L, ns, ns[i], _, rfl, hK.same e2, hN.same e2, hn15, hnl, hpr, hs, fun b H3 e3 hb => ⟨b, rfl, iteB (fun cb => ?_) (fun cb => nxt H3 (e2.trans e3) fun _ z => by have := hb.mpr z; rw [cb] at this; cases this)⟩⟩
      have e23 := e2.trans e3
      obtain ⟨as4, b4, hpl4, hat4, hR4⟩ := part_at (hK.parts.same e23) hs
      exact ⟨_, rfl, p, C, dx, fs, .ref pl, rfl, e23 _ _ h1, T.cl, T.nP, h2.parts, _, rfl, pl, _, _, .ref b4, rfl, rfl, SqL.of hpl4, hat4, b4, _, rfl, hR4, hpr _ (List.getElem_mem hjl), fun t H4 e4 hT => qt ns[i] _ t H4 (e23.trans e4) hin hs c' (hb.mp cb) hT⟩
    · have c' : ns[i] ∈ Fl := by simpa using c
      exact nxt H2 e2 fun z => absurd c' z
  · rintro σ H2 ⟨e2, hno, z1, rfl⟩
    rw [List.length_map, List.take_length] at hno
    exact qn H2 e2 hno
end
end K22
namespace K22
open PySem PySem.Spec L2 Mir Kn
noncomputable def neOf (F P : List (List Str)) : List Nat := (List.range P.length).filter fun n => !emptyB P (headF F) n
theorem neOf_mem {F P : List (List Str)} {j : Nat} {r : List Str} (h : P[j]? = some r) : j ∈ neOf F P ↔ ¬ EmptyR r (headF F) [] := by
  unfold neOf
  rw [List.mem_filter]
  constructor
  · rintro ⟨_, h2⟩ he
    have := emptyB_iff.mpr ⟨r, h, he⟩
    rw [this] at h2; cases h2
  · intro hn
    refine ⟨List.mem_range.mpr (List.getElem?_eq_some_iff.mp h).1, ?_⟩
    cases hz : emptyB P (headF F) j with
    | false => rfl
    | true =>
      obtain ⟨r', h1, h2⟩ := emptyB_iff.mp hz
      rw [h] at h1
      cases h1
      exact absurd h2 hn
noncomputable def spOpenP (K : PySem.W.Frag) : Sp := fun vs H Q _ => ∃ (fl pl0 : Addr) (F P : List (List Str)), vs = [.ref fl, .ref pl0] ∧ RowsAt K H fl F ∧ F.length ≤ 100 ∧ (∀ r ∈ F, FactRow r) ∧ RowsAt K H pl0 P ∧ P.length ≤ 15 ∧ (∀ r ∈ P, PartRow r) ∧
  (∀ H', Same H H' → (∀ j r, P[j]? = some r → ¬ EmptyR r (headF F) [] → ¬ FullR (Un F P) r → ¬ SharesR F P (neOf F P) j r) → Q .non H') ∧
  ∀ j r t H', Same H H' → P[j]? = some r → (¬ EmptyR r (headF F) []) → (¬ FullR (Un F P) r) → SharesR F P (neOf F P) j r → H' t = some (.tup [.str (place r), .str (end2 r)]) → Q (.ref t) H'
section
variable {P : Program} {w : World} {K : PySem.W.Frag} {mg : Str → Option Value} {base : Heap} {f C fI gO : Addr} {fd dI dO : FuncData}
theorem scOpenP : FnScope ["facts", "parts"] ["facts", "parts"] (defScope sOpenP) := ⟨rfl, rfl, rfl, by decide +kernel, rfl, by decide +kernel, by decide +kernel⟩
theorem ok_openP (Cn : Con K mg w) (T : Txt K mg C fI) (F : Fun K "open_pair" "open_pair" sOpenP f fd) (GI : FnOk P w K mg base CX0 5 fI dI ["self", "facts", "parts"] (spInitP K C)) (bI : Binds K dI ["self", "facts", "parts"] [])
    (GO : FnOk P w K mg base CX0 4 gO dO ["self"] (spOpenE K C)) (cO : MCal K C "open_ends" gO dO ["self"]) : FnOk P w K mg base CX0 7 f fd ["facts", "parts"] (spOpenP K) := by
  refine F.okQ scOpenP (fun vs H Q E h => ?_) (fun cdv A outer s0 H vs Q E hr h => ?_)
  · obtain ⟨fl, pl0, F, P, rfl, _⟩ := h; rfl
  obtain ⟨fl, pl0, Fs, Ps, rfl, hF, hFl, hrow, hPP, hP15, hPr, qn, qt⟩ := h
  have hr4 := hr.mono (j := 4) (by lia)
  refine ⟨_, (qb_one (qs_ret (qe_meth0 (qe_make T.mkC GI hr rfl T.mgC bI .nil pass0 (qa_nm (qv 0) (qa_nm (qv 1) qa_nil))) T.cl cO.meth GO hr4 cO.bind .nil pass0))), ?_⟩
  refine ⟨_, rfl, _, rfl, fun x dx hx hdx hne => ?_⟩
  have s1 : Same H (upd (upd H dx (.own x)) x (.ins C dx [])) := fun b o hb => by rw [upd_ne (ne_of_none hb hx), upd_ne (ne_of_none hb hdx)]; exact hb
  refine ⟨x, dx, fl, pl0, Fs, Ps, rfl, upd_same, hF.same s1, hFl, hrow, hPP.same s1, hP15, hPr, fun pl hd un fu L Fl D dxx fss H2 k2 KS hfu A G hpx hnf KF hD hL => ⟨rfl, ?_⟩⟩
  have e2 : Same H H2 := fun b o hb => k2 b o (s1 _ _ hb) (fun z => by have z' : b = x := z; rw [z', hx] at hb; cases hb)
  have full : ∀ {j : Nat} {r : List Str}, Ps[j]? = some r → (j ∈ Fl ↔ FullR (Un Fs Ps) r) := fun {j r} h => ⟨fun z => by
    obtain ⟨r', h1, h2⟩ := G.isf j z
    rw [h] at h1
    cases h1
    exact h2, fun z => A.full j r h (z.mono fun a b u => un_told hrow A u)⟩
  have hne : neOf Fs Ps = (List.range Ps.length).filter fun n => !emptyB Ps (headF Fs) n := rfl
  have hNl : ∀ j ∈ neOf Fs Ps, j < Ps.length := fun j hj => List.mem_range.mp (List.mem_filter.mp hj).1
  have hN15 : (neOf Fs Ps).length ≤ 15 := by
    have := List.length_filter_le (fun n => !emptyB Ps (headF Fs) n) (List.range Ps.length)
    rw [List.length_range, ← hne] at this
    lia
  refine ⟨x, dxx, fss, rfl, hpx, KF.meth "open_ends" (by decide +kernel), x, pl, hd, un, fu, D, Fs, Ps, L, Fl, neOf Fs Ps, rfl, KS, ⟨⟨dxx, fss, hpx, KF, hnf⟩, hD⟩, hfu, hN15, hNl, hPr, fun H3 e3 hno => ?_, fun j r t H3 e3 hj hr hf hs hT => ?_⟩
  · exact qn H3 (e2.trans e3) fun j r hjr hem hfu' => hno j ((neOf_mem hjr).mpr hem) r hjr (fun z => hfu' ((full hjr).mp z))
  · exact qt j r t H3 (e2.trans e3) hr ((neOf_mem hr).mp hj) (fun z => hf ((full hr).mpr z)) hs hT
end
end K22
namespace K22
open PySem PySem.Spec L2 Mir Kn
noncomputable abbrev sStand : Stmt := top 17
noncomputable abbrev sDoubt : Stmt := top 18
noncomputable def StandR (ka : List (List Key × V)) (r : List Str) : Prop := r.getD 0 "" = "cell" ∨ ¬ InT ka (place r) (end2 r)
open Classical in
noncomputable def standB (P : List (List Str)) (ka : List (List Key × V)) (n : Nat) : Bool := decide (∃ r, P[n]? = some r ∧ StandR ka r)
open Classical in
theorem standB_iff {P : List (List Str)} {ka : List (List Key × V)} {n : Nat} {r : List Str} (h : P[n]? = some r) : standB P ka n = true ↔ StandR ka r := by
  unfold standB
  constructor
  · intro z
    obtain ⟨r', h1, h2⟩ := of_decide_eq_true z
    rw [h] at h1
    cases h1
    exact h2
  · intro z
    exact decide_eq_true ⟨r, h, z⟩
noncomputable def spStand (K : PySem.W.Frag) : Sp := fun vs H Q _ => ∃ (ql ta : Addr) (P : List (List Str)) (ka : List (List Key × V)), vs = [.ref ql, .ref ta] ∧ RowsAt K H ql P ∧ P.length ≤ 15 ∧ (∀ r ∈ P, PartRow r) ∧ H ta = some (.dT ka) ∧ ∀ D H', Same H H' → H' D = some (.lst (((List.range P.length).filter (standB P ka)).map natV)) → Q (.ref D) H'
section
variable {P : Program} {w : World} {K : PySem.W.Frag} {mg : Str → Option Value} {base : Heap} {f gE gS : Addr} {fd dE dS : FuncData}
theorem scStand : FnScope ["_law_parts", "_law_alike", "_law_found", "_law_k"] ["_law_parts", "_law_alike"] (defScope sStand) := ⟨rfl, rfl, rfl, by decide +kernel, rfl, by decide +kernel, by decide +kernel⟩
theorem ok_stand (C : Con K mg w) (F : Fun K "_law_standing" "_law_standing" sStand f fd) (GE : FnOk P w K mg base CX0 1 gE dE ["_law_part"] (spLEnds K)) (cE : Cal K mg "_law_ends" gE dE ["_law_part"]) : FnOk P w K mg base CX0 2 f fd ["_law_parts", "_law_alike"] (spStand K) := by
  refine F.okQ scStand (fun vs H Q E h => ?_) (fun cdv A outer s0 H vs Q E hr h => ?_)
  · obtain ⟨ql, ta, P, ka, rfl, _⟩ := h; rfl
  obtain ⟨ql, ta, Ps, ka, rfl, hQ, hP15, hpr, hT, q⟩ := h
  have nd := scStand.nd
  have hu1 := hu_of hr
  refine ⟨_, qb_cons (qs_set (i := 2) nd rfl (Or.inl rfl) (qe_lst qa_nil))
    (qb_cons (qs_for PassesOwn.never rfl (qi_range1 rfl C.range (qa_call (qe_callB call_len_seq rfl C.len PySem.boot_len (qa_nm (qv 0) qa_nil)) qa_nil)) (qg_name (i := 3) nd rfl (Or.inl rfl)) (qb_one (qs_if (QW.qt (qw_or (qt_cmpR op_eq (qe_ix ix_tup (qe_ix ix_list (qv 0) (qv 3) (fun _ _ => rfl)) qe_int (fun _ _ => rfl)) qe_str (nomark _)) (qw_or1 (qt_dnotin hu1 (qe_call GE hr rfl cE.name cE.keep cE.bind .nil pass0 (qa_sub (qe_ix ix_list (qv 0) (qv 3) (fun _ _ => rfl)) qa_nil)) (qv 1))))) (qb_one (qs_expr (qe_bmK (K := K) rfl PySem.F.plainAttrs_list PySem.F.slot_list_append PySem.F.type_list_append mt_append (qv 2) (qa_nm (qv 3) qa_nil)))) qb_nil)))
    (qb_one (qs_ret (qv 2)))), ?_⟩
  refine ⟨Nat.zero_le _, fun D hD => ?_⟩
  have s1 := same_new hD (.lst [])
  obtain ⟨pas, hpl, hpp⟩ := id hQ
  have hml : (pas.map V.ref).length = Ps.length := by rw [List.length_map]; exact Paired.length hpp
  refine ⟨_, rfl, ql, _, rfl, .inl (SqL.of (s1 _ _ hpl)), _, rfl, (by rw [hml]; lia), (by rw [hml]; lia), ?_⟩
  rw [hml]
  refine for_range (lo := 0) (n := (Ps.length : Int).toNat) (fun i σ H2 => Same H H2 ∧ H2 D = some (.lst (((List.range i).filter (standB Ps ka)).map natV)) ∧ ∃ z3 : Option V, σ = [some (.ref ql), some (.ref ta), some (.ref D), z3])
    ⟨s1, upd_same, none, rfl⟩ ?_ ?_
  · rintro i σ H2 hi ⟨e2, hD2, z3, rfl⟩
    rw [Int.zero_add]
    have hi' : i < Ps.length := by lia
    have hs : Ps[i]? = some Ps[i] := List.getElem?_eq_getElem hi'
    have hp := hpr _ (List.getElem_mem hi')
    obtain ⟨as, b, hpl2, hat, hR⟩ := part_at (hQ.same e2) hs
    have hfl : ((List.range i).filter (standB Ps ka)).length ≤ i := by
      have := List.length_filter_le (standB Ps ka) (List.range i)
      rw [List.length_range] at this
      exact this
    have yes : standB Ps ka i = true → ∀ {H3 : Hp}, Same H H3 → H3 D = some (.lst (((List.range i).filter (standB Ps ka)).map natV)) → (Same H (upd H3 D (.lst (((List.range i).filter (standB Ps ka)).map natV ++ [.int (i : Int)]))) ∧ (upd H3 D (.lst (((List.range i).filter (standB Ps ka)).map natV ++ [.int (i : Int)]))) D = some (.lst (((List.range (i + 1)).filter (standB Ps ka)).map natV))) := fun hy {H3} e3 hd3 => by
      refine ⟨same_put hD e3 _, ?_⟩
      rw [upd_same, List.range_succ, List.filter_append, List.map_append]
      simp only [List.filter_cons, hy, List.filter_nil, if_true]
      rfl
    have no : standB Ps ka i = false → ((List.range (i + 1)).filter (standB Ps ka)).map natV = ((List.range i).filter (standB Ps ka)).map natV := fun hn => by
      rw [List.range_succ, List.filter_append]
      simp only [List.filter_cons, hn, List.filter_nil, Bool.false_eq_true, if_false, List.append_nil]
    refine ⟨_, rfl, _, rfl, ql, _, _, .ref b, rfl, rfl, SqL.of hpl2, hat, b, _, 0, _, rfl, rfl, hR, hp.at0, rfl, _, rfl, iteB (fun c => ?_) (fun c => ?_)⟩
    · have c' : Ps[i].getD 0 "" = "cell" := by simpa using c
      have hy := (standB_iff (ka := ka) hs).mpr (.inl c')
      obtain ⟨y1, y2⟩ := yes hy e2 hD2
      exact ⟨_, rfl, .inl ⟨rfl, _, SqL.of hD2⟩, _, rfl, D, _, _, rfl, rfl, hD2, lt_line (by rw [List.length_map]; lia), y1, y2, _, rfl⟩
    · have c' : ¬ Ps[i].getD 0 "" = "cell" := by simpa using c
      refine ⟨_, rfl, _, rfl, ql, _, _, .ref b, rfl, rfl, SqL.of hpl2, hat, b, _, rfl, hR, hp, fun t H3 e3 hT3 => ?_⟩
      rw [lend_end hp c'] at hT3
      have e23 := e2.trans e3
      refine ⟨_, rfl, ta, _, rfl, DGet.t (k := [Sum.inr (place Ps[i]), Sum.inr (end2 Ps[i])]) (e23 _ _ hT) hT3, _, rfl, iteB (fun c2 => ?_) (fun c2 => ?_)⟩
      · have hy := (standB_iff (ka := ka) hs).mpr (.inr (fun z => by rw [show (valV ka [Sum.inr (place Ps[i]), Sum.inr (end2 Ps[i])]).isSome = true from z] at c2; cases c2))
        obtain ⟨y1, y2⟩ := yes hy e23 (e3 _ _ hD2)
        exact ⟨_, rfl, .inl ⟨rfl, _, SqL.of (e3 _ _ hD2)⟩, _, rfl, D, _, _, rfl, rfl, e3 _ _ hD2, lt_line (by rw [List.length_map]; lia), y1, y2, _, rfl⟩
      · have hin : InT ka (place Ps[i]) (end2 Ps[i]) := by
          show (valV ka [Sum.inr (place Ps[i]), Sum.inr (end2 Ps[i])]).isSome = true
          simpa using c2
        have hn : standB Ps ka i = false := by
          cases hz : standB Ps ka i with
          | false => rfl
          | true => exact (((standB_iff hs).mp hz).elim c' (fun z => z hin)).elim
        exact ⟨e23, by rw [no hn]; exact e3 _ _ hD2, _, rfl⟩
  · rintro σ H2 ⟨e2, hD2, z3, rfl⟩
    rw [Int.toNat_natCast] at hD2
    exact ⟨_, rfl, q D H2 e2 hD2⟩
end
end K22
namespace K22
open PySem PySem.Spec L2 Mir Kn
theorem dp_ints {K : PySem.W.Frag} {H : Hp} : ∀ ns : List Int, DpAll K H (ns.map V.int) (ns.map PyData.int)
  | [] => .nil
  | x :: r => .cons (.int x) (dp_ints r)
theorem lay_ints : ∀ ns : List Int, PyData.canLayAll0 (ns.map PyData.int) = true
  | [] => by simp only [List.map_nil, PyData.canLayAll0]
  | x :: r => by simp only [List.map_cons, PyData.canLayAll0, PyData.canLay0, Bool.true_and, lay_ints r]
theorem depth_ints : ∀ ns : List Int, PyData.depthAll (ns.map PyData.int) ≤ 0
  | [] => by simp only [List.map_nil, PyData.depthAll]; exact Nat.le_refl _
  | x :: r => by simp only [List.map_cons, PyData.depthAll, PyData.depth]; exact Nat.max_le.mpr ⟨Nat.le_refl _, depth_ints r⟩
theorem eqOk_ints (ns : List Int) : EqOk (.list (ns.map PyData.int)) := by
  constructor
  · simp only [PyData.canLay0]; exact lay_ints ns
  · have := depth_ints ns
    simp only [PyData.depth]; lia
theorem eqv_nil (l : List PyData) : PyData.eqv (.list l) (.list []) = l.isEmpty := by
  cases l with
  | nil => rfl
  | cons x l => rfl
theorem natV_ints (l : List Nat) : l.map natV = (l.map fun (n : Nat) => ((n : Nat) : Int)).map V.int := by rw [List.map_map]; rfl
noncomputable def BesideR (P : List (List Str)) (ka : List (List Key × V)) (ns : List Nat) (k : Nat) (r : List Str) : Prop := (∃ j ∈ ns, j ≠ k ∧ ∃ s, P[j]? = some s ∧ InT ka (place r) (place s)) ∨ InT ka (place r) "nil"
section
variable {P : Program} {w : World} {K : PySem.W.Frag} {mg : Str → Option Value} {base : Heap} {f gS : Addr} {fd dS : FuncData}
theorem scDoubt : FnScope ["_law_parts", "_law_alike", "_law_some", "_law_found", "_law_k", "_law_beside"] ["_law_parts", "_law_alike"] (defScope sDoubt) := ⟨rfl, rfl, rfl, by decide +kernel, rfl, by decide +kernel, by decide +kernel⟩
noncomputable def spDoubt (K : PySem.W.Frag) : Sp := fun vs H Q _ => ∃ (ql ta : Addr) (P : List (List Str)) (ka : List (List Key × V)), vs = [.ref ql, .ref ta] ∧ RowsAt K H ql P ∧ P.length ≤ 15 ∧ (∀ r ∈ P, PartRow r) ∧ H ta = some (.dT ka) ∧ ∀ D ds H', Same H H' → RowsAt K H' D ds → ds.length ≤ 15 → (∀ r, r ∈ ds ↔ ∃ k ∈ (List.range P.length).filter (standB P ka), P[k]? = some r ∧ BesideR P ka ((List.range P.length).filter (standB P ka)) k r) → Q (.ref D) H'
theorem ok_doubt (C : Con K mg w) (F : Fun K "_law_doubtful" "_law_doubtful" sDoubt f fd) (GS : FnOk P w K mg base CX0 2 gS dS ["_law_parts", "_law_alike"] (spStand K)) (cS : Cal K mg "_law_standing" gS dS ["_law_parts", "_law_alike"]) : FnOk P w K mg base CX0 3 f fd ["_law_parts", "_law_alike"] (spDoubt K) := by
  refine F.okQ scDoubt (fun vs H Q E h => ?_) (fun cdv A outer s0 H vs Q E hr h => ?_)
  · obtain ⟨ql, ta, P, ka, rfl, _⟩ := h; rfl
  obtain ⟨ql, ta, Ps, ka, rfl, hQ, hP15, hpr, hT, q⟩ := h
  have nd := scDoubt.nd
  have hu1 := hu_of hr
  have hu := Nat.lt_of_le_of_lt (Nat.add_le_add_left (show 32 ≤ 64 by decide) _) hr.units
  refine ⟨_, qb_cons (qs_set (i := 2) nd rfl (Or.inl rfl) (qe_call GS hr rfl cS.name cS.keep cS.bind .nil pass0 (qa_nm (qv 0) (qa_nm (qv 1) qa_nil))))
    (qb_cons (qs_set (i := 3) nd rfl (Or.inl rfl) (qe_lst qa_nil))
    (qb_cons (qs_for PassesOwn.never rfl (qi_list (qv 2)) (qg_name (i := 4) nd rfl (Or.inr rfl)) (qb_cons (qs_setCG ["_law_j", "_law_parts", "_law_k", "_law_alike"] [0, 4, 1] (i := 5) nd rfl (Or.inl rfl) (qi_list (qv 2)) (fun _ _ _ _ => (qts_one (QW.qt (qw_and (qt_cmpR op_ne (qv 0) (qv 2) (nomark _)) (qw_and1 (qt_din hu1 (qe_tup (qa_sub (qe_ix (ixTK (K := K) rfl) (qe_ix (ixK (K := K) rfl) (qv 1) (qv 2) (fun _ _ => rfl)) qe_int (fun _ _ => rfl)) (qa_sub (qe_ix (ixTK (K := K) rfl) (qe_ix (ixK (K := K) rfl) (qv 1) (qv 0) (fun _ _ => rfl)) qe_int (fun _ _ => rfl)) qa_nil))) (qv 3))))))) (fun _ _ _ _ => (qv 0)) (hcs := by intro p hp; simp only [List.mem_cons, List.not_mem_nil, or_false] at hp; rcases hp with rfl | rfl | rfl <;> with_unfolding_all rfl) (hix := by intro j hj; simp only [List.mem_cons, List.not_mem_nil, or_false] at hj; rcases hj with rfl | rfl | rfl <;> exact ⟨_, rfl, rfl, by with_unfolding_all rfl⟩))
    (qb_one (qs_if (QW.qt (qw_or (qt_cmpR (op_neD hu) (qv 5) (qe_lst qa_nil) (nomark _)) (qw_or1 (qt_din hu1 (qe_tup (qa_sub (qe_ix ix_tup (qe_ix ix_list (qv 0) (qv 4) (fun _ _ => rfl)) qe_int (fun _ _ => rfl)) (qa_str qa_nil))) (qv 1))))) (qb_one (qs_expr (qe_bmK (K := K) rfl PySem.F.plainAttrs_list PySem.F.slot_list_append PySem.F.type_list_append mt_append (qv 3) (qa_sub (qe_ix ix_list (qv 0) (qv 4) (fun _ _ => rfl)) qa_nil)))) qb_nil))))
    (qb_one (qs_ret (qv 3))))), ?_⟩
  refine ⟨_, rfl, _, rfl, ql, ta, Ps, ka, rfl, hQ, hP15, hpr, hT, fun S H1 e1 hS => ?_⟩
  obtain ⟨ns, hns⟩ : ∃ ns, (List.range Ps.length).filter (standB Ps ka) = ns := ⟨_, rfl⟩
  rw [hns] at hS
  have hnl : ∀ j ∈ ns, j < Ps.length := fun j hj => by rw [← hns] at hj; exact List.mem_range.mp (List.mem_filter.mp hj).1
  have hn15 : ns.length ≤ 15 := by
    have := List.length_filter_le (standB Ps ka) (List.range Ps.length)
    rw [List.length_range, hns] at this
    lia
  refine ⟨Nat.zero_le _, fun D hD => ?_⟩
  have s2 := same_new hD (.lst [])
  have hSD : S ≠ D := ne_of_none hS hD
  have hD0 : H D = none := by
    cases hz : H D with
    | none => rfl
    | some o => rw [e1 _ _ hz] at hD; cases hD
  refine ⟨_, rfl, S, rfl, ⟨_, SqL.of (s2 _ _ hS)⟩, ?_⟩
  refine for_list (xs := ns.map natV) (fun i σ H2 => Same H H2 ∧ H2 S = some (.lst (ns.map natV)) ∧ ∃ (as : List Addr) (rs : List (List Str)) (z4 z5 : Option V), H2 D = some (.lst (as.map V.ref)) ∧ Paired (fun b r => RowAt K H2 b r) as rs ∧ rs.length ≤ i ∧ (∀ r, r ∈ rs ↔ ∃ k ∈ ns.take i, Ps[k]? = some r ∧ BesideR Ps ka ns k r) ∧ σ = [some (.ref ql), some (.ref ta), some (.ref S), some (.ref D), z4, z5])
    ⟨e1.trans s2, s2 _ _ hS, [], [], none, none, upd_same, .nil, Nat.le_refl _, (fun r => by simp), rfl⟩ (fun i σ H2 _ pv => SqL.of pv.2.1) ?_ ?_
  · rintro i x σ H2 hx ⟨e2, hS2, as, rs, z4, z5, hD2, hP2, hrl, hmem, rfl⟩
    have hil : i < ns.length := by have := (List.getElem?_eq_some_iff.mp hx).1; rw [List.length_map] at this; exact this
    obtain rfl : x = .int ((ns[i] : Nat) : Int) := by
      rw [List.getElem?_map, List.getElem?_eq_getElem hil] at hx
      exact (Option.some.inj hx).symm
    have hkl := hnl _ (List.getElem_mem hil)
    obtain ⟨r, hr0⟩ : ∃ r, Ps[ns[i]]? = some r := ⟨_, List.getElem?_eq_getElem hkl⟩
    have hrp := hpr r (List.mem_of_getElem? hr0)
    obtain ⟨pB, hpB⟩ : ∃ pB : Nat → Bool, pB = fun (j : Nat) => (!decide (V.int (j : Int) = V.int ((ns[i] : Nat) : Int))) && (valV ka [Sum.inr (place r), Sum.inr (place (Ps.getD j []))]).isSome := ⟨_, rfl⟩
    refine ⟨_, rfl, S, rfl, ⟨_, SqL.of hS2⟩, ?_⟩
    refine comp_keep ns pB jseq_list (SqL.of hS2) (by lia) (fun j hj H3 e3 Q' q' => ?_) (fun j H3 Q' q' => ⟨_, rfl, q'⟩) fun B H3 hB e3 hb3 => ?_
    · refine ⟨_, rfl, _, rfl, rfl, _, rfl, iteB (fun c => ?_) (fun c => ?_)⟩
      · obtain ⟨s, hs0⟩ : ∃ s, Ps[j]? = some s := ⟨_, List.getElem?_eq_getElem (hnl j hj)⟩
        have hsp := hpr s (List.mem_of_getElem? hs0)
        have e23 := e2.trans e3
        obtain ⟨as4, b4, hpl4, hat4, hR4⟩ := part_at (hQ.same e23) hr0
        obtain ⟨as5, b5, hpl5, hat5, hR5⟩ := part_at (hQ.same e23) hs0
        refine ⟨_, rfl, _, rfl, ql, _, _, .ref b4, rfl, rfl, SqL.of hpl4, hat4, b4, _, 1, _, rfl, rfl, hR4, hrp.at1, _, rfl, _, rfl, ql, _, _, .ref b5, rfl, rfl, SqL.of hpl5, hat5, b5, _, 1, _, rfl, rfl, hR5, hsp.at1, (show 2 ≤ sizeLine by decide), fun t ht => ?_⟩
        have s4 := same_new ht (.tup [.str (place r), .str (place s)])
        refine ⟨_, rfl, ta, _, rfl, DGet.t (k := [Sum.inr (place r), Sum.inr (place s)]) (s4 _ _ (e23 _ _ hT)) upd_same, _, rfl, ?_⟩
        have := q' _ s4
        have eg : Ps.getD j [] = s := by rw [List.getD_eq_getElem?_getD, hs0]; rfl
        rw [hpB] at this
        simp only [c, Bool.true_and, eg] at this
        exact this
      · have := q' H3 (Same.refl _)
        rw [hpB] at this
        simp only [c, Bool.false_and] at this
        exact this
    have e23 := e2.trans e3
    have hS3 := e3 _ _ hS2
    have hD3 := e3 _ _ hD2
    have hP3 : Paired (fun b r => RowAt K H3 b r) as rs := Paired.mapP hP2 fun _ _ z => RowAt.same z e3
    have hbes : (ns.filter pB ≠ []) ↔ ∃ j ∈ ns, j ≠ ns[i] ∧ ∃ s, Ps[j]? = some s ∧ InT ka (place r) (place s) := by
      have pvm : ∀ j ∈ ns, (pB j = true ↔ j ≠ ns[i] ∧ ∃ s, Ps[j]? = some s ∧ InT ka (place r) (place s)) := fun j hj => by
        obtain ⟨s, hs0⟩ : ∃ s, Ps[j]? = some s := ⟨_, List.getElem?_eq_getElem (hnl j hj)⟩
        have eg : Ps.getD j [] = s := by rw [List.getD_eq_getElem?_getD, hs0]; rfl
        rw [hpB]
        simp only [eg, Bool.and_eq_true, Bool.not_eq_true', decide_eq_false_iff_not]
        constructor
        · rintro ⟨h1, h2⟩
          exact ⟨fun z => h1 (by rw [z]), s, hs0, h2⟩
        · rintro ⟨h1, s', h2, h3⟩
          rw [hs0] at h2
          cases h2
          exact ⟨fun z => h1 (by have := V.int.inj z; lia), h3⟩
      constructor
      · intro hne
        obtain ⟨j, hj⟩ := List.exists_mem_of_ne_nil _ hne
        obtain ⟨h1, h2⟩ := List.mem_filter.mp hj
        exact ⟨j, h1, (pvm j h1).mp h2⟩
      · rintro ⟨j, hj, h⟩ hz
        have : j ∈ ns.filter pB := List.mem_filter.mpr ⟨hj, (pvm j hj).mpr h⟩
        rw [hz] at this; cases this
    have et : ns.take (i + 1) = ns.take i ++ [ns[i]] := by rw [List.take_add_one, List.getElem?_eq_getElem hil]; rfl
    have memno : ¬ BesideR Ps ka ns ns[i] r → ∀ r', r' ∈ rs ↔ ∃ k ∈ ns.take (i + 1), Ps[k]? = some r' ∧ BesideR Ps ka ns k r' := fun hn r' => by
      rw [hmem, et]
      constructor
      · rintro ⟨k, h1, h2⟩; exact ⟨k, List.mem_append.mpr (.inl h1), h2⟩
      · rintro ⟨k, h1, h2, h3⟩
        rcases List.mem_append.mp h1 with z | z
        · exact ⟨k, z, h2, h3⟩
        · rw [List.mem_singleton.mp z] at h2 h3
          rw [hr0] at h2
          cases h2
          exact absurd h3 hn
    have memyes : BesideR Ps ka ns ns[i] r → ∀ r', r' ∈ rs ++ [r] ↔ ∃ k ∈ ns.take (i + 1), Ps[k]? = some r' ∧ BesideR Ps ka ns k r' := fun hy r' => by
      rw [List.mem_append, hmem, et]
      constructor
      · rintro (⟨k, h1, h2⟩ | z)
        · exact ⟨k, List.mem_append.mpr (.inl h1), h2⟩
        · rw [List.mem_singleton.mp z]
          exact ⟨_, List.mem_append.mpr (.inr (List.mem_singleton.mpr rfl)), hr0, hy⟩
      · rintro ⟨k, h1, h2, h3⟩
        rcases List.mem_append.mp h1 with z | z
        · exact .inl ⟨k, z, h2, h3⟩
        · rw [List.mem_singleton.mp z] at h2 h3
          rw [hr0] at h2
          cases h2
          exact .inr (List.mem_singleton.mpr rfl)
    refine ⟨_, rfl, Nat.zero_le _, fun ln hln => ?_⟩
    have s5 := same_new hln (.lst [])
    rw [natV_ints] at hb3
    refine ⟨.list (((ns.filter pB).map fun (n : Nat) => ((n : Nat) : Int)).map .int), .list [], .lst (SqL.of (s5 _ _ hb3)) (dp_ints _), .lst (SqL.of upd_same) .nil, eqOk_ints _, eqOk_ints [], _, rfl, ?_⟩
    rw [eqv_nil]
    generalize upd H3 ln (.lst []) = H5 at s5 ⊢
    refine iteB (fun c => ?_) (fun c => ?_)
    · have hbr : BesideR Ps ka ns ns[i] r := .inl (hbes.mp (fun z => by rw [z] at c; simp at c))
      have x6 := s5
      have hpl6 := part_at (hQ.same (e23.trans x6)) hr0
      obtain ⟨as6, b6, hpl6, hat6, hR6⟩ := hpl6
      have hD6 := x6 _ _ hD3
      refine ⟨_, rfl, .inl ⟨rfl, _, SqL.of hD6⟩, _, rfl, _, rfl, ql, _, _, .ref b6, rfl, rfl, SqL.of hpl6, hat6, D, _, _, rfl, rfl, hD6, lt_line (by rw [List.length_map, Paired.length hP3]; lia), ?_⟩
      refine ⟨same_put hD0 (e23.trans x6) _, by rw [upd_ne hSD]; exact x6 _ _ hS3, as ++ [b6], rs ++ [r], _, _, by rw [upd_same, List.map_append]; rfl, Paired.snocP (Paired.mapP hP3 fun _ _ z => sq_put hD6 (x6.seqT z)) (sq_put hD6 hR6), by rw [List.length_append, List.length_singleton]; lia, memyes hbr, rfl⟩
    · have hnb : ¬ ∃ j ∈ ns, j ≠ ns[i] ∧ ∃ s, Ps[j]? = some s ∧ InT ka (place r) (place s) := fun z => by
        have := hbes.mpr z
        cases hz : ns.filter pB with
        | nil => exact this hz
        | cons a l => rw [hz] at c; simp at c
      obtain ⟨as5, b5, hpl5, hat5, hR5⟩ := part_at (hQ.same (e23.trans s5)) hr0
      refine ⟨_, rfl, _, rfl, ql, _, _, .ref b5, rfl, rfl, SqL.of hpl5, hat5, b5, _, 1, _, rfl, rfl, hR5, hrp.at1, (show 2 ≤ sizeLine by decide), fun t ht => ?_⟩
      have x6 := s5.trans (same_new ht (.tup [.str (place r), .str "nil"]))
      refine ⟨_, rfl, ta, _, rfl, DGet.t (k := [Sum.inr (place r), Sum.inr "nil"]) ((e23.trans x6) _ _ hT) upd_same, _, rfl, iteB (fun c2 => ?_) (fun c2 => ?_)⟩
      · have hbr : BesideR Ps ka ns ns[i] r := .inr c2
        have hpl6 := part_at (hQ.same (e23.trans x6)) hr0
        obtain ⟨as6, b6, hpl6, hat6, hR6⟩ := hpl6
        have hD6 := x6 _ _ hD3
        refine ⟨_, rfl, .inl ⟨rfl, _, SqL.of hD6⟩, _, rfl, _, rfl, ql, _, _, .ref b6, rfl, rfl, SqL.of hpl6, hat6, D, _, _, rfl, rfl, hD6, lt_line (by rw [List.length_map, Paired.length hP3]; lia), ?_⟩
        refine ⟨same_put hD0 (e23.trans x6) _, by rw [upd_ne hSD]; exact x6 _ _ hS3, as ++ [b6], rs ++ [r], _, _, by rw [upd_same, List.map_append]; rfl, Paired.snocP (Paired.mapP hP3 fun _ _ z => sq_put hD6 (x6.seqT z)) (sq_put hD6 hR6), by rw [List.length_append, List.length_singleton]; lia, memyes hbr, rfl⟩
      · have hn : ¬ BesideR Ps ka ns ns[i] r := fun z => z.elim hnb (fun y => by rw [show (valV ka [Sum.inr (place r), Sum.inr "nil"]).isSome = true from y] at c2; cases c2)
        exact ⟨e23.trans x6, x6 _ _ hS3, as, rs, _, _, x6 _ _ hD3, Paired.mapP hP3 fun _ _ z => RowAt.same z x6, by lia, memno hn, rfl⟩
  · rintro σ H2 ⟨e2, hS2, as, rs, z4, z5, hD2, hP2, hrl, hmem, rfl⟩
    rw [List.length_map] at hrl
    rw [List.length_map, List.take_length] at hmem
    refine ⟨_, rfl, q D rs H2 e2 ⟨as, hD2, hP2⟩ (by lia) ?_⟩
    rw [hns]
    exact hmem
end
end K22
namespace Kn
open PySem PySem.Spec L2
theorem conn_nil {a b : Str} (c : Conn [] a b) : a = b := by
  induction c with
  | refl x => rfl
  | fact h => cases h
  | symm _ ih => exact ih.symm
  | trans _ _ i1 i2 => exact i1.trans i2
theorem un_one {p : List Str} (h : ¬ (p.getD 0 "" = "cell" ∧ place p = "nil")) (y : Str) : ¬ Un [] [p] y y := by
  intro u
  have cl : Clo [] [p] (fun a b => p.getD 0 "" = "cell" ∧ ((a = place p ∧ b = "nil") ∨ (a = "nil" ∧ b = place p))) := by
    refine ⟨(fun u v h => by cases h), fun a b ⟨h1, h2⟩ => ⟨h1, h2.elim (fun z => .inr ⟨z.2, z.1⟩) (fun z => .inl ⟨z.2, z.1⟩)⟩, (fun a b c hc h => by rw [conn_nil hc]; exact h), fun q hq hf => ?_, fun i j q r hi hj hne _ _ => ?_⟩
    · rw [List.mem_singleton.mp hq] at hf ⊢
      rcases hf with z | z
      · exact ⟨z, .inl ⟨rfl, rfl⟩⟩
      · exact ⟨z.1, .inl ⟨rfl, rfl⟩⟩
    · have h1 : i < 1 := (List.getElem?_eq_some_iff.mp hi).1
      have h2 : j < 1 := (List.getElem?_eq_some_iff.mp hj).1
      lia
  obtain ⟨h1, h2 | h2⟩ := u _ cl
  · exact h ⟨h1, h2.1.symm.trans h2.2⟩
  · exact h ⟨h1, h2.2.symm.trans h2.1⟩
theorem un_none (y : Str) : ¬ Un [] [] y y := by
  intro u
  exact u (fun _ _ => False) ⟨(fun u v h => by cases h), (fun _ _ h => h), (fun _ _ _ _ h => h), (fun q hq => by cases hq), (fun i j q r hi => by simp at hi)⟩
end Kn
namespace K22
open PySem PySem.Spec L2 Mir Kn
theorem none_right {F P : List (List Str)} (hF : ∀ r ∈ F, FactRow r) (nocl : ∀ y, ¬ Un F P y y) (h : ∀ (j : Nat) r, P[j]? = some r → ¬ EmptyR r (headF F) [] → ¬ FullR (Un F P) r → ¬ SharesR F P (neOf F P) j r) {j : Nat} {r : List Str} (hj : P[j]? = some r) (he : ¬ EmptyR r (headF F) []) : ¬ SharesR F P (neOf F P) j r := by
  intro hs
  by_cases hf : FullR (Un F P) r
  · rcases hs with ⟨j', hj', hne, s, hs', hh⟩ | hh
    · by_cases hg : FullR (Un F P) s
      · have u := (un_clo F P).two j j' r s hj hs' (Ne.symm hne) hf hg
        exact nocl _ ((un_clo F P).conn _ _ _ ((headF_conn hF _ _).mp hh).symm u)
      · exact h j' s hs' ((neOf_mem hs').mp hj') hg (.inl ⟨j, (neOf_mem hj).mpr he, Ne.symm hne, r, hj, hh.symm⟩)
    · have u := (un_clo F P).nil r (List.mem_of_getElem? hj) hf
      exact nocl _ ((un_clo F P).conn _ _ _ ((headF_conn hF _ _).mp hh).symm u)
  · exact h j r hj he hf hs
theorem pair_open {F P : List (List Str)} (hF : ∀ r ∈ F, FactRow r) {r : List Str} (he : ¬ EmptyR r (headF F) []) (hf : ¬ FullR (Un F P) r) : r.getD 0 "" ≠ "cell" ∧ (¬ Conn F (place r) (end2 r)) ∧ ¬ Un F P (place r) (end2 r) :=
  ⟨fun z => hf (.inl z), fun c => he ⟨fun z => hf (.inl z), (headF_conn hF _ _).mpr c⟩, fun u => hf (.inr u)⟩
end K22
namespace L2
open PySem PySem.Spec
theorem comp_words {J : It} {H1 : Hp} {σ : St} {ix : List Nat} {tc : TT} {te : TE} {Q : VK} {I0 : Hp → Prop} (ws : List Str) (p : Str → Bool) (hJ : JSeq J I0 (ws.map V.str)) (h0 : I0 H1) (hz : ws.length ≤ 1000)
    (hc : ∀ n ∈ ws, ∀ H2, Same H1 H2 → ∀ Q' : Bool → Hp → Prop, (∀ H3, Same H2 H3 → Q' (p n) H3) → tc (some (.str n) :: frees σ ix) H2 Q')
    (he : ∀ (n : Str) H2 (Q' : VK), Q' (.str n) H2 → te (some (.str n) :: frees σ ix) H2 Q')
    (hQ : ∀ D H', H1 D = none → Same H1 H' → H' D = some (.lst ((ws.filter p).map V.str)) → Q (.ref D) H') : CompGo J H1 σ ix tc te Q := by
  have pv : ∀ n : Str, (fun v : V => match v with | .str i => p i | _ => false) (V.str n) = p n := fun n => rfl
  refine comp_map (ws.map V.str) (fun v => match v with | .str i => p i | _ => false) id hJ h0 (by rw [List.length_map]; exact Nat.le_trans hz (by decide)) ?_ ?_ ?_
  · intro x hx H2 e2 Q' q'
    obtain ⟨n, hn, rfl⟩ := List.mem_map.mp hx
    exact hc n hn H2 e2 Q' fun H3 e3 => q' H3 e3
  · intro x hx _ H2 e2 Q' q'
    obtain ⟨n, hn, rfl⟩ := List.mem_map.mp hx
    exact he n H2 Q' (q' H2 (Same.refl _))
  · intro D H' hD e hd
    refine hQ D H' hD e ?_
    rw [hd, List.map_id, List.filter_map]
    rfl
theorem row_keeps1 {K : PySem.W.Frag} (H H' : Hp) (a : Addr) (r : List Str) (h : RowAt K H a r) (k : ∀ b u, H b = some u → (∀ ys, u ≠ .lst ys) → H' b = some u) : RowAt K H' a r := by
  rcases h with (h | ⟨o, h⟩) | h
  · exact .inl (.inl (k _ _ h fun ys z => by cases z))
  · exact .inl (.inr ⟨o, k _ _ h fun ys z => by cases z⟩)
  · exact .inr h
theorem comp_rowsP {α β : Type} {J : It} {H1 : Hp} {σ : St} {ix : List Nat} {tc : TT} {te : TE} {Q : VK} {I0 : Hp → Prop} (xs : List V) (rs : List α) (p : α → Bool) (R : Hp → Addr → β → Prop) (f : α → β) (hJ : JSeq J I0 xs) (h0 : I0 H1) (hz : xs.length ≤ 1000) (hl : rs.length = xs.length)
    (hR : ∀ H H' a r, R H a r → (∀ b u, H b = some u → (∀ ys, u ≠ .lst ys) → H' b = some u) → R H' a r)
    (hc : ∀ (i : Nat) (x : V) (r : α), xs[i]? = some x → rs[i]? = some r → ∀ H2, Same H1 H2 → ∀ Q' : Bool → Hp → Prop, (∀ H3, Same H2 H3 → Q' (p r) H3) → tc (some x :: frees σ ix) H2 Q')
    (he : ∀ (i : Nat) (x : V) (r : α), xs[i]? = some x → rs[i]? = some r → p r = true → ∀ H2, Same H1 H2 → ∀ Q' : VK, (∀ t H3, Same H2 H3 → R H3 t (f r) → Q' (.ref t) H3) → te (some x :: frees σ ix) H2 Q')
    (hQ : ∀ D H' as, H1 D = none → Same H1 H' → H' D = some (.lst (as.map V.ref)) → Paired (fun a r => R H' a r) as ((rs.filter p).map f) → Q (.ref D) H') : CompGo J H1 σ ix tc te Q := by
  intro D hD
  have put : ∀ H ys, Same H1 H → Same H1 (upd H D (.lst ys)) := fun H ys e b u q => by rw [upd_ne (ne_of_none q hD)]; exact e b u q
  refine ⟨fun i m H => i ≤ xs.length ∧ m = xs.length - i ∧ Same H1 H ∧ ∃ as : List Addr, H D = some (.lst (as.map V.ref)) ∧ Paired (fun a r => R H a r) as (((rs.take i).filter p).map f), ⟨xs.length, Nat.zero_le _, rfl, put _ _ (Same.refl _), [], upd_same, by simpa using Paired.nil⟩, ?_⟩
  rintro i m H ⟨hi, rfl, e, as, hy, hp⟩
  have hI := hJ.stay _ _ h0 e
  by_cases hlt : i < xs.length
  · refine .inr ⟨hJ.go i H hI hlt, fun x H' hy' => ?_⟩
    obtain ⟨rfl, hx⟩ := hJ.yld i H x H' hlt hI hy'
    have hri : i < rs.length := by lia
    have hr : rs[i]? = some rs[i] := List.getElem?_eq_getElem hri
    have ht : rs.take (i + 1) = rs.take i ++ [rs[i]] := by rw [List.take_add_one, hr]; rfl
    have hlen : as.length ≤ i := by
      have h1 := Paired.length hp
      have h2 := List.length_filter_le p (rs.take i)
      rw [List.length_map] at h1
      rw [List.length_take] at h2
      lia
    refine hc i x rs[i] hx hr _ e _ fun H3 e3 => ?_
    cases hpx : p rs[i] with
    | false =>
      rw [if_neg Bool.false_ne_true]
      refine ⟨xs.length - (i + 1), by lia, hlt, rfl, e.trans e3, as, e3 _ _ hy, ?_⟩
      rw [ht, List.filter_append]
      simp only [List.filter_cons, hpx, List.filter_nil, List.append_nil, Bool.false_eq_true, if_false]
      exact Paired.mapP hp fun a r z => hR _ _ _ _ z fun b u q _ => e3 b u q
    | true =>
      rw [if_pos rfl]
      refine he i x rs[i] hx hr hpx _ (e.trans e3) _ fun t H4 e4 hR4 => ?_
      have e34 := e3.trans e4
      have hput : ∀ b u, H4 b = some u → (∀ ys, u ≠ .lst ys) → upd H4 D (.lst (as.map V.ref ++ [.ref t])) b = some u := fun b u q hn => by
        have : b ≠ D := fun z => by rw [z, e34 _ _ hy] at q; exact hn _ (Option.some.inj q).symm
        rw [upd_ne this]; exact q
      refine ⟨as.map V.ref, e34 _ _ hy, by rw [List.length_map]; exact Nat.lt_of_le_of_lt (show as.length ≤ 1000 by lia) (by decide), xs.length - (i + 1), by lia, hlt, rfl, put _ _ (e.trans e34), as ++ [t], by rw [upd_same, List.map_append]; rfl, ?_⟩
      rw [ht, List.filter_append]
      simp only [List.filter_cons, hpx, List.filter_nil, if_true]
      rw [List.map_append]
      exact Paired.snocP (Paired.mapP hp fun a r z => hR _ _ _ _ (hR _ _ _ _ z fun b u q _ => e34 b u q) hput) (hR _ _ _ _ hR4 hput)
  · have hi' : i = xs.length := by lia
    subst hi'
    refine .inl ⟨hJ.stop _ H hI (Nat.le_refl _), ?_⟩
    rw [← hl, List.take_length] at hp
    exact hQ D H as hD e hy hp
end L2
namespace K22
open PySem PySem.Spec L2 Mir Kn
noncomputable abbrev sLaw : Stmt := top 19
theorem eqOk_strs {l : List Str} (h : ∀ x ∈ l, Ok x) : EqOk (.list (dStrs l)) := by
  have h1 : PyData.canLayAll0 (dStrs l) = true := by
    unfold dStrs
    induction l with
    | nil => simp only [List.map_nil, PyData.canLayAll0]
    | cons x l ih =>
      simp only [List.map_cons, PyData.canLayAll0, Bool.and_eq_true]
      exact ⟨h x (List.mem_cons_self ..), ih fun y hy => h y (List.mem_cons_of_mem _ hy)⟩
  have h2 : PyData.depthAll (dStrs l) ≤ 0 := by
    clear h h1
    unfold dStrs
    induction l with
    | nil => simp only [List.map_nil, PyData.depthAll]; exact Nat.le_refl _
    | cons x l ih => simp only [List.map_cons, PyData.depthAll, PyData.depth]; exact Nat.max_le.mpr ⟨Nat.le_refl _, ih⟩
  refine ⟨h1, ?_⟩
  simp only [PyData.depth]
  lia
theorem strs_nil (l : List Str) : (!(dStrs l).isEmpty) = decide (0 < l.length) := by
  cases l with
  | nil => rfl
  | cons x l => simp [dStrs]
theorem depth_rows (rs : List (List Str)) : PyData.depthAll (rs.map dRow) ≤ 1 := by
  have h2 : ∀ r : List Str, PyData.depthAll (dStrs r) ≤ 0 := fun r => by
    unfold dStrs
    induction r with
    | nil => simp only [List.map_nil, PyData.depthAll]; exact Nat.le_refl _
    | cons x l ih => simp only [List.map_cons, PyData.depthAll, PyData.depth]; exact Nat.max_le.mpr ⟨Nat.le_refl _, ih⟩
  induction rs with
  | nil => simp only [List.map_nil, PyData.depthAll]; lia
  | cons r l ih =>
    have := h2 r
    simp only [List.map_cons, PyData.depthAll, dRow, PyData.depth]
    lia
theorem eqOk_two {F P : List (List Str)} (hF : ∀ r ∈ F, ∀ y ∈ r, Ok y) (hP : ∀ r ∈ P, ∀ y ∈ r, Ok y) : EqOk (.list [.list (F.map dRow), .list (P.map dRow)]) := by
  constructor
  · simp only [PyData.canLay0, PyData.canLayAll0, Bool.and_eq_true, and_true]
    have h1 := (eqOk_rowsS hF).1
    have h2 := (eqOk_rowsS hP).1
    simp only [PyData.canLay0] at h1 h2
    exact ⟨h1, h2⟩
  · have h1 := depth_rows F
    have h2 := depth_rows P
    simp only [PyData.depth, PyData.depthAll]
    lia
theorem ok_isnot {k : Str} (h : k = "is" ∨ k = "not") : Ok k := by
  rcases h with rfl | rfl
  · exact (show (PyData.str "is").canLay0 = true by decide +kernel)
  · exact (show (PyData.str "not").canLay0 = true by decide +kernel)
theorem PoolRow.fact {xs : List Str} {r : List Str} (h : PoolRow xs r) : FactRow r := by
  obtain ⟨k, u, v, h1, h2, _, _⟩ := h
  exact ⟨k, u, v, h1, h2⟩
theorem PoolRow.ok {xs : List Str} (hx : ∀ x ∈ xs, Ok x) {r : List Str} (h : PoolRow xs r) : ∀ y ∈ r, Ok y := by
  obtain ⟨k, u, v, rfl, h2, h3, h4⟩ := h
  intro y hy
  simp only [List.mem_cons, List.not_mem_nil, or_false] at hy
  rcases hy with rfl | rfl | rfl
  · exact ok_isnot h2
  · exact hx _ h3
  · exact hx _ h4
theorem PoolPart.ok {xs : List Str} (hx : ∀ x ∈ xs, Ok x) {r : List Str} (h : PoolPart xs r) : ∀ y ∈ r, Ok y := by
  have ha : ∀ {f : Str}, (f ∈ xs ∨ f = "any") → Ok f := fun {f} z => by
    rcases z with z | rfl
    · exact hx _ z
    · exact (show (PyData.str "any").canLay0 = true by decide +kernel)
  rcases h with ⟨a, f, s, rfl, h1, h2, h3⟩ | ⟨a, b, rfl, h1, h2⟩ | ⟨a, rfl, h1⟩
  · intro y hy
    simp only [List.mem_cons, List.not_mem_nil, or_false] at hy
    rcases hy with rfl | rfl | rfl | rfl
    · exact (show (PyData.str "cell").canLay0 = true by decide +kernel)
    · exact hx _ h1
    · exact ha h2
    · exact ha h3
  · intro y hy
    simp only [List.mem_cons, List.not_mem_nil, or_false] at hy
    rcases hy with rfl | rfl | rfl
    · exact (show (PyData.str "stretch").canLay0 = true by decide +kernel)
    · exact hx _ h1
    · exact hx _ h2
  · intro y hy
    simp only [List.mem_cons, List.not_mem_nil, or_false] at hy
    rcases hy with rfl | rfl
    · exact (show (PyData.str "tree").canLay0 = true by decide +kernel)
    · exact hx _ h1
theorem cut14 (ns : List Int) : ∃ ms : List Int, cutV (ns.map V.int) (some 1) (some 15) = ms.map V.int ∧ ms.length ≤ 14 := by
  refine ⟨(ns.drop (HT.sIx ns.length 0 (some 1))).take (HT.sIx ns.length ns.length (some 15) - HT.sIx ns.length 0 (some 1)), ?_, ?_⟩
  · unfold cutV
    rw [List.length_map, List.map_take, List.map_drop]
  · rw [List.length_take, List.length_drop]
    show min (min 15 ns.length - min 1 ns.length) _ ≤ 14
    lia
noncomputable def selfB (ku : List (List Key × V)) (a : Str) : Bool := (valV ku [Sum.inr a, Sum.inr a]).isSome
structure LS (K : PySem.W.Frag) (H : Hp) (pl fl ql at_ ut : Addr) (xs : List Str) (Fs Ps : List (List Str)) (ka ku : List (List Key × V)) : Prop where
  pool : H pl = some (.lst (xs.map V.str))
  F : RowsAt K H fl Fs
  F8 : Fs.length ≤ 8
  Fr : ∀ r ∈ Fs, PoolRow xs r
  P : RowsAt K H ql Ps
  P6 : Ps.length ≤ 6
  Pr : ∀ r ∈ Ps, PoolPart xs r
  a : H at_ = some (.dT ka)
  u : H ut = some (.dT ku)
  hka : ∀ a ∈ xs, ∀ b, InT ka a b ↔ Conn Fs a b
  hku : ∀ a b, InT ku a b ↔ Un Fs Ps a b
  tu : Tab xs ku
theorem LS.same {K : PySem.W.Frag} {H H' : Hp} {pl fl ql at_ ut : Addr} {xs : List Str} {Fs Ps : List (List Str)} {ka ku : List (List Key × V)} (h : LS K H pl fl ql at_ ut xs Fs Ps ka ku) (e : Same H H') : LS K H' pl fl ql at_ ut xs Fs Ps ka ku :=
  ⟨e _ _ h.pool, h.F.same e, h.F8, h.Fr, h.P.same e, h.P6, h.Pr, e _ _ h.a, e _ _ h.u, h.hka, h.hku, h.tu⟩
noncomputable def stL (a pl fl ql at_ ut : Addr) : St := [some (.ref a), some (.ref pl), some (.ref fl), some (.ref ql), some (.ref at_), some (.ref ut), none, none, none, none]
noncomputable def tIfA (K : PySem.W.Frag) : TS := fun D σ H => ∃ (a pl fl ql at_ ut : Addr) (xs : List Str) (Fs Ps : List (List Str)) (ka ku : List (List Key × V)), σ = stL a pl fl ql at_ ut ∧ LS K H pl fl ql at_ ut xs Fs Ps ka ku ∧ xs.length = 6 ∧ ("nil" : Str) ∈ xs ∧ (∀ x ∈ xs, Ok x) ∧
  ∀ fl' at' ut' Fs' ka' ku' H', LS K H' pl fl' ql at' ut' xs Fs' Ps ka' ku' → (Fs' = [] ∨ ∀ y, ¬ Un Fs' Ps y y) → D.nx (stL a pl fl' ql at' ut') H'
noncomputable def tIfB (K : PySem.W.Frag) : TS := fun D σ H => ∃ (a pl fl ql at_ ut : Addr) (xs : List Str) (Fs Ps : List (List Str)) (ka ku : List (List Key × V)), σ = stL a pl fl ql at_ ut ∧ LS K H pl fl ql at_ ut xs Fs Ps ka ku ∧ xs.length = 6 ∧ ("nil" : Str) ∈ xs ∧ (∀ x ∈ xs, Ok x) ∧ (Fs = [] ∨ ∀ y, ¬ Un Fs Ps y y) ∧
  ∀ ql' at' ut' Ps' ka' ku' H', LS K H' pl fl ql' at' ut' xs Fs Ps' ka' ku' → (∀ y, ¬ Un Fs Ps' y y) → D.nx (stL a pl fl ql' at' ut') H'
theorem stand_ne {xs : List Str} {F P : List (List Str)} {ka : List (List Key × V)} (hF : ∀ r ∈ F, FactRow r) (hP : ∀ r ∈ P, PoolPart xs r) (hka : ∀ a ∈ xs, ∀ b, InT ka a b ↔ Conn F a b) : (List.range P.length).filter (standB P ka) = neOf F P := by
  unfold neOf
  refine List.filter_congr fun n hn => ?_
  have hn := List.mem_range.mp hn
  have hr : P[n]? = some P[n] := List.getElem?_eq_getElem hn
  have hx := (hP _ (List.mem_of_getElem? hr)).place
  have h1 := standB_iff (ka := ka) hr
  have h2 : StandR ka P[n] ↔ ¬ EmptyR P[n] (headF F) [] := by
    unfold StandR EmptyR
    rw [hka _ hx, headF_conn hF]
    constructor
    · rintro (z | z) ⟨y1, y2⟩
      · exact y1 z
      · exact z y2
    · intro z
      by_cases c : P[n].getD 0 "" = "cell"
      · exact .inl c
      · exact .inr fun y => z ⟨c, y⟩
  have h3 : emptyB P (headF F) n = true ↔ EmptyR P[n] (headF F) [] := by
    rw [emptyB_iff]
    constructor
    · rintro ⟨r, z1, z2⟩
      rw [hr] at z1
      cases z1
      exact z2
    · exact fun z => ⟨_, hr, z⟩
  rw [Bool.eq_iff_iff, h1, h2, Bool.not_eq_true', ← h3]
  cases emptyB P (headF F) n <;> simp
theorem beside_shares {xs : List Str} {F P : List (List Str)} {ka : List (List Key × V)} (hF : ∀ r ∈ F, FactRow r) (hP : ∀ r ∈ P, PoolPart xs r) (hka : ∀ a ∈ xs, ∀ b, InT ka a b ↔ Conn F a b) {ns : List Nat} {k : Nat} {r : List Str} (hr : P[k]? = some r) : BesideR P ka ns k r ↔ SharesR F P ns k r := by
  have hx := (hP _ (List.mem_of_getElem? hr)).place
  unfold BesideR SharesR
  rw [hka _ hx, headF_conn hF]
  constructor
  · rintro (⟨j, h1, h2, s, h3, h4⟩ | z)
    · exact .inl ⟨j, h1, h2, s, h3, (headF_conn hF _ _).mpr ((hka _ hx _).mp h4)⟩
    · exact .inr z
  · rintro (⟨j, h1, h2, s, h3, h4⟩ | z)
    · exact .inl ⟨j, h1, h2, s, h3, (hka _ hx _).mpr ((headF_conn hF _ _).mp h4)⟩
    · exact .inr z
theorem paired_tk {α β : Type} {R : α → β → Prop} (n : Nat) {l : List α} {m : List β} (h : Paired R l m) : Paired R (l.take n) (m.take n) := by
  induction h generalizing n with
  | nil => rw [List.take_nil, List.take_nil]; exact .nil
  | cons h t ih =>
    cases n with
    | zero => exact .nil
    | succ n => rw [List.take_succ_cons, List.take_succ_cons]; exact .cons h (ih n)
noncomputable def notCell (r : List Str) : Bool := !decide (r.getD 0 "" = "cell")
theorem eqOk_row {r : List Str} (h : ∀ y ∈ r, Ok y) : EqOk (dRow r) := by
  have h1 := (eqOk_rowsS (rs := [r]) (fun r' hr' => by rw [List.mem_singleton.mp hr']; exact h)).1
  have h2 := depth_rows [r]
  simp only [List.map_cons, List.map_nil, PyData.canLay0, PyData.canLayAll0, Bool.and_eq_true, and_true] at h1
  simp only [List.map_cons, List.map_nil, PyData.depthAll] at h2
  exact ⟨h1, by lia⟩
theorem ok_lend {xs : List Str} (hx : ∀ x ∈ xs, Ok x) {r : List Str} (h : PoolPart xs r) (hc : ¬ r.getD 0 "" = "cell") : ∀ y ∈ [place r, lend r], Ok y := by
  intro y hy
  simp only [List.mem_cons, List.not_mem_nil, or_false] at hy
  rcases hy with rfl | rfl
  · exact hx _ h.place
  · rw [lend_end h.row hc]
    rcases h with ⟨a, f, s, rfl, h1, h2, h3⟩ | ⟨a, b, rfl, h1, h2⟩ | ⟨a, rfl, h1⟩
    · exact absurd rfl hc
    · exact hx _ h2
    · exact (show (PyData.str "nil").canLay0 = true by decide +kernel)
noncomputable def partB (r : List Str) : Bool := !decide (r.getD 0 "" = "cell") || !decide (place r = "nil")
theorem cut1 {α : Type} (l : List α) : (l.drop (HT.sIx l.length 0 none)).take (HT.sIx l.length l.length (some 1) - HT.sIx l.length 0 none) = l.take 1 := by
  show (l.drop 0).take (min 1 l.length - 0) = l.take 1
  rw [List.drop_zero, Nat.sub_zero]
  cases l with
  | nil => rfl
  | cons x l => rfl
theorem one_none (P : List (List Str)) (y : Str) : ¬ Un [] ((P.take 1).filter partB) y y := by
  cases P with
  | nil => exact un_none y
  | cons p P =>
    show ¬ Un [] (([p] : List (List Str)).filter partB) y y
    by_cases c : partB p = true
    · rw [List.filter_cons_of_pos c]
      refine un_one (fun z => ?_) y
      unfold partB at c
      rw [decide_eq_true z.1, decide_eq_true z.2] at c
      cases c
    · rw [List.filter_cons_of_neg c]
      exact un_none y
section
variable {P : Program} {w : World} {K : PySem.W.Frag} {mg : Str → Option Value} {base : Heap} {f gC gN gD gW gO gT gE : Addr} {fd dC dN dD dW dO dT dE : FuncData}
theorem scLaw : FnScope ["_law_script", "_law_pool", "_law_facts", "_law_parts", "_law_alike", "_law_unlike", "_law_handed", "_law_found", "_law_doubtful_here", "_law_ends_here"] ["_law_script"] (defScope sLaw) := ⟨rfl, rfl, rfl, by decide +kernel, rfl, by decide +kernel, by decide +kernel⟩
theorem ok_law (C : Con K mg w) (F : Fun K "law" "law" sLaw f fd)
    (GC : FnOk P w K mg base CX0 1 gC dC ["_law_script", "_law_k"] (spCell K)) (cC : Cal K mg "_law_cell_at" gC dC ["_law_script", "_law_k"])
    (GN : FnOk P w K mg base CX0 2 gN dN ["_law_cell", "_law_many"] (spNames K)) (cN : Cal K mg "_law_names" gN dN ["_law_cell", "_law_many"])
    (GD : FnOk P w K mg base CX0 2 gD dD ["_law_cells", "_law_pool"] (spDrawn K)) (cD : Cal K mg "_law_drawn" gD dD ["_law_cells", "_law_pool"])
    (GW : FnOk P w K mg base CX0 4 gW dW ["_law_facts", "_law_parts", "_law_pool"] (spKnownL K)) (cW : Cal K mg "_law_known" gW dW ["_law_facts", "_law_parts", "_law_pool"])
    (GO : FnOk P w K mg base CX0 7 gO dO ["facts", "parts"] (spOpenP K)) (cO : Cal K mg "open_pair" gO dO ["facts", "parts"])
    (GT : FnOk P w K mg base CX0 3 gT dT ["_law_parts", "_law_alike"] (spDoubt K)) (cT : Cal K mg "_law_doubtful" gT dT ["_law_parts", "_law_alike"])
    (GE : FnOk P w K mg base CX0 1 gE dE ["_law_part"] (spLEnds K)) (cE : Cal K mg "_law_ends" gE dE ["_law_part"]) : FnOk P w K mg base CX0 8 f fd ["_law_script"] (spLaw K) := by
  refine F.okQ scLaw (fun vs H Q E h => ?_) (fun cdv A outer s0 H vs Q E hr h => ?_)
  · obtain ⟨c, k, rfl, _⟩ := h; rfl
  obtain ⟨a, ns, rfl, hA, q⟩ := h
  have nd := scLaw.nd
  have hu1 := hu_of hr
  have hu := Nat.lt_of_le_of_lt (Nat.add_le_add_left (show 32 ≤ 64 by decide) _) hr.units
  have hr1 := hr.mono (j := 1) (by lia)
  have hr2 := hr.mono (j := 2) (by lia)
  have hr3 := hr.mono (j := 3) (by lia)
  have hr4 := hr.mono (j := 4) (by lia)
  have hr7 := hr.mono (j := 7) (by lia)
  refine ⟨_, qb_cons (qs_set (i := 1) nd rfl (Or.inl rfl) (qe_op op_cat (qe_call GN hr2 rfl cN.name cN.keep cN.bind .nil pass0 (qa_call (qe_call GC hr1 rfl cC.name cC.keep cC.bind .nil pass0 (qa_nm (qv 0) (qa_int qa_nil))) (qa_int qa_nil))) (qe_lst (qa_str qa_nil))))
    (qb_cons (qs_flat (qs_asg (qe_call GD hr2 rfl cD.name cD.keep cD.bind .nil pass0 (qa_sub (qe_slice sl_list (qv 0) (qo_some qe_int) (qo_some qe_int)) (qa_nm (qv 1) qa_nil))) (qg_tup2 (qg_name (i := 2) nd rfl (Or.inl rfl)) (qg_name (i := 3) nd rfl (Or.inl rfl)))))
    (qb_cons (qs_flat (qs_asg (qe_call GW hr4 rfl cW.name cW.keep cW.bind .nil pass0 (qa_nm (qv 2) (qa_nm (qv 3) (qa_nm (qv 1) qa_nil)))) (qg_tup2 (qg_name (i := 4) nd rfl (Or.inl rfl)) (qg_name (i := 5) nd rfl (Or.inr rfl)))))
    (qb_cons (qs_weak (t' := tIfA K) (qs_if (qt_cmpR (op_neD hu) (qe_compG ["_law_a", "_law_unlike"] [5] (qi_list (qv 1)) (fun _ _ _ _ => (qts_one (qt_din hu1 (qe_tup (qa_nm (qv 0) (qa_nm (qv 0) qa_nil))) (qv 1)))) (fun _ _ _ _ => (qv 0))) (qe_lst qa_nil) (nomark _)) (qb_cons (qs_set (i := 2) nd rfl (Or.inl rfl) (qe_lst qa_nil))
    (qb_one (qs_asg (qe_call GW hr4 rfl cW.name cW.keep cW.bind .nil pass0 (qa_nm (qv 2) (qa_nm (qv 3) (qa_nm (qv 1) qa_nil)))) (qg_tup2 (qg_name (i := 4) nd rfl (Or.inl rfl)) (qg_name (i := 5) nd rfl (Or.inr rfl)))))) qb_nil) (fun D σ H hh => by
      obtain ⟨a, pl, fl, ql, at_, ut, xs, Fs, Ps, ka, ku, rfl, hL, hx6, hnil, hok, nx⟩ := hh
      refine ⟨_, rfl, pl, rfl, ⟨_, SqL.of hL.pool⟩, ?_⟩
      refine comp_words xs (selfB ku) jseq_list (SqL.of hL.pool) (by lia) (fun y hy H2 e2 Q' q' => ?_) (fun y H2 Q' q' => ⟨_, rfl, q'⟩) fun D1 H1 hD1 e1 hd1 => ?_
      · refine ⟨_, rfl, _, rfl, (show 2 ≤ sizeLine by decide), fun t3 ht3 => ?_⟩
        have s3 := same_new ht3 (.tup [.str y, .str y])
        refine ⟨_, rfl, ut, _, rfl, DGet.t (k := [Sum.inr y, Sum.inr y]) (s3 _ _ (e2 _ _ hL.u)) upd_same, _, rfl, ?_⟩
        have := q' _ s3
        exact this
      refine ⟨Nat.zero_le _, fun ln hln => ?_⟩
      have s2 := same_new hln (.lst [])
      refine ⟨.list (dStrs (xs.filter (selfB ku))), .list [], .lst (SqL.of (s2 _ _ hd1)) (dp_strs _), .lst (SqL.of upd_same) .nil, eqOk_strs (fun x hx => hok x (List.mem_filter.mp hx).1), eqOk_strs (l := []) (fun x hx => by simp at hx), _, rfl, ?_⟩
      rw [eqv_nil, strs_nil]
      have hL2 := hL.same (e1.trans s2)
      clear hd1 hD1
      generalize upd H1 ln (.lst []) = H2 at hL2 ⊢
      clear e1 s2 hln
      have hno : decide (0 < (xs.filter (selfB ku)).length) = false → ∀ y, ¬ Un Fs Ps y y := fun c y u => by
        have c' : ¬ 0 < (xs.filter (selfB ku)).length := of_decide_eq_false c
        have hi := (hL.hku y y).mpr u
        exact c' (List.length_pos_of_mem (List.mem_filter.mpr ⟨(hL.tu.words hi).1, hi⟩))
      refine iteB (fun c => ?_) (fun c => nx fl at_ ut Fs ka ku H2 hL2 (.inr (hno c)))
      refine ⟨Nat.zero_le _, fun n1 hn1 => ?_⟩
      have s3 := same_new hn1 (.lst [])
      have hL3 := hL2.same s3
      have hF3 : RowsAt K (upd H2 n1 (.lst [])) n1 [] := ⟨[], upd_same, .nil⟩
      generalize upd H2 n1 (.lst []) = H3 at hL3 hF3 ⊢
      refine ⟨_, rfl, _, rfl, _, rfl, n1, ql, pl, [], Ps, xs, rfl, hF3, Nat.zero_le _, (fun r hr => by cases hr), hL3.P, hL3.P6, hL3.Pr, hL3.pool, hx6, hnil, fun t2 at2 ut2 ka2 ku2 H4 e4 ht4 ha4 hu4 hka4 hku4 Tu4 => ?_⟩
      refine ⟨t2, _, rfl, SqT.of ht4, rfl, _, _, rfl, _, _, rfl, rfl, ?_⟩
      exact nx n1 at2 ut2 [] ka2 ku2 H4 ⟨e4 _ _ hL3.pool, hF3.same e4, Nat.zero_le _, (fun r hr => by cases hr), hL3.P.same e4, hL3.P6, hL3.Pr, ha4, hu4, hka4, hku4, Tu4⟩ (.inl rfl)))
    (qb_cons (qs_weak (t' := tIfB K) (qs_if (qt_cmpR (op_neD hu) (qe_compG ["_law_a", "_law_unlike"] [5] (qi_list (qv 1)) (fun _ _ _ _ => (qts_one (qt_din hu1 (qe_tup (qa_nm (qv 0) (qa_nm (qv 0) qa_nil))) (qv 1)))) (fun _ _ _ _ => (qv 0))) (qe_lst qa_nil) (nomark _)) (qb_cons (qs_setCG ["_law_part"] [] (i := 3) nd rfl (Or.inl rfl) (qi_list (qe_slice sl_list (qv 3) qo_none (qo_some qe_int))) (fun _ _ _ _ => (qts_one (QW.qt (qw_or (qt_cmpR op_ne (qe_ix (ixTK (K := K) rfl) (qv 0) qe_int (fun _ _ => rfl)) qe_str (nomark _)) (qw_or1 (qt_cmpR op_ne (qe_ix (ixTK (K := K) rfl) (qv 0) qe_int (fun _ _ => rfl)) qe_str (nomark _))))))) (fun _ _ _ _ => (qv 0)) (hcs := by intro p hp; cases hp) (hix := by intro j hj; cases hj))
    (qb_one (qs_asg (qe_call GW hr4 rfl cW.name cW.keep cW.bind .nil pass0 (qa_nm (qv 2) (qa_nm (qv 3) (qa_nm (qv 1) qa_nil)))) (qg_tup2 (qg_name (i := 4) nd rfl (Or.inl rfl)) (qg_name (i := 5) nd rfl (Or.inr rfl)))))) qb_nil) (fun D σ H hh => by
      obtain ⟨a, pl, fl, ql, at_, ut, xs, Fs, Ps, ka, ku, rfl, hL, hx6, hnil, hok, hcl, nx⟩ := hh
      refine ⟨_, rfl, pl, rfl, ⟨_, SqL.of hL.pool⟩, ?_⟩
      refine comp_words xs (selfB ku) jseq_list (SqL.of hL.pool) (by lia) (fun y hy H2 e2 Q' q' => ?_) (fun y H2 Q' q' => ⟨_, rfl, q'⟩) fun D1 H1 hD1 e1 hd1 => ?_
      · refine ⟨_, rfl, _, rfl, (show 2 ≤ sizeLine by decide), fun t3 ht3 => ?_⟩
        have s3 := same_new ht3 (.tup [.str y, .str y])
        refine ⟨_, rfl, ut, _, rfl, DGet.t (k := [Sum.inr y, Sum.inr y]) (s3 _ _ (e2 _ _ hL.u)) upd_same, _, rfl, ?_⟩
        have := q' _ s3
        exact this
      refine ⟨Nat.zero_le _, fun ln hln => ?_⟩
      have s2 := same_new hln (.lst [])
      refine ⟨.list (dStrs (xs.filter (selfB ku))), .list [], .lst (SqL.of (s2 _ _ hd1)) (dp_strs _), .lst (SqL.of upd_same) .nil, eqOk_strs (fun x hx => hok x (List.mem_filter.mp hx).1), eqOk_strs (l := []) (fun x hx => by simp at hx), _, rfl, ?_⟩
      rw [eqv_nil, strs_nil]
      have hL2 := hL.same (e1.trans s2)
      clear hd1 hD1
      generalize upd H1 ln (.lst []) = H2 at hL2 ⊢
      clear e1 s2 hln
      have hno : decide (0 < (xs.filter (selfB ku)).length) = false → ∀ y, ¬ Un Fs Ps y y := fun c y u => by
        have c' : ¬ 0 < (xs.filter (selfB ku)).length := of_decide_eq_false c
        have hi := (hL.hku y y).mpr u
        exact c' (List.length_pos_of_mem (List.mem_filter.mpr ⟨(hL.tu.words hi).1, hi⟩))
      refine iteB (fun c => ?_) (fun c => nx ql at_ ut Ps ka ku H2 hL2 (hno c))
      have hF0 : Fs = [] := by
        refine hcl.elim id fun z => ?_
        obtain ⟨y, hy⟩ := List.exists_mem_of_length_pos (of_decide_eq_true c)
        exact absurd ((hL.hku y y).mp (List.mem_filter.mp hy).2) (z y)
      subst hF0
      obtain ⟨pas, hpl, hpp⟩ := id hL2.P
      refine ⟨_, rfl, _, rfl, ql, _, rfl, SqL.of hpl, fun p1 hp1 => ?_⟩
      have hcv : cutV (pas.map V.ref) none (some 1) = (pas.take 1).map V.ref := by
        unfold cutV
        rw [cut1, List.map_take]
      rw [hcv]
      have s3 := same_new hp1 (.lst ((pas.take 1).map V.ref))
      have hp3 : (upd H2 p1 (.lst ((pas.take 1).map V.ref))) p1 = some (.lst ((pas.take 1).map V.ref)) := upd_same
      have hL3 := hL2.same s3
      have hpp3 : Paired (fun b r => RowAt K (upd H2 p1 (.lst ((pas.take 1).map V.ref))) b r) (pas.take 1) (Ps.take 1) := Paired.mapP (paired_tk 1 hpp) fun _ _ z => RowAt.same z s3
      generalize upd H2 p1 (.lst ((pas.take 1).map V.ref)) = H3 at s3 hp3 hL3 hpp3 ⊢
      refine ⟨p1, rfl, ⟨_, SqL.of hp3⟩, ?_⟩
      have hlt : (pas.take 1).length ≤ 1 := by rw [List.length_take]; lia
      refine comp_rowsP ((pas.take 1).map V.ref) (Ps.take 1) partB (fun H a r => RowAt K H a r) id jseq_list (SqL.of hp3) (by rw [List.length_map]; lia) (by rw [List.length_map]; exact (Paired.length hpp3).symm) row_keeps1 (fun i x r hx hr' H4 e4 Q' q' => ?_) (fun i x r hx hr' hpr H4 e4 Q' q' => ?_) fun D4 H4 as4 hD4 e4 hd4 pr4 => ?_
      · obtain ⟨b, hb, rfl⟩ : ∃ b, (pas.take 1)[i]? = some b ∧ x = .ref b := by
          rw [List.getElem?_map] at hx
          cases hz : (pas.take 1)[i]? with
          | none => rw [hz] at hx; cases hx
          | some b => rw [hz] at hx; exact ⟨b, rfl, (Option.some.inj hx).symm⟩
        have hR : RowAt K H4 b r := (Paired.at2 hpp3 hb hr').same e4
        have hp := (hL3.Pr r (List.mem_of_mem_take (List.mem_of_getElem? hr'))).row
        refine ⟨_, rfl, b, _, 0, _, rfl, rfl, hR, hp.at0, rfl, _, rfl, iteB (fun c => ?_) (fun c => ?_)⟩
        · have := q' H4 (Same.refl _)
          unfold partB at this
          have c' : ¬ r.getD 0 "" = "cell" := by simpa using c
          rw [decide_eq_false c'] at this
          exact this
        · have c' : r.getD 0 "" = "cell" := by simpa using c
          refine ⟨_, rfl, b, _, 1, _, rfl, rfl, hR, hp.at1, rfl, _, rfl, ?_⟩
          have := q' H4 (Same.refl _)
          unfold partB at this
          rw [decide_eq_true c'] at this
          simpa using this
      · obtain ⟨b, hb, rfl⟩ : ∃ b, (pas.take 1)[i]? = some b ∧ x = .ref b := by
          rw [List.getElem?_map] at hx
          cases hz : (pas.take 1)[i]? with
          | none => rw [hz] at hx; cases hx
          | some b => rw [hz] at hx; exact ⟨b, rfl, (Option.some.inj hx).symm⟩
        exact ⟨_, rfl, q' b H4 (Same.refl _) ((Paired.at2 hpp3 hb hr').same e4)⟩
      rw [List.map_id] at pr4
      have hQ4 : RowsAt K H4 D4 ((Ps.take 1).filter partB) := ⟨as4, hd4, pr4⟩
      have hL4 := hL3.same e4
      have hsub : ∀ r ∈ (Ps.take 1).filter partB, PoolPart xs r := fun r hr => hL3.Pr r (List.mem_of_mem_take (List.mem_filter.mp hr).1)
      have hl6 : ((Ps.take 1).filter partB).length ≤ 6 := by
        have h1 := List.length_filter_le partB (Ps.take 1)
        rw [List.length_take] at h1
        lia
      refine ⟨_, rfl, _, rfl, _, rfl, fl, D4, pl, [], (Ps.take 1).filter partB, xs, rfl, hL4.F, Nat.zero_le _, hL4.Fr, hQ4, hl6, hsub, hL4.pool, hx6, hnil, fun t2 at2 ut2 ka2 ku2 H5 e5 ht5 ha5 hu5 hka5 hku5 Tu5 => ?_⟩
      refine ⟨t2, _, rfl, SqT.of ht5, rfl, _, _, rfl, _, _, rfl, rfl, ?_⟩
      exact nx D4 at2 ut2 _ ka2 ku2 H5 ⟨e5 _ _ hL4.pool, hL4.F.same e5, Nat.zero_le _, hL4.Fr, hQ4.same e5, hl6, hsub, ha5, hu5, hka5, hku5, Tu5⟩ (one_none Ps)))
    (qb_cons (qs_set (i := 6) nd rfl (Or.inl rfl) (qe_lst (qa_call (qe_callTy call_list_of rfl C.list PyProof.Rows.boot_list (qa_nm (qv 2) qa_nil)) (qa_call (qe_callTy call_list_of rfl C.list PyProof.Rows.boot_list (qa_nm (qv 3) qa_nil)) qa_nil))))
    (qb_cons (qs_set (i := 7) nd rfl (Or.inl rfl) (qe_call GO hr7 rfl cO.name cO.keep cO.bind .nil pass0 (qa_sub (qe_ix ix_list (qv 6) qe_int (fun _ _ => rfl)) (qa_sub (qe_ix ix_list (qv 6) qe_int (fun _ _ => rfl)) qa_nil))))
    (qb_cons (qs_if (qt_cmpR (op_neD hu) (qv 6) (qe_lst (qa_nm (qv 2) (qa_nm (qv 3) qa_nil))) (nomark _)) (qb_one (qs_ret qe_bl)) qb_nil)
    (qb_cons (qs_set (i := 8) nd rfl (Or.inl rfl) (qe_call GT hr3 rfl cT.name cT.keep cT.bind .nil pass0 (qa_nm (qv 3) (qa_nm (qv 4) qa_nil))))
    (qb_cons (qs_if (qt_cmpR (op_eqD hu) (qv 8) (qe_lst qa_nil) (nomark _)) (qb_one (qs_ret (qe_cmpR op_isN (qv 7) qe_non (nomark _)))) qb_nil)
    (qb_cons (qs_if (QW.qt (qw_or (qt_not (qt_val (qe_callB call_isi_tuple rfl C.isi PyProof.Rows.boot_isinstance (qa_nm (qv 7) (qa_nm ⟨gty C.tuple PyProof.Rows.boot_tuple⟩ qa_nil))))) (qw_or1 (qt_cmpR op_ne (qe_callB call_len_seq rfl C.len PySem.boot_len (qa_nm (qv 7) qa_nil)) qe_int (nomark _))))) (qb_one (qs_ret qe_bl)) qb_nil)
    (qb_cons (qs_if (QW.qt (qw_or (qt_not (qt_val (qe_callB call_isi_str rfl C.isi PyProof.Rows.boot_isinstance (qa_sub (qe_ix ix_tup (qv 7) qe_int (fun _ _ => rfl)) (qa_nm ⟨gty C.str PyProof.Rows.boot_str⟩ qa_nil))))) (qw_or1 (qt_not (qt_val (qe_callB call_isi_str rfl C.isi PyProof.Rows.boot_isinstance (qa_sub (qe_ix ix_tup (qv 7) qe_int (fun _ _ => rfl)) (qa_nm ⟨gty C.str PyProof.Rows.boot_str⟩ qa_nil)))))))) (qb_one (qs_ret qe_bl)) qb_nil)
    (qb_cons (qs_if (QW.qt (qw_or (qt_din hu1 (qv 7) (qv 4)) (qw_or1 (qt_din hu1 (qv 7) (qv 5))))) (qb_one (qs_ret qe_bl)) qb_nil)
    (qb_cons (qs_setCG ["_law_part"] [] (i := 9) nd rfl (Or.inl rfl) (qi_list (qv 8)) (fun _ _ _ _ => (qts_one (qt_cmpR op_ne (qe_ix (ixTK (K := K) rfl) (qv 0) qe_int (fun _ _ => rfl)) qe_str (nomark _)))) (fun _ _ _ _ => (qe_call GE hr1 rfl cE.name cE.keep cE.bind .nil pass0 (qa_nm (qv 0) qa_nil))) (hcs := by intro p hp; cases hp) (hix := by intro j hj; cases hj))
    (qb_one (qs_ret (qe_or (qe_cmpR (op_inD hu) (qv 7) (qv 9) (by with_unfolding_all rfl)) (qe_one (qe_cmpR (op_inD hu) (qe_tup (qa_sub (qe_ix ix_tup (qv 7) qe_int (fun _ _ => rfl)) (qa_sub (qe_ix ix_tup (qv 7) qe_int (fun _ _ => rfl)) qa_nil))) (qv 9) (by with_unfolding_all rfl))))))))))))))))))), ?_⟩
  refine ⟨_, rfl, a, ns, 0, rfl, hA, cellAt ns 0, 5, rfl, by decide, fun l0 ys H1 e1 hL0 hy5 hynm => ?_⟩
  refine ⟨(show 1 ≤ sizeLine by decide), fun l1 hl1 => ?_⟩
  have e2 := e1.trans (same_new hl1 (.lst [.str "nil"]))
  refine ⟨l0, l1, _, _, rfl, rfl, same_new hl1 _ _ _ hL0, upd_same, ?_, fun pl hpl => ?_⟩
  · rw [List.length_map, hy5]; decide
  have e3 := e2.trans (same_new hpl (.lst (ys.map V.str ++ [.str "nil"])))
  have hX3 : (upd (upd H1 l1 (.lst [.str "nil"])) pl (.lst (ys.map V.str ++ [.str "nil"]))) pl = some (.lst ((ys ++ [("nil" : Str)]).map V.str)) := by rw [upd_same, List.map_append]; rfl
  generalize upd (upd H1 l1 (.lst [.str "nil"])) pl (.lst (ys.map V.str ++ [.str "nil"])) = H3 at e3 hX3 ⊢
  obtain ⟨xs, hxs, hx6, hok, hnil⟩ : ∃ xs : List Str, ys ++ [("nil" : Str)] = xs ∧ xs.length = 6 ∧ (∀ x ∈ xs, Ok x) ∧ ("nil" : Str) ∈ xs := ⟨_, rfl, by rw [List.length_append, hy5]; rfl, fun x hx => by
    rcases List.mem_append.mp hx with z | z
    · exact (hynm x z).ok
    · rw [List.mem_singleton.mp z]; exact (show (PyData.str "nil").canLay0 = true by decide +kernel), List.mem_append.mpr (.inr (List.mem_singleton.mpr rfl))⟩
  rw [hxs] at hX3
  clear hxs hynm hy5 hL0 e1 e2 hl1 hpl
  have hA3 := e3.seq hA
  obtain ⟨ms, hms, hm14⟩ := cut14 ns
  refine ⟨_, rfl, _, rfl, _, rfl, a, _, rfl, hA3, fun p hp => ?_⟩
  rw [hms]
  have s4 := same_new hp (.lst (ms.map V.int))
  refine ⟨_, rfl, p, pl, ms, xs, rfl, SqL.of upd_same, hm14, s4 _ _ hX3, hx6, hnil, fun t fl ql Fs Ps H5 e5 ht _ hF hQ hF8 hP6 hFr hPr => ?_⟩
  have hX5 := e5 _ _ (s4 _ _ hX3)
  clear s4 e5 hA3 hX3 e3
  refine ⟨t, _, rfl, ht, rfl, _, _, rfl, _, _, rfl, rfl, ?_⟩
  intro τ eτ
  obtain rfl : τ = [some (.ref a), some (.ref pl), some (.ref fl), some (.ref ql), none, none, none, none, none, none] := eτ
  refine ⟨_, rfl, _, rfl, _, rfl, fl, ql, pl, Fs, Ps, xs, rfl, hF, hF8, hFr, hQ, hP6, hPr, hX5, hx6, hnil, fun t2 at_ ut ka ku H6 e6 ht2 ha6 hu6 hka hku Tu => ?_⟩
  refine ⟨t2, _, rfl, SqT.of ht2, rfl, _, _, rfl, _, _, rfl, rfl, ?_⟩
  intro τ eτ
  obtain rfl : τ = stL a pl fl ql at_ ut := eτ
  refine ⟨a, pl, fl, ql, at_, ut, xs, Fs, Ps, ka, ku, rfl, ⟨e6 _ _ hX5, hF.same e6, hF8, hFr, hQ.same e6, hP6, hPr, ha6, hu6, hka, hku, Tu⟩, hx6, hnil, hok, ?_⟩
  clear ht2 ha6 hu6 hka hku Tu e6 hX5 hF hQ hF8 hP6 hFr hPr ht hms hm14 hp
  intro fl at_ ut Fs ka ku H7 hL7 hcl
  refine ⟨a, pl, fl, ql, at_, ut, xs, Fs, Ps, ka, ku, rfl, hL7, hx6, hnil, hok, hcl, ?_⟩
  clear hL7 hcl
  intro ql at_ ut Ps ka ku H6 hL nocl
  have hrow : ∀ r ∈ Fs, FactRow r := fun r hr => (hL.Fr r hr).fact
  have hprow : ∀ r ∈ Ps, PartRow r := fun r hr => (hL.Pr r hr).row
  have hFok : ∀ r ∈ Fs, ∀ y ∈ r, Ok y := fun r hr => (hL.Fr r hr).ok hok
  have hPok : ∀ r ∈ Ps, ∀ y ∈ r, Ok y := fun r hr => (hL.Pr r hr).ok hok
  obtain ⟨fas, hfl, hfp⟩ := id hL.F
  obtain ⟨pas, hql, hpp⟩ := id hL.P
  have hF8 := hL.F8
  have hP6 := hL.P6
  refine ⟨_, rfl, fl, _, rfl, .inl (SqL.of hfl), fun f2 hf2 => ?_⟩
  have s7 := same_new hf2 (.lst (fas.map V.ref))
  refine ⟨_, rfl, ql, _, rfl, .inl (SqL.of (s7 _ _ hql)), fun q2 hq2 => ?_⟩
  have s8 := s7.trans (same_new hq2 (.lst (pas.map V.ref)))
  have hf8 : (upd (upd H6 f2 (.lst (fas.map V.ref))) q2 (.lst (pas.map V.ref))) f2 = some (.lst (fas.map V.ref)) := same_new hq2 _ _ _ upd_same
  have hq8 : (upd (upd H6 f2 (.lst (fas.map V.ref))) q2 (.lst (pas.map V.ref))) q2 = some (.lst (pas.map V.ref)) := upd_same
  generalize upd (upd H6 f2 (.lst (fas.map V.ref))) q2 (.lst (pas.map V.ref)) = H8 at s8 hf8 hq8 ⊢
  refine ⟨(show 2 ≤ sizeLine by decide), fun hl hhl => ?_⟩
  have s9 := same_new hhl (.lst [.ref f2, .ref q2])
  have hh9 : (upd H8 hl (.lst [.ref f2, .ref q2])) hl = some (.lst [.ref f2, .ref q2]) := upd_same
  have e9 := s8.trans s9
  have hf9 := s9 _ _ hf8
  have hq9 := s9 _ _ hq8
  generalize upd H8 hl (.lst [.ref f2, .ref q2]) = H9 at e9 hh9 hf9 hq9 ⊢
  have hF9 : RowsAt K H9 f2 Fs := ⟨fas, hf9, Paired.mapP hfp fun _ _ z => RowAt.same z e9⟩
  have hQ9 : RowsAt K H9 q2 Ps := ⟨pas, hq9, Paired.mapP hpp fun _ _ z => RowAt.same z e9⟩
  have hL9 := hL.same e9
  clear s7 s8 s9 hf8 hq8 hhl hq2 hf2 hfl hql hfp hpp e9 hL
  have heq : PyData.eqv (.list [.list (Fs.map dRow), .list (Ps.map dRow)]) (.list [.list (Fs.map dRow), .list (Ps.map dRow)]) = true := PySem.SeqAt.eqv_refl _ (eqOk_two hFok hPok).1
  have dph : ∀ {Hx : Hp}, Same H9 Hx → Dp K Hx (.ref hl) (.list [.list (Fs.map dRow), .list (Ps.map dRow)]) := fun e => .lst (SqL.of (e _ _ hh9)) (.cons (hF9.same e).dp (.cons (hQ9.same e).dp .nil))
  have dpn : ∀ {Hx : Hp} {l : Addr}, Same H9 Hx → Hx l = some (.lst [.ref fl, .ref ql]) → Dp K Hx (.ref l) (.list [.list (Fs.map dRow), .list (Ps.map dRow)]) := fun e h => .lst (SqL.of h) (.cons (hL9.F.same e).dp (.cons (hL9.P.same e).dp .nil))
  have hst := stand_ne hrow hL9.Pr hL9.hka
  refine ⟨_, rfl, hl, _, 0, .ref f2, rfl, rfl, SqL.of hh9, rfl, _, rfl, hl, _, 1, .ref q2, rfl, rfl, SqL.of hh9, rfl, f2, q2, Fs, Ps, rfl, hF9, by lia, hrow, hQ9, by lia, hprow, fun H10 e10 hno => ?_, fun j r t H10 e10 hj he hf hs hT => ?_⟩
  · refine ⟨_, rfl, _, rfl, _, rfl, (show 2 ≤ sizeLine by decide), fun l5 hl5 => ?_⟩
    have s11 := same_new hl5 (.lst [.ref fl, .ref ql])
    refine ⟨_, _, dph (e10.trans s11), dpn (e10.trans s11) upd_same, eqOk_two hFok hPok, eqOk_two hFok hPok, _, rfl, ?_⟩
    rw [heq]
    refine iteB (fun c => by cases c) (fun _ => ?_)
    have e11 := e10.trans s11
    clear s11
    generalize upd H10 l5 (.lst [.ref fl, .ref ql]) = H11 at e11 ⊢
    refine ⟨_, rfl, _, rfl, ql, at_, Ps, ka, rfl, hL9.P.same e11, by lia, hprow, e11 _ _ hL9.a, fun D ds H12 e12 hD hd15 hmem => ?_⟩
    have hds : ds = [] := by
      refine List.eq_nil_iff_forall_not_mem.mpr fun r hr => ?_
      obtain ⟨k, hk, hkr, hb⟩ := (hmem r).mp hr
      rw [hst] at hk hb
      exact none_right hrow nocl hno hkr ((neOf_mem hkr).mp hk) ((beside_shares hrow hL9.Pr hL9.hka hkr).mp hb)
    subst hds
    refine ⟨_, rfl, Nat.zero_le _, fun ln hln => ?_⟩
    refine ⟨.list (([] : List (List Str)).map dRow), .list [], (hD.same (same_new hln _)).dp, .lst (SqL.of upd_same) .nil, eqOk_strs (l := []) (fun x hx => by cases hx), eqOk_strs (l := []) (fun x hx => by cases hx), _, rfl, iteB (fun _ => ?_) (fun c => by cases c)⟩
    refine ⟨_, rfl, rfl, ?_⟩
    rw [decide_eq_true rfl]
    exact q _
  · refine ⟨_, rfl, _, rfl, _, rfl, (show 2 ≤ sizeLine by decide), fun l5 hl5 => ?_⟩
    have s11 := same_new hl5 (.lst [.ref fl, .ref ql])
    refine ⟨_, _, dph (e10.trans s11), dpn (e10.trans s11) upd_same, eqOk_two hFok hPok, eqOk_two hFok hPok, _, rfl, ?_⟩
    rw [heq]
    refine iteB (fun c => by cases c) (fun _ => ?_)
    have e11 := e10.trans s11
    have hT11 := s11 _ _ hT
    clear s11 hT
    generalize upd H10 l5 (.lst [.ref fl, .ref ql]) = H11 at e11 hT11 ⊢
    refine ⟨_, rfl, _, rfl, ql, at_, Ps, ka, rfl, hL9.P.same e11, by lia, hprow, e11 _ _ hL9.a, fun D ds H12 e12 hD hd15 hmem => ?_⟩
    have hrd : r ∈ ds := by
      refine (hmem r).mpr ⟨j, ?_, hj, ?_⟩
      · rw [hst]; exact (neOf_mem hj).mpr he
      · rw [hst]; exact (beside_shares hrow hL9.Pr hL9.hka hj).mpr hs
    have hds : ∀ s ∈ ds, s ∈ Ps := fun s hs' => by
      obtain ⟨k, _, hk, _⟩ := (hmem s).mp hs'
      exact List.mem_of_getElem? hk
    obtain ⟨hncell, hnc, hnu⟩ := pair_open hrow he hf
    have hrp := hL9.Pr r (List.mem_of_getElem? hj)
    refine ⟨_, rfl, Nat.zero_le _, fun ln hln => ?_⟩
    have s13 := same_new hln (.lst [])
    refine ⟨.list (ds.map dRow), .list [], (hD.same s13).dp, .lst (SqL.of upd_same) .nil, eqOk_rowsS (fun s hs' => hPok s (hds s hs')), eqOk_strs (l := []) (fun x hx => by cases hx), _, rfl, ?_⟩
    rw [eqv_nil]
    have hie : (ds.map dRow).isEmpty = false := by
      cases ds with
      | nil => cases hrd
      | cons x l => rfl
    rw [hie]
    refine iteB (fun c => by cases c) (fun _ => ?_)
    have e13 := (e11.trans e12).trans s13
    have hT13 := s13 _ _ (e12 _ _ hT11)
    have hD13 := hD.same s13
    clear s13 hD hT11 e12 e11
    generalize upd H12 ln (.lst []) = H13 at e13 hT13 hD13 ⊢
    refine ⟨_, rfl, t, _, rfl, SqT.of hT13, true, rfl, iteN rfl ?_⟩
    refine ⟨_, rfl, t, _, rfl, .inr (SqT.of hT13), rfl, _, rfl, iteB (fun c => by simp at c) (fun _ => ?_)⟩
    refine ⟨_, rfl, t, _, 0, .str (place r), rfl, rfl, SqT.of hT13, rfl, _, rfl, true, rfl, iteN rfl ?_⟩
    refine ⟨_, rfl, t, _, 1, .str (end2 r), rfl, rfl, SqT.of hT13, rfl, _, rfl, true, rfl, iteN rfl ?_⟩
    have hka : (valV ka [Sum.inr (place r), Sum.inr (end2 r)]).isSome = false := by
      cases hz : (valV ka [Sum.inr (place r), Sum.inr (end2 r)]).isSome with
      | false => rfl
      | true => exact absurd ((hL9.hka _ hrp.place _).mp hz) hnc
    have hku : (valV ku [Sum.inr (place r), Sum.inr (end2 r)]).isSome = false := by
      cases hz : (valV ku [Sum.inr (place r), Sum.inr (end2 r)]).isSome with
      | false => rfl
      | true => exact absurd ((hL9.hku _ _).mp hz) hnu
    refine ⟨_, rfl, _, rfl, at_, _, rfl, DGet.t (k := [Sum.inr (place r), Sum.inr (end2 r)]) (e13 _ _ hL9.a) hT13, _, rfl, ?_⟩
    rw [hka]
    refine iteN rfl ?_
    refine ⟨_, rfl, _, rfl, ut, _, rfl, DGet.t (k := [Sum.inr (place r), Sum.inr (end2 r)]) (e13 _ _ hL9.u) hT13, _, rfl, ?_⟩
    rw [hku]
    refine iteN rfl ?_
    obtain ⟨das, hda, hdp⟩ := id hD13
    refine ⟨_, rfl, D, rfl, ⟨_, SqL.of hda⟩, ?_⟩
    have hdl := Paired.length hdp
    refine comp_rowsP (das.map V.ref) ds notCell (fun H a r => RowAt K H a r) (fun r => [place r, lend r]) jseq_list (SqL.of hda) (by rw [List.length_map]; lia) (by rw [List.length_map]; exact hdl.symm) row_keeps1 (fun i x s hx hs' H4 e4 Q' q' => ?_) (fun i x s hx hs' hpr H4 e4 Q' q' => ?_) fun D4 H4 as4 hD4 e4 hd4 pr4 => ?_
    · obtain ⟨b, hb, rfl⟩ : ∃ b, das[i]? = some b ∧ x = .ref b := by
        rw [List.getElem?_map] at hx
        cases hz : das[i]? with
        | none => rw [hz] at hx; cases hx
        | some b => rw [hz] at hx; exact ⟨b, rfl, (Option.some.inj hx).symm⟩
      have hR : RowAt K H4 b s := (Paired.at2 hdp hb hs').same e4
      have hp := hprow s (hds s (List.mem_of_getElem? hs'))
      refine ⟨_, rfl, b, _, 0, _, rfl, rfl, hR, hp.at0, rfl, _, rfl, ?_⟩
      have := q' H4 (Same.refl _)
      unfold notCell at this
      simpa using this
    · obtain ⟨b, hb, rfl⟩ : ∃ b, das[i]? = some b ∧ x = .ref b := by
        rw [List.getElem?_map] at hx
        cases hz : das[i]? with
        | none => rw [hz] at hx; cases hx
        | some b => rw [hz] at hx; exact ⟨b, rfl, (Option.some.inj hx).symm⟩
      have hR : RowAt K H4 b s := (Paired.at2 hdp hb hs').same e4
      have hp := hprow s (hds s (List.mem_of_getElem? hs'))
      exact ⟨_, rfl, b, s, rfl, hR, hp, fun t' H5 e5 hT5 => q' t' H5 e5 (SqT.of hT5)⟩
    have hT14 := e4 _ _ hT13
    have hle : lend r = end2 r := lend_end (hprow r (List.mem_of_getElem? hj)) hncell
    have hpd : Dp K H4 (.ref t) (dRow [place r, end2 r]) := RowAt.dp (SqT.of hT14)
    have hmr : [place r, end2 r] ∈ (ds.filter notCell).map fun (r : List Str) => [place r, lend r] := List.mem_map.mpr ⟨r, List.mem_filter.mpr ⟨hrd, by unfold notCell; rw [decide_eq_false hncell]; rfl⟩, by rw [hle]⟩
    have hokr : ∀ s ∈ (ds.filter notCell).map fun (r : List Str) => [place r, lend r], ∀ y ∈ s, Ok y := fun s hs' => by
      obtain ⟨s', h1, rfl⟩ := List.mem_map.mp hs'
      obtain ⟨h2, h3⟩ := List.mem_filter.mp h1
      unfold notCell at h3
      exact ok_lend hok (hL9.Pr s' (hds s' h2)) (by simpa using h3)
    have hany : (((ds.filter notCell).map fun (r : List Str) => [place r, lend r]).map dRow).any (fun e => PyData.eqv e (dRow [place r, end2 r])) = true := by
      rw [List.any_eq_true]
      exact ⟨_, List.mem_map.mpr ⟨_, hmr, rfl⟩, PySem.SeqAt.eqv_refl _ (eqOk_row (hokr _ hmr)).1⟩
    refine ⟨_, rfl, _, rfl, D4, _, _, _, rfl, SqL.of hd4, dp_rows pr4, hpd, eqOk_rowsS hokr, eqOk_row (hokr _ hmr), _, rfl, ?_⟩
    rw [hany]
    exact iteB (fun _ => q _) (fun c => by cases c)
end
end K22
namespace K22
open PySem PySem.Spec L2 Mir Kn
theorem all_mk {l : PySem.W.OpenLaw} {w : World} {K : PySem.W.Frag} {h : Heap} {mg : Str → Option Value} {fa Cl f1 f2 f3 f4 f5 f6 f7 f8 f9 f10 f11 f12 f13 f14 f15 f16 f17 f18 f19 f20 f21 f22 f23 f24 f25 f26 f27 : Addr} (X : K.In h) (G : h.Ns mainGlobals mg) (hfa : mg "law" = some (.ref fa))
    {od1 an1 od2 an2 od3 an3 od4 an4 od5 an5 od6 an6 od7 an7 od8 an8 od9 an9 od10 an10 od11 an11 od12 an12 od13 an13 od14 an14 od15 an15 od16 an16 od17 an17 od18 an18 od19 an19 od20 an20 od21 an21 od22 an22 od23 an23 od24 an24 od25 an25 od26 an26 od27 an27 : Option Addr} {sl1 sl2 sl3 sl4 sl5 sl6 sl7 sl8 sl9 sl10 sl11 sl12 sl13 sl14 sl15 sl16 sl17 sl18 sl19 sl20 sl21 sl22 sl23 sl24 sl25 sl26 sl27 : Array (Option Value)} {oc1 kV1 dc1 pm1 cd1 ct1 oc2 kV2 dc2 pm2 cd2 ct2 oc3 kV3 dc3 pm3 cd3 ct3 oc4 kV4 dc4 pm4 cd4 ct4 oc5 kV5 dc5 pm5 cd5 ct5 oc6 kV6 dc6 pm6 cd6 ct6 oc7 kV7 dc7 pm7 cd7 ct7 oc8 kV8 dc8 pm8 cd8 ct8 oc9 kV9 dc9 pm9 cd9 ct9 oc10 kV10 dc10 pm10 cd10 ct10 oc11 kV11 dc11 pm11 cd11 ct11 oc12 kV12 dc12 pm12 cd12 ct12 oc13 kV13 dc13 pm13 cd13 ct13 oc14 kV14 dc14 pm14 cd14 ct14 oc15 kV15 dc15 pm15 cd15 ct15 oc16 kV16 dc16 pm16 cd16 ct16 oc17 kV17 dc17 pm17 cd17 ct17 oc18 kV18 dc18 pm18 cd18 ct18 oc19 kV19 dc19 pm19 cd19 ct19 oc20 kV20 dc20 pm20 cd20 ct20 oc21 kV21 dc21 pm21 cd21 ct21 oc22 kV22 dc22 pm22 cd22 ct22 oc23 kV23 dc23 pm23 cd23 ct23 oc24 kV24 dc24 pm24 cd24 ct24 oc25 kV25 dc25 pm25 cd25 ct25 oc26 kV26 dc26 pm26 cd26 ct26 oc27 kV27 dc27 pm27 cd27 ct27 : Value}
    (aC : PySem.W.nsIn K mainGlobals "Knowledge" = some (some (.ref Cl)))
    (a1 : PySem.W.nsIn K mainGlobals "heads_of" = some (some (.ref f1)))
    (l1 : K.lookup f1 = some ⟨oc1, od1, .func (PySem.W.fnOf "heads_of" "heads_of" (defArgs sHeadsOf) (defBody sHeadsOf) (defScope sHeadsOf) .none kV1 dc1 pm1 an1 cd1 ct1), sl1⟩) (c1 : PySem.W.codeIn K cd1 "heads_of" = true) (k1 : PySem.W.keepIn K (.ref f1) = true)
    (a2 : PySem.W.nsIn K mainGlobals "ends_of" = some (some (.ref f2)))
    (l2 : K.lookup f2 = some ⟨oc2, od2, .func (PySem.W.fnOf "ends_of" "ends_of" (defArgs sEndsOf) (defBody sEndsOf) (defScope sEndsOf) .none kV2 dc2 pm2 an2 cd2 ct2), sl2⟩) (c2 : PySem.W.codeIn K cd2 "ends_of" = true) (k2 : PySem.W.keepIn K (.ref f2) = true)
    (a3 : PySem.W.nsIn K mainGlobals "open_pair" = some (some (.ref f3)))
    (l3 : K.lookup f3 = some ⟨oc3, od3, .func (PySem.W.fnOf "open_pair" "open_pair" (defArgs sOpenP) (defBody sOpenP) (defScope sOpenP) .none kV3 dc3 pm3 an3 cd3 ct3), sl3⟩) (c3 : PySem.W.codeIn K cd3 "open_pair" = true) (k3 : PySem.W.keepIn K (.ref f3) = true)
    (a4 : PySem.W.nsIn K mainGlobals "_law_cell_at" = some (some (.ref f4)))
    (l4 : K.lookup f4 = some ⟨oc4, od4, .func (PySem.W.fnOf "_law_cell_at" "_law_cell_at" (defArgs sCell) (defBody sCell) (defScope sCell) .none kV4 dc4 pm4 an4 cd4 ct4), sl4⟩) (c4 : PySem.W.codeIn K cd4 "_law_cell_at" = true) (k4 : PySem.W.keepIn K (.ref f4) = true)
    (a5 : PySem.W.nsIn K mainGlobals "_law_mixed" = some (some (.ref f5)))
    (l5 : K.lookup f5 = some ⟨oc5, od5, .func (PySem.W.fnOf "_law_mixed" "_law_mixed" (defArgs sMixed) (defBody sMixed) (defScope sMixed) .none kV5 dc5 pm5 an5 cd5 ct5), sl5⟩) (c5 : PySem.W.codeIn K cd5 "_law_mixed" = true) (k5 : PySem.W.keepIn K (.ref f5) = true)
    (a6 : PySem.W.nsIn K mainGlobals "_law_free_names" = some (some (.ref f6)))
    (l6 : K.lookup f6 = some ⟨oc6, od6, .func (PySem.W.fnOf "_law_free_names" "_law_free_names" (defArgs sFree) (defBody sFree) (defScope sFree) .none kV6 dc6 pm6 an6 cd6 ct6), sl6⟩) (c6 : PySem.W.codeIn K cd6 "_law_free_names" = true) (k6 : PySem.W.keepIn K (.ref f6) = true)
    (a7 : PySem.W.nsIn K mainGlobals "_law_names" = some (some (.ref f7)))
    (l7 : K.lookup f7 = some ⟨oc7, od7, .func (PySem.W.fnOf "_law_names" "_law_names" (defArgs sNames) (defBody sNames) (defScope sNames) .none kV7 dc7 pm7 an7 cd7 ct7), sl7⟩) (c7 : PySem.W.codeIn K cd7 "_law_names" = true) (k7 : PySem.W.keepIn K (.ref f7) = true)
    (a8 : PySem.W.nsIn K mainGlobals "_law_drawn" = some (some (.ref f8)))
    (l8 : K.lookup f8 = some ⟨oc8, od8, .func (PySem.W.fnOf "_law_drawn" "_law_drawn" (defArgs sDrawn) (defBody sDrawn) (defScope sDrawn) .none kV8 dc8 pm8 an8 cd8 ct8), sl8⟩) (c8 : PySem.W.codeIn K cd8 "_law_drawn" = true) (k8 : PySem.W.keepIn K (.ref f8) = true)
    (a9 : PySem.W.nsIn K mainGlobals "_law_ends" = some (some (.ref f9)))
    (l9 : K.lookup f9 = some ⟨oc9, od9, .func (PySem.W.fnOf "_law_ends" "_law_ends" (defArgs sLEnds) (defBody sLEnds) (defScope sLEnds) .none kV9 dc9 pm9 an9 cd9 ct9), sl9⟩) (c9 : PySem.W.codeIn K cd9 "_law_ends" = true) (k9 : PySem.W.keepIn K (.ref f9) = true)
    (a10 : PySem.W.nsIn K mainGlobals "_law_put" = some (some (.ref f10)))
    (l10 : K.lookup f10 = some ⟨oc10, od10, .func (PySem.W.fnOf "_law_put" "_law_put" (defArgs sPut) (defBody sPut) (defScope sPut) .none kV10 dc10 pm10 an10 cd10 ct10), sl10⟩) (c10 : PySem.W.codeIn K cd10 "_law_put" = true) (k10 : PySem.W.keepIn K (.ref f10) = true)
    (a11 : PySem.W.nsIn K mainGlobals "_law_is_full" = some (some (.ref f11)))
    (l11 : K.lookup f11 = some ⟨oc11, od11, .func (PySem.W.fnOf "_law_is_full" "_law_is_full" (defArgs sIsFull) (defBody sIsFull) (defScope sIsFull) .none kV11 dc11 pm11 an11 cd11 ct11), sl11⟩) (c11 : PySem.W.codeIn K cd11 "_law_is_full" = true) (k11 : PySem.W.keepIn K (.ref f11) = true)
    (a12 : PySem.W.nsIn K mainGlobals "_law_places_apart" = some (some (.ref f12)))
    (l12 : K.lookup f12 = some ⟨oc12, od12, .func (PySem.W.fnOf "_law_places_apart" "_law_places_apart" (defArgs sApart) (defBody sApart) (defScope sApart) .none kV12 dc12 pm12 an12 cd12 ct12), sl12⟩) (c12 : PySem.W.codeIn K cd12 "_law_places_apart" = true) (k12 : PySem.W.keepIn K (.ref f12) = true)
    (a13 : PySem.W.nsIn K mainGlobals "_law_known" = some (some (.ref f13)))
    (l13 : K.lookup f13 = some ⟨oc13, od13, .func (PySem.W.fnOf "_law_known" "_law_known" (defArgs sKnownL) (defBody sKnownL) (defScope sKnownL) .none kV13 dc13 pm13 an13 cd13 ct13), sl13⟩) (c13 : PySem.W.codeIn K cd13 "_law_known" = true) (k13 : PySem.W.keepIn K (.ref f13) = true)
    (a14 : PySem.W.nsIn K mainGlobals "_law_standing" = some (some (.ref f14)))
    (l14 : K.lookup f14 = some ⟨oc14, od14, .func (PySem.W.fnOf "_law_standing" "_law_standing" (defArgs sStand) (defBody sStand) (defScope sStand) .none kV14 dc14 pm14 an14 cd14 ct14), sl14⟩) (c14 : PySem.W.codeIn K cd14 "_law_standing" = true) (k14 : PySem.W.keepIn K (.ref f14) = true)
    (a15 : PySem.W.nsIn K mainGlobals "_law_doubtful" = some (some (.ref f15)))
    (l15 : K.lookup f15 = some ⟨oc15, od15, .func (PySem.W.fnOf "_law_doubtful" "_law_doubtful" (defArgs sDoubt) (defBody sDoubt) (defScope sDoubt) .none kV15 dc15 pm15 an15 cd15 ct15), sl15⟩) (c15 : PySem.W.codeIn K cd15 "_law_doubtful" = true) (k15 : PySem.W.keepIn K (.ref f15) = true)
    (a16 : PySem.W.nsIn K mainGlobals "law" = some (some (.ref f16)))
    (l16 : K.lookup f16 = some ⟨oc16, od16, .func (PySem.W.fnOf "law" "law" (defArgs sLaw) (defBody sLaw) (defScope sLaw) .none kV16 dc16 pm16 an16 cd16 ct16), sl16⟩) (c16 : PySem.W.codeIn K cd16 "law" = true) (k16 : PySem.W.keepIn K (.ref f16) = true)
    (a17 : PySem.W.findIn K (.ref Cl) "__init__" = some (some (.ref f17))) (i17 : PySem.W.isFn K (.ref f17) = true)
    (l17 : K.lookup f17 = some ⟨oc17, od17, .func (PySem.W.fnOf "__init__" "Knowledge.__init__" (defArgs sInit) (defBody sInit) (defScope sInit) .none kV17 dc17 pm17 an17 cd17 ct17), sl17⟩) (c17 : PySem.W.codeIn K cd17 "Knowledge.__init__" = true) (k17 : PySem.W.keepIn K (.ref f17) = true)
    (a18 : PySem.W.findIn K (.ref Cl) "head" = some (some (.ref f18))) (i18 : PySem.W.isFn K (.ref f18) = true)
    (l18 : K.lookup f18 = some ⟨oc18, od18, .func (PySem.W.fnOf "head" "Knowledge.head" (defArgs sHead) (defBody sHead) (defScope sHead) .none kV18 dc18 pm18 an18 cd18 ct18), sl18⟩) (c18 : PySem.W.codeIn K cd18 "Knowledge.head" = true) (k18 : PySem.W.keepIn K (.ref f18) = true)
    (a19 : PySem.W.findIn K (.ref Cl) "alike" = some (some (.ref f19))) (i19 : PySem.W.isFn K (.ref f19) = true)
    (l19 : K.lookup f19 = some ⟨oc19, od19, .func (PySem.W.fnOf "alike" "Knowledge.alike" (defArgs sAlike) (defBody sAlike) (defScope sAlike) .none kV19 dc19 pm19 an19 cd19 ct19), sl19⟩) (c19 : PySem.W.codeIn K cd19 "Knowledge.alike" = true) (k19 : PySem.W.keepIn K (.ref f19) = true)
    (a20 : PySem.W.findIn K (.ref Cl) "unlike" = some (some (.ref f20))) (i20 : PySem.W.isFn K (.ref f20) = true)
    (l20 : K.lookup f20 = some ⟨oc20, od20, .func (PySem.W.fnOf "unlike" "Knowledge.unlike" (defArgs sUnlike) (defBody sUnlike) (defScope sUnlike) .none kV20 dc20 pm20 an20 cd20 ct20), sl20⟩) (c20 : PySem.W.codeIn K cd20 "Knowledge.unlike" = true) (k20 : PySem.W.keepIn K (.ref f20) = true)
    (a21 : PySem.W.findIn K (.ref Cl) "tell_unlike" = some (some (.ref f21))) (i21 : PySem.W.isFn K (.ref f21) = true)
    (l21 : K.lookup f21 = some ⟨oc21, od21, .func (PySem.W.fnOf "tell_unlike" "Knowledge.tell_unlike" (defArgs sTellU) (defBody sTellU) (defScope sTellU) .none kV21 dc21 pm21 an21 cd21 ct21), sl21⟩) (c21 : PySem.W.codeIn K cd21 "Knowledge.tell_unlike" = true) (k21 : PySem.W.keepIn K (.ref f21) = true)
    (a22 : PySem.W.findIn K (.ref Cl) "is_empty" = some (some (.ref f22))) (i22 : PySem.W.isFn K (.ref f22) = true)
    (l22 : K.lookup f22 = some ⟨oc22, od22, .func (PySem.W.fnOf "is_empty" "Knowledge.is_empty" (defArgs sIsEmpty) (defBody sIsEmpty) (defScope sIsEmpty) .none kV22 dc22 pm22 an22 cd22 ct22), sl22⟩) (c22 : PySem.W.codeIn K cd22 "Knowledge.is_empty" = true) (k22 : PySem.W.keepIn K (.ref f22) = true)
    (a23 : PySem.W.findIn K (.ref Cl) "must_be_full" = some (some (.ref f23))) (i23 : PySem.W.isFn K (.ref f23) = true)
    (l23 : K.lookup f23 = some ⟨oc23, od23, .func (PySem.W.fnOf "must_be_full" "Knowledge.must_be_full" (defArgs sMustFull) (defBody sMustFull) (defScope sMustFull) .none kV23 dc23 pm23 an23 cd23 ct23), sl23⟩) (c23 : PySem.W.codeIn K cd23 "Knowledge.must_be_full" = true) (k23 : PySem.W.keepIn K (.ref f23) = true)
    (a24 : PySem.W.findIn K (.ref Cl) "find_fulls" = some (some (.ref f24))) (i24 : PySem.W.isFn K (.ref f24) = true)
    (l24 : K.lookup f24 = some ⟨oc24, od24, .func (PySem.W.fnOf "find_fulls" "Knowledge.find_fulls" (defArgs sFindF) (defBody sFindF) (defScope sFindF) .none kV24 dc24 pm24 an24 cd24 ct24), sl24⟩) (c24 : PySem.W.codeIn K cd24 "Knowledge.find_fulls" = true) (k24 : PySem.W.keepIn K (.ref f24) = true)
    (a25 : PySem.W.findIn K (.ref Cl) "tell_full" = some (some (.ref f25))) (i25 : PySem.W.isFn K (.ref f25) = true)
    (l25 : K.lookup f25 = some ⟨oc25, od25, .func (PySem.W.fnOf "tell_full" "Knowledge.tell_full" (defArgs sTellF) (defBody sTellF) (defScope sTellF) .none kV25 dc25 pm25 an25 cd25 ct25), sl25⟩) (c25 : PySem.W.codeIn K cd25 "Knowledge.tell_full" = true) (k25 : PySem.W.keepIn K (.ref f25) = true)
    (a26 : PySem.W.findIn K (.ref Cl) "shares_place" = some (some (.ref f26))) (i26 : PySem.W.isFn K (.ref f26) = true)
    (l26 : K.lookup f26 = some ⟨oc26, od26, .func (PySem.W.fnOf "shares_place" "Knowledge.shares_place" (defArgs sShares) (defBody sShares) (defScope sShares) .none kV26 dc26 pm26 an26 cd26 ct26), sl26⟩) (c26 : PySem.W.codeIn K cd26 "Knowledge.shares_place" = true) (k26 : PySem.W.keepIn K (.ref f26) = true)
    (a27 : PySem.W.findIn K (.ref Cl) "open_ends" = some (some (.ref f27))) (i27 : PySem.W.isFn K (.ref f27) = true)
    (l27 : K.lookup f27 = some ⟨oc27, od27, .func (PySem.W.fnOf "open_ends" "Knowledge.open_ends" (defArgs sOpenE) (defBody sOpenE) (defScope sOpenE) .none kV27 dc27 pm27 an27 cd27 ct27), sl27⟩) (c27 : PySem.W.codeIn K cd27 "Knowledge.open_ends" = true) (k27 : PySem.W.keepIn K (.ref f27) = true)
    (z1 : PySem.W.nsIn K mainGlobals "len" = some none)
    (z2 : PySem.W.nsIn K mainGlobals "all" = some none)
    (z3 : PySem.W.nsIn K mainGlobals "any" = some none)
    (z4 : PySem.W.nsIn K mainGlobals "isinstance" = some none)
    (z5 : PySem.W.nsIn K mainGlobals "list" = some none)
    (z6 : PySem.W.nsIn K mainGlobals "int" = some none)
    (z7 : PySem.W.nsIn K mainGlobals "bool" = some none)
    (z8 : PySem.W.nsIn K mainGlobals "str" = some none)
    (z9 : PySem.W.nsIn K mainGlobals "dict" = some none)
    (z10 : PySem.W.nsIn K mainGlobals "sorted" = some none)
    (z11 : PySem.W.nsIn K mainGlobals "set" = some none)
    (z12 : PySem.W.nsIn K mainGlobals "sum" = some none)
    (z13 : PySem.W.nsIn K mainGlobals "range" = some none)
    (z14 : PySem.W.nsIn K mainGlobals "tuple" = some none)
    (z15 : PySem.W.nsIn K mainGlobals "max" = some none)
    (z16 : PySem.W.nsIn K mainGlobals "zip" = some none)
    (pg : PySem.W.plainGet K Cl Str.empty = true) (hd : PySem.W.hasDictIn K Cl = true) (po : PySem.W.plainOver K Cl = true) (sa : PySem.W.findIn K (.ref Cl) "__setattr__" = some (some (.builtin "object.__setattr__"))) (mk : PySem.W.makesIn K Cl = true) (kc : PySem.W.keepIn K (.ref Cl) = true)
    (nP : PySem.W.findIn K (.ref Cl) "parts" = some none) (nH : PySem.W.findIn K (.ref Cl) "heads" = some none) (nU : PySem.W.findIn K (.ref Cl) "unlikes" = some none) (nF : PySem.W.findIn K (.ref Cl) "fulls" = some none) (nE : PySem.W.findIn K (.ref Cl) "not_empty" = some none) :
    ∃ fd : FuncData, (∀ (s : Shared) (v : Value), BindsTo s fd ⟨[v], []⟩ [("_law_script", v)]) ∧ ∀ base : Heap, K.In base → base.Ns mainGlobals mg → FnOk l.prog w K mg base CX0 8 fa fd ["_law_script"] (spLaw K) := by
  have e := hfa.symm.trans (PySem.W.mg_of X G a16)
  cases e
  have F1 := fun_mk (st := sHeadsOf) l1 c1 k1
  have B1 := F1.binds (ps := ["facts"]) fun _ _ _ _ _ _ us hl => match us, hl with | [_], _ => rfl
  have C1 : Cal K mg "heads_of" f1 _ ["facts"] := ⟨PySem.W.mg_of X G a1, k1, B1⟩
  have F2 := fun_mk (st := sEndsOf) l2 c2 k2
  have B2 := F2.binds (ps := ["part"]) fun _ _ _ _ _ _ us hl => match us, hl with | [_], _ => rfl
  have C2 : Cal K mg "ends_of" f2 _ ["part"] := ⟨PySem.W.mg_of X G a2, k2, B2⟩
  have F3 := fun_mk (st := sOpenP) l3 c3 k3
  have B3 := F3.binds (ps := ["facts", "parts"]) fun _ _ _ _ _ _ us hl => match us, hl with | [_, _], _ => rfl
  have C3 : Cal K mg "open_pair" f3 _ ["facts", "parts"] := ⟨PySem.W.mg_of X G a3, k3, B3⟩
  have F4 := fun_mk (st := sCell) l4 c4 k4
  have B4 := F4.binds (ps := ["_law_script", "_law_k"]) fun _ _ _ _ _ _ us hl => match us, hl with | [_, _], _ => rfl
  have C4 : Cal K mg "_law_cell_at" f4 _ ["_law_script", "_law_k"] := ⟨PySem.W.mg_of X G a4, k4, B4⟩
  have F5 := fun_mk (st := sMixed) l5 c5 k5
  have B5 := F5.binds (ps := ["_law_cell", "_law_k"]) fun _ _ _ _ _ _ us hl => match us, hl with | [_, _], _ => rfl
  have C5 : Cal K mg "_law_mixed" f5 _ ["_law_cell", "_law_k"] := ⟨PySem.W.mg_of X G a5, k5, B5⟩
  have F6 := fun_mk (st := sFree) l6 c6 k6
  have B6 := F6.binds (ps := ["_law_cell", "_law_many"]) fun _ _ _ _ _ _ us hl => match us, hl with | [_, _], _ => rfl
  have C6 : Cal K mg "_law_free_names" f6 _ ["_law_cell", "_law_many"] := ⟨PySem.W.mg_of X G a6, k6, B6⟩
  have F7 := fun_mk (st := sNames) l7 c7 k7
  have B7 := F7.binds (ps := ["_law_cell", "_law_many"]) fun _ _ _ _ _ _ us hl => match us, hl with | [_, _], _ => rfl
  have C7 : Cal K mg "_law_names" f7 _ ["_law_cell", "_law_many"] := ⟨PySem.W.mg_of X G a7, k7, B7⟩
  have F8 := fun_mk (st := sDrawn) l8 c8 k8
  have B8 := F8.binds (ps := ["_law_cells", "_law_pool"]) fun _ _ _ _ _ _ us hl => match us, hl with | [_, _], _ => rfl
  have C8 : Cal K mg "_law_drawn" f8 _ ["_law_cells", "_law_pool"] := ⟨PySem.W.mg_of X G a8, k8, B8⟩
  have F9 := fun_mk (st := sLEnds) l9 c9 k9
  have B9 := F9.binds (ps := ["_law_part"]) fun _ _ _ _ _ _ us hl => match us, hl with | [_], _ => rfl
  have C9 : Cal K mg "_law_ends" f9 _ ["_law_part"] := ⟨PySem.W.mg_of X G a9, k9, B9⟩
  have F10 := fun_mk (st := sPut) l10 c10 k10
  have B10 := F10.binds (ps := ["_law_table", "_law_one", "_law_other"]) fun _ _ _ _ _ _ us hl => match us, hl with | [_, _, _], _ => rfl
  have C10 : Cal K mg "_law_put" f10 _ ["_law_table", "_law_one", "_law_other"] := ⟨PySem.W.mg_of X G a10, k10, B10⟩
  have F11 := fun_mk (st := sIsFull) l11 c11 k11
  have B11 := F11.binds (ps := ["_law_part", "_law_unlike"]) fun _ _ _ _ _ _ us hl => match us, hl with | [_, _], _ => rfl
  have C11 : Cal K mg "_law_is_full" f11 _ ["_law_part", "_law_unlike"] := ⟨PySem.W.mg_of X G a11, k11, B11⟩
  have F12 := fun_mk (st := sApart) l12 c12 k12
  have B12 := F12.binds (ps := ["_law_parts", "_law_unlike"]) fun _ _ _ _ _ _ us hl => match us, hl with | [_, _], _ => rfl
  have C12 : Cal K mg "_law_places_apart" f12 _ ["_law_parts", "_law_unlike"] := ⟨PySem.W.mg_of X G a12, k12, B12⟩
  have F13 := fun_mk (st := sKnownL) l13 c13 k13
  have B13 := F13.binds (ps := ["_law_facts", "_law_parts", "_law_pool"]) fun _ _ _ _ _ _ us hl => match us, hl with | [_, _, _], _ => rfl
  have C13 : Cal K mg "_law_known" f13 _ ["_law_facts", "_law_parts", "_law_pool"] := ⟨PySem.W.mg_of X G a13, k13, B13⟩
  have F14 := fun_mk (st := sStand) l14 c14 k14
  have B14 := F14.binds (ps := ["_law_parts", "_law_alike"]) fun _ _ _ _ _ _ us hl => match us, hl with | [_, _], _ => rfl
  have C14 : Cal K mg "_law_standing" f14 _ ["_law_parts", "_law_alike"] := ⟨PySem.W.mg_of X G a14, k14, B14⟩
  have F15 := fun_mk (st := sDoubt) l15 c15 k15
  have B15 := F15.binds (ps := ["_law_parts", "_law_alike"]) fun _ _ _ _ _ _ us hl => match us, hl with | [_, _], _ => rfl
  have C15 : Cal K mg "_law_doubtful" f15 _ ["_law_parts", "_law_alike"] := ⟨PySem.W.mg_of X G a15, k15, B15⟩
  have F16 := fun_mk (st := sLaw) l16 c16 k16
  have F17 := fun_mk (st := sInit) l17 c17 k17
  have B17 := F17.binds (ps := ["self", "facts", "parts"]) fun _ _ _ _ _ _ us hl => match us, hl with | [_, _, _], _ => rfl
  have C17 : MCal K Cl "__init__" f17 _ ["self", "facts", "parts"] := ⟨⟨a17, i17, k17⟩, B17⟩
  have F18 := fun_mk (st := sHead) l18 c18 k18
  have B18 := F18.binds (ps := ["self", "word"]) fun _ _ _ _ _ _ us hl => match us, hl with | [_, _], _ => rfl
  have C18 : MCal K Cl "head" f18 _ ["self", "word"] := ⟨⟨a18, i18, k18⟩, B18⟩
  have F19 := fun_mk (st := sAlike) l19 c19 k19
  have B19 := F19.binds (ps := ["self", "one", "other"]) fun _ _ _ _ _ _ us hl => match us, hl with | [_, _, _], _ => rfl
  have C19 : MCal K Cl "alike" f19 _ ["self", "one", "other"] := ⟨⟨a19, i19, k19⟩, B19⟩
  have F20 := fun_mk (st := sUnlike) l20 c20 k20
  have B20 := F20.binds (ps := ["self", "one", "other"]) fun _ _ _ _ _ _ us hl => match us, hl with | [_, _, _], _ => rfl
  have C20 : MCal K Cl "unlike" f20 _ ["self", "one", "other"] := ⟨⟨a20, i20, k20⟩, B20⟩
  have F21 := fun_mk (st := sTellU) l21 c21 k21
  have B21 := F21.binds (ps := ["self", "one", "other"]) fun _ _ _ _ _ _ us hl => match us, hl with | [_, _, _], _ => rfl
  have C21 : MCal K Cl "tell_unlike" f21 _ ["self", "one", "other"] := ⟨⟨a21, i21, k21⟩, B21⟩
  have F22 := fun_mk (st := sIsEmpty) l22 c22 k22
  have B22 := F22.binds (ps := ["self", "number"]) fun _ _ _ _ _ _ us hl => match us, hl with | [_, _], _ => rfl
  have C22 : MCal K Cl "is_empty" f22 _ ["self", "number"] := ⟨⟨a22, i22, k22⟩, B22⟩
  have F23 := fun_mk (st := sMustFull) l23 c23 k23
  have B23 := F23.binds (ps := ["self", "number"]) fun _ _ _ _ _ _ us hl => match us, hl with | [_, _], _ => rfl
  have C23 : MCal K Cl "must_be_full" f23 _ ["self", "number"] := ⟨⟨a23, i23, k23⟩, B23⟩
  have F24 := fun_mk (st := sFindF) l24 c24 k24
  have B24 := F24.binds (ps := ["self"]) fun _ _ _ _ _ _ us hl => match us, hl with | [_], _ => rfl
  have C24 : MCal K Cl "find_fulls" f24 _ ["self"] := ⟨⟨a24, i24, k24⟩, B24⟩
  have F25 := fun_mk (st := sTellF) l25 c25 k25
  have B25 := F25.binds (ps := ["self", "number"]) fun _ _ _ _ _ _ us hl => match us, hl with | [_, _], _ => rfl
  have C25 : MCal K Cl "tell_full" f25 _ ["self", "number"] := ⟨⟨a25, i25, k25⟩, B25⟩
  have F26 := fun_mk (st := sShares) l26 c26 k26
  have B26 := F26.binds (ps := ["self", "number"]) fun _ _ _ _ _ _ us hl => match us, hl with | [_, _], _ => rfl
  have C26 : MCal K Cl "shares_place" f26 _ ["self", "number"] := ⟨⟨a26, i26, k26⟩, B26⟩
  have F27 := fun_mk (st := sOpenE) l27 c27 k27
  have B27 := F27.binds (ps := ["self"]) fun _ _ _ _ _ _ us hl => match us, hl with | [_], _ => rfl
  have C27 : MCal K Cl "open_ends" f27 _ ["self"] := ⟨⟨a27, i27, k27⟩, B27⟩
  have C : Con K mg w := {
    len := PySem.W.mg_none_of X G z1
    all := PySem.W.mg_none_of X G z2
    any := PySem.W.mg_none_of X G z3
    isi := PySem.W.mg_none_of X G z4
    list := PySem.W.mg_none_of X G z5
    int := PySem.W.mg_none_of X G z6
    bool := PySem.W.mg_none_of X G z7
    str := PySem.W.mg_none_of X G z8
    dict := PySem.W.mg_none_of X G z9
    sorted := PySem.W.mg_none_of X G z10
    set := PySem.W.mg_none_of X G z11
    sum := PySem.W.mg_none_of X G z12
    range := PySem.W.mg_none_of X G z13
    tuple := PySem.W.mg_none_of X G z14
    max := PySem.W.mg_none_of X G z15
    zip := PySem.W.mg_none_of X G z16 }
  have T : Txt K mg Cl f17 := ⟨⟨pg, hd, po, sa⟩, nP, nH, nU, nF, nE, PySem.W.mg_of X G aC, ⟨mk, a17, i17, kc⟩⟩
  refine ⟨PySem.W.fnOf "law" "law" (defArgs sLaw) (defBody sLaw) (defScope sLaw) .none kV16 dc16 pm16 an16 cd16 ct16, fun s v => .of_eq rfl, fun base _ _ => ?_⟩
  have O1 := ok_headsOf (P := l.prog) (base := base) C F1
  have O2 := ok_ends (P := l.prog) (w := w) (mg := mg) (base := base) F2
  have O18 := ok_head (P := l.prog) (w := w) (base := base) T F18
  have O19 := ok_alike  T F19 O18 C18
  have O20 := ok_unlike  T F20 O18 C18
  have O21 := ok_tellU  T F21 O18 C18
  have O22 := ok_empty  T F22 O2 C2 O19 C19
  have O23 := ok_must  T F23 O2 C2 O20 C20
  have O25 := ok_tellF  T F25 O21 C21
  have O26 := ok_shares  C T F26 O19 C19
  have OT := ok_endsT (P := l.prog) (w := w) (mg := mg) (base := base) F2
  have O27 := ok_openE T F27 OT C2 O26 C26
  have O24 := ok_find  C T F24 O23 C23 O25 C25
  have O17 := ok_initP  C T F17 O1 C1 O21 C21 O24 C24 O22 C22
  have O3 := ok_openP  C T F3 O17 B17 O27 C27
  have O4 := ok_cellAt (P := l.prog) (base := base) C F4
  have O5 := ok_mixed (P := l.prog) (base := base) C F5
  have O6 := ok_free (P := l.prog) (base := base) C F6
  have O7 := ok_names  C F7 O6 C6
  have O8 := ok_drawn  C F8 O5 C5
  have O9 := ok_lends (P := l.prog) (w := w) (mg := mg) (base := base) F9
  have O10 := ok_put (P := l.prog) (w := w) (mg := mg) (base := base) F10
  have O11 := ok_isFull  F11 O9 C9
  have O12 := ok_apart  C F12 O11 C11 O10 C10
  have O13 := ok_knownL  C F13 O12 C12 O10 C10
  have O14 := ok_stand  C F14 O9 C9
  have O15 := ok_doubt  C F15 O14 C14
  exact ok_law C F16 O4 C4 O7 C7 O8 C8 O13 C13 O3 C3 O15 C15 O9 C9
theorem walk {l : PySem.W.OpenLaw} {q : Program} {loose : List Str} {XP : (Str → Option Value) → Heap → Prop} {YP : World → Heap → Prop} {d : DefRec} {K : Params → PySem.W.Frag} (hn : l.most = some 63) (hdf : d.params.defaults = [])
    (hY : ∀ (w : World) (h : Heap), YP w h → (K w.params).In h)
    (F : ∀ (w : World) (mg : Str → Option Value) (fa : Addr) (h : Heap), (K w.params).In h → h.Ns mainGlobals mg → mg d.name = some (.ref fa) →
      ∃ fd : FuncData, (∀ (s : Shared) (u : Value), BindsTo s fd ⟨[u], []⟩ [("_law_script", u)]) ∧ ∀ base : Heap, (K w.params).In base → base.Ns mainGlobals mg → FnOk l.prog w (K w.params) mg base CX0 8 fa fd ["_law_script"] (spLaw (K w.params))) :
    PySem.W.WalkO q loose XP YP l.row.toRowW d [] (fun f vs => PySem.call f vs) :=
  L2.walk_of (n := 63) (k := 8) (x := "_law_script") (CX := fun _ => CX0) (sp := fun w => spLaw (K w.params)) hn (by decide) hdf ⟨rfl, by decide, by decide⟩ hY F (fun _ _ a ns hl _ hS => ⟨a, ns, rfl, hS, fun _ => rfl⟩) fun _ _ _ _ _ z => z
end K22
open PySem PySem.W PyProof.Rows
set_option maxRecDepth 100000 in
set_option maxHeartbeats 0 in
theorem PySem.Challenge.cw_apart_k22_open_pairs_holds : PySem.Challenge.rw_apart_k22_open_pairs.Holds := by
  w_on; o_law; k_head; (case hw => w_witness2)
  k_fill
  refine K22.walk (l := PySem.Challenge.rw_apart_k22_open_pairs) rfl rfl (fun w h Y => PySem.W.kIn_of Y) ?F
  case F =>
    intro w mg fa h KX G hmg
    refine' K22.all_mk KX G hmg ?aC ?a1 ?l1 ?c1 ?k1 ?a2 ?l2 ?c2 ?k2 ?a3 ?l3 ?c3 ?k3 ?a4 ?l4 ?c4 ?k4 ?a5 ?l5 ?c5 ?k5 ?a6 ?l6 ?c6 ?k6 ?a7 ?l7 ?c7 ?k7 ?a8 ?l8 ?c8 ?k8 ?a9 ?l9 ?c9 ?k9 ?a10 ?l10 ?c10 ?k10 ?a11 ?l11 ?c11 ?k11 ?a12 ?l12 ?c12 ?k12 ?a13 ?l13 ?c13 ?k13 ?a14 ?l14 ?c14 ?k14 ?a15 ?l15 ?c15 ?k15 ?a16 ?l16 ?c16 ?k16 ?a17 ?i17 ?l17 ?c17 ?k17 ?a18 ?i18 ?l18 ?c18 ?k18 ?a19 ?i19 ?l19 ?c19 ?k19 ?a20 ?i20 ?l20 ?c20 ?k20 ?a21 ?i21 ?l21 ?c21 ?k21 ?a22 ?i22 ?l22 ?c22 ?k22 ?a23 ?i23 ?l23 ?c23 ?k23 ?a24 ?i24 ?l24 ?c24 ?k24 ?a25 ?i25 ?l25 ?c25 ?k25 ?a26 ?i26 ?l26 ?c26 ?k26 ?a27 ?i27 ?l27 ?c27 ?k27 ?z1 ?z2 ?z3 ?z4 ?z5 ?z6 ?z7 ?z8 ?z9 ?z10 ?z11 ?z12 ?z13 ?z14 ?z15 ?z16 ?pg ?hd ?po ?sa ?mk ?kc ?nP ?nH ?nU ?nF ?nE
    (case aC => k_is)
    (case a1 => k_is)
    (case l1 => k_is)
    (case c1 => k_is)
    (case k1 => k_is)
    (case a2 => k_is)
    (case l2 => k_is)
    (case c2 => k_is)
    (case k2 => k_is)
    (case a3 => k_is)
    (case l3 => k_is)
    (case c3 => k_is)
    (case k3 => k_is)
    (case a4 => k_is)
    (case l4 => k_is)
    (case c4 => k_is)
    (case k4 => k_is)
    (case a5 => k_is)
    (case l5 => k_is)
    (case c5 => k_is)
    (case k5 => k_is)
    (case a6 => k_is)
    (case l6 => k_is)
    (case c6 => k_is)
    (case k6 => k_is)
    (case a7 => k_is)
    (case l7 => k_is)
    (case c7 => k_is)
    (case k7 => k_is)
    (case a8 => k_is)
    (case l8 => k_is)
    (case c8 => k_is)
    (case k8 => k_is)
    (case a9 => k_is)
    (case l9 => k_is)
    (case c9 => k_is)
    (case k9 => k_is)
    (case a10 => k_is)
    (case l10 => k_is)
    (case c10 => k_is)
    (case k10 => k_is)
    (case a11 => k_is)
    (case l11 => k_is)
    (case c11 => k_is)
    (case k11 => k_is)
    (case a12 => k_is)
    (case l12 => k_is)
    (case c12 => k_is)
    (case k12 => k_is)
    (case a13 => k_is)
    (case l13 => k_is)
    (case c13 => k_is)
    (case k13 => k_is)
    (case a14 => k_is)
    (case l14 => k_is)
    (case c14 => k_is)
    (case k14 => k_is)
    (case a15 => k_is)
    (case l15 => k_is)
    (case c15 => k_is)
    (case k15 => k_is)
    (case a16 => k_is)
    (case l16 => k_is)
    (case c16 => k_is)
    (case k16 => k_is)
    (case a17 => k_is)
    (case i17 => k_is)
    (case l17 => k_is)
    (case c17 => k_is)
    (case k17 => k_is)
    (case a18 => k_is)
    (case i18 => k_is)
    (case l18 => k_is)
    (case c18 => k_is)
    (case k18 => k_is)
    (case a19 => k_is)
    (case i19 => k_is)
    (case l19 => k_is)
    (case c19 => k_is)
    (case k19 => k_is)
    (case a20 => k_is)
    (case i20 => k_is)
    (case l20 => k_is)
    (case c20 => k_is)
    (case k20 => k_is)
    (case a21 => k_is)
    (case i21 => k_is)
    (case l21 => k_is)
    (case c21 => k_is)
    (case k21 => k_is)
    (case a22 => k_is)
    (case i22 => k_is)
    (case l22 => k_is)
    (case c22 => k_is)
    (case k22 => k_is)
    (case a23 => k_is)
    (case i23 => k_is)
    (case l23 => k_is)
    (case c23 => k_is)
    (case k23 => k_is)
    (case a24 => k_is)
    (case i24 => k_is)
    (case l24 => k_is)
    (case c24 => k_is)
    (case k24 => k_is)
    (case a25 => k_is)
    (case i25 => k_is)
    (case l25 => k_is)
    (case c25 => k_is)
    (case k25 => k_is)
    (case a26 => k_is)
    (case i26 => k_is)
    (case l26 => k_is)
    (case c26 => k_is)
    (case k26 => k_is)
    (case a27 => k_is)
    (case i27 => k_is)
    (case l27 => k_is)
    (case c27 => k_is)
    (case k27 => k_is)
    (case z1 => k_is)
    (case z2 => k_is)
    (case z3 => k_is)
    (case z4 => k_is)
    (case z5 => k_is)
    (case z6 => k_is)
    (case z7 => k_is)
    (case z8 => k_is)
    (case z9 => k_is)
    (case z10 => k_is)
    (case z11 => k_is)
    (case z12 => k_is)
    (case z13 => k_is)
    (case z14 => k_is)
    (case z15 => k_is)
    (case z16 => k_is)
    (case pg => k_is)
    (case hd => k_is)
    (case po => k_is)
    (case sa => k_is)
    (case mk => k_is)
    (case kc => k_is)
    (case nP => k_is)
    (case nH => k_is)
    (case nU => k_is)
    (case nF => k_is)
    (case nE => k_is)
